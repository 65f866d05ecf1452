import Derived.Test.YtlnjhimbgckdcaaGreatPk16
import Derived.Test.YtlnjhimbgckdcaaGreatPk22
import Derived.Test.YtlnjhimbgckdcaaGreatPk27
import Derived.Test.YtlnjhimbgckdcaaGreatPk28
import Derived.Test.YtlnjhimbgckdcaaGreatPk29
import Derived.Test.YtlnjhimbgckdcaaGreatPk30
import Derived.Test.YtlnjhimbgckdcaaGreatPk38
import Derived.Test.YtlnjhimbgckdcaaGreatPk39
import Derived.Test.YtlnjhimbgckdcaaGreatPk40
import Derived.Test.YtlnjhimbgckdcaaGreatPk18

/-
  The statements of the law NamedPast that draw their order.
-/
namespace Go.Proofs.YtlnjhimbgckdcaaGreat
open Go.RowKit Go.Maps

section
variable {ops : Array Oper} {Q : Exit -> Act -> World -> Prop} {K : Act -> World -> Prop} {i : Nat} {dst : Option Tmp} {js : List Nat} {a : Act} {w w0 : World}
theorem OpIs.slice3RN {j k m : Tmp} {A : Option Addr} {n c : Nat} (h : OpIs ops i (.slice 39 (.tmp j) none (some (.tmp k)) (some (.tmp m))) dst js) (hj : a.eval (.tmp j) = .slice A n c) (hk' : a.eval (.tmp k) = .int .i64 (n : Nat)) (hm : a.eval (.tmp m) = .int .i64 (n : Nat)) (hc : n <= c)
    (hk : K (a.put dst (.slice A n n)) w) : wpOp Tryz.prog ops Q i K a w :=
  h.go fun op h1 h2 => by
    have hr : (execOp a.eval op).run Tryz.prog w = .ok (.value (.slice A n n)) w := by
      unfold execOp
      rw [h1]
      simp only [Option.map_some, Option.map_none, hj, hk', hm]
      go_simp
    unfold Oper.wp
    rw [hr]
    show K _ _
    rw [h2]
    exact hk
end
section
variable {P : Program} {e : TypeId} {w : World} {xs : List PaC}
theorem run_append_any_ns (t ty : TypeId) (i : TypeInfo) (z : Value) (bytes : Nat) (ht : P.underlying t = some (.slice e)) (hi : P.info? e = some i) (hz : i.zero = some z) (hsize : i.size = 4) (hby : i.bytes = bytes)
    {A0 : Option Addr} {n : Nat} {m : Nat} (h0r : RowK 4 w A0 n (xs.map paL)) (A : Option Addr) (c : Nat) (ys : List PaC) (h0 : 0 < m) (hr : RowK 4 w A m (ys.map paL)) (hb : n + m <= 2000000) (hbb : bytes <= 1000) :
    ∃ v' w', (Builtin.append_ #[t, t] ty #[.slice A0 n n, .slice A m c]).run P w = .ok v' w' /\ ∃ A' c', Later w w' /\ v' = .slice A' (n + m) c' /\ n + m <= c' /\ RowK 4 w' A' (n + m) ((xs ++ ys).map paL) := by
  have hbig : (n + m) * bytes <= 140737488355328 := Nat.le_trans (Nat.mul_le_mul hb hbb) (by omega)
  have hl := hr.len
  have hl0 := h0r.len
  simp only [List.length_map] at hl hl0
  subst hby
  have hlx : (xs.map paL).flatten.length = n * 4 := by rw [flat_length h0r.2.1]; simp [hl0]
  have hly : (ys.map paL).flatten.length = m * 4 := by rw [flat_length hr.2.1]; simp [hl]
  obtain ⟨b, o, rfl, hc⟩ := hr.2.2 h0
  have fin : ∀ old, ∃ A' c', Later w (w.drew.alloc (.cells ((xs.map paL).flatten.toArray ++ (ys.map paL).flatten.toArray ++ Builtin.zeroCells z.cells (grownCap w (n + m) old e - (n + m))) e)) /\ (.slice (some ⟨w.heap.size, 0, none⟩) (n + m) (grownCap w (n + m) old e) : Value) = .slice A' (n + m) c' /\ n + m <= c' /\ RowK 4 (w.drew.alloc (.cells ((xs.map paL).flatten.toArray ++ (ys.map paL).flatten.toArray ++ Builtin.zeroCells z.cells (grownCap w (n + m) old e - (n + m))) e)) A' (n + m) ((xs ++ ys).map paL) := by
    intro old
    refine ⟨_, _, (Later.refl w).drew.alloc _, rfl, grownCap_ge w (n + m) old e, by simp; omega, fun cs hcs => ?_, fun _ => ⟨_, 0, rfl, fun j i cs u hj hi => ?_⟩⟩
    · obtain ⟨y, _, rfl⟩ := List.mem_map.1 hcs
      rfl
    · have hcs : ∀ cs ∈ (xs ++ ys).map paL, cs.length = 4 := fun cs hcs => by obtain ⟨y, _, rfl⟩ := List.mem_map.1 hcs; rfl
      have hi4 : i < 4 := by
        have h1 := (List.getElem?_eq_some_iff.1 hi).1
        rw [hcs _ (List.mem_of_getElem? hj)] at h1
        exact h1
      have hat := flat_at (i := i) hcs hj hi4
      rw [hi] at hat
      have hlt := (List.getElem?_eq_some_iff.1 hat).1
      have e1 : ((xs ++ ys).map paL).flatten = (xs.map paL).flatten ++ (ys.map paL).flatten := by rw [List.map_append, List.flatten_append]
      rw [e1] at hat hlt
      have hb : BoxAt (w.drew.alloc (.cells ((xs.map paL).flatten.toArray ++ (ys.map paL).flatten.toArray ++ Builtin.zeroCells z.cells (grownCap w (n + m) old e - (n + m))) e)) w.heap.size ((xs.map paL).flatten.toArray ++ (ys.map paL).flatten.toArray ++ Builtin.zeroCells z.cells (grownCap w (n + m) old e - (n + m))) e := BoxAt.made w.drew _ e
      rw [Nat.zero_add]
      refine hb.cell ?_
      rw [Array.getElem?_append_left (by simp only [Array.size_append, List.size_toArray]; rw [List.length_append] at hlt; exact hlt)]
      rw [← hat]
      simp
  cases A0 with
  | none =>
    have hn0 : n = 0 := by
      rcases Nat.eq_zero_or_pos n with h | h
      · exact h
      · obtain ⟨_, _, h, _⟩ := h0r.2.2 h
        cases h
    subst hn0
    obtain rfl : xs = [] := List.eq_nil_of_length_eq_zero hl0
    have hrun := run_append_nil (P := P) w t ty e i z ht hi hz ⟨b, o, none⟩ m c (ys.map paL).flatten (by rw [hly, hsize]) (paL_cells hr hc) h0 (by omega) (by simp only [Nat.zero_add] at hbig; omega)
    have h2 := fin 0
    simp only [Nat.zero_add, List.map_nil, List.flatten_nil, List.nil_append] at h2 hrun ⊢
    refine ⟨_, _, hrun, ?_⟩
    simpa using h2
  | some a =>
    have holds : ∀ j u, (xs.map paL).flatten[j]? = some u -> w.cell? (a.add j) = some u := by
      rcases Nat.eq_zero_or_pos n with h | h
      · subst h
        obtain rfl : xs = [] := List.eq_nil_of_length_eq_zero hl0
        intro j u hu
        simp at hu
      · obtain ⟨b0, o0, he, hc0⟩ := h0r.2.2 h
        cases he
        exact paL_cells h0r hc0
    have hrun := run_append_grow (P := P) w t ty e i z ht hi hz a n n (xs.map paL).flatten (by rw [hlx, hsize]) holds ⟨b, o, none⟩ m c (ys.map paL).flatten (by rw [hly, hsize]) (paL_cells hr hc) (by omega) (by omega) (growslice_fits (by omega) hbig)
    exact ⟨_, _, hrun, fin n⟩
end
def nmPs1_R (A : Option Addr) (n c : Nat) (xs : List PaC) (q : PaC) : Nat -> Value -> World -> Prop
  | 0, v, _ => v = .slice A n c
  | 1, v, _ => v = .slice A n c
  | 2, v, _ => v = .int .i64 (n : Nat)
  | 3, v, _ => v = .slice A n c
  | 4, v, _ => v = .int .i64 (n : Nat)
  | 5, v, _ => v = .slice A n n
  | 6, v, _ => v = paV q
  | 7, v, w => ∃ g, v = .slice (some ⟨g, 0, none⟩) 1 1 /\ RowK 4 w (some ⟨g, 0, none⟩) 1 ([q].map paL)
  | 8, v, w => ∃ A c, v = .slice A (n + 1) c /\ CameNs w A (n + 1) c (xs ++ [q])
  | 9, v, _ => v = .bool (fewNs (n + 1) (xs ++ [q]))
  | 10, v, _ => v = .bool (!(fewNs (n + 1) (xs ++ [q])))
  | _, _, _ => True
set_option maxRecDepth 100000 in
set_option maxHeartbeats 1600000 in
theorem nmPs1 {ops : Array Oper} (hn : ops.size = 11) (hg : goesBack ops = true)
    (o0 : OpIs ops 0 (.move (.tmp 0)) (some 11) [])
    (o1 : OpIs ops 1 (.move (.tmp 0)) (some 12) [])
    (o2 : OpIs ops 2 (.call { callee := .builtin .len, args := #[.tmp 12], argTypes := #[39] }) (some 13) [1])
    (o3 : OpIs ops 3 (.move (.tmp 0)) (some 14) [])
    (o4 : OpIs ops 4 (.call { callee := .builtin .len, args := #[.tmp 14], argTypes := #[39] }) (some 15) [3])
    (o5 : OpIs ops 5 (.slice 39 (.tmp 11) none (some (.tmp 13)) (some (.tmp 15))) (some 16) [0, 2, 4])
    (o6 : OpIs ops 6 (.load 25 (.tmp 3)) (some 17) [])
    (o7 : OpIs ops 7 (.buildSlice 39 1 #[(0, .tmp 17)]) (some 18) [6])
    (o8 : OpIs ops 8 (.call { callee := .builtin .append, args := #[.tmp 16, .tmp 18], argTypes := #[39, 39] }) (some 19) [5, 7])
    (o9 : OpIs ops 9 (.call { callee := .value (.func 7), args := #[.tmp 19], argTypes := #[39] }) (some 20) [8])
    (o10 : OpIs ops 10 (.unOp .not 4 (.tmp 20)) (some 21) [9])
    {a1 : Act} (hs : 61 <= a1.tmps.size) {wx : World} {A : Option Addr} {n c g3 : Nat} {xs : List PaC} {q : PaC} (e0 : a1.eval (.tmp 0) = .slice A n c) (e3 : a1.eval (.tmp 3) = .pointer (some ⟨g3, 0, none⟩)) (hx : CameNs wx A n c xs) (hq : CameN wx q) (hwt : weightNs xs + n + weightN q + 1 <= 1048576) (hb3 : BoxAt wx g3 (paL q).toArray 25)
    {Q : Exit -> Act -> World -> Prop} {id : Nat} (hend : ∀ (a : Act) (w : World), SameOut a1 a [11, 12, 13, 14, 15, 16, 17, 18, 19, 20, 21] -> Later wx w -> a.eval (.tmp 21) = .bool (!(fewNs (n + 1) (xs ++ [q]))) -> Q .normal a w) :
    (Code.region id ops true).wp Tryz.prog Q a1 wx := by
  refine region_reads (n := 11) (by kernel_rfl) hg hn [11, 12, 13, 14, 15, 16, 17, 18, 19, 20, 21] (by decide +kernel) rfl (fun d hd => ?_) (nmPs1_R A n c xs q) ?_ ?_
  · have : d < 61 := by
      have h : ∀ d ∈ ([11, 12, 13, 14, 15, 16, 17, 18, 19, 20, 21] : List Nat), d < 61 := by decide +kernel
      exact h d hd
    omega
  · intro l a w i o K ho hi hwait so hl0 F hK
    have hc : i = 0 ∨ i = 1 ∨ i = 2 ∨ i = 3 ∨ i = 4 ∨ i = 5 ∨ i = 6 ∨ i = 7 ∨ i = 8 ∨ i = 9 ∨ i = 10 := by omega
    rcases hc with rfl | rfl | rfl | rfl | rfl | rfl | rfl | rfl | rfl | rfl | rfl
    · refine o0.move ?_
      rw [show a.eval (.tmp 0) = .slice A n c from ((show _ = a1.eval _ from by simp only [Act.eval, Array.getD_eq_getD_getElem?, so.out 0 (by decide)]).trans e0)]
      exact hK _ _ (Later.refl w) rfl
    · refine o1.move ?_
      rw [show a.eval (.tmp 0) = .slice A n c from ((show _ = a1.eval _ from by simp only [Act.eval, Array.getD_eq_getD_getElem?, so.out 0 (by decide)]).trans e0)]
      exact hK _ _ (Later.refl w) rfl
    · have ws := o2.waits ho hwait
      have f1 : a.eval (.tmp 12) = .slice A n c := by obtain ⟨_, _, _, h⟩ := F 1 (ws 1 (by simp)) (by decide); exact h
      refine o2.lenRN f1 ?_
      exact hK _ _ (Later.refl w) rfl
    · refine o3.move ?_
      rw [show a.eval (.tmp 0) = .slice A n c from ((show _ = a1.eval _ from by simp only [Act.eval, Array.getD_eq_getD_getElem?, so.out 0 (by decide)]).trans e0)]
      exact hK _ _ (Later.refl w) rfl
    · have ws := o4.waits ho hwait
      have f3 : a.eval (.tmp 14) = .slice A n c := by obtain ⟨_, _, _, h⟩ := F 3 (ws 3 (by simp)) (by decide); exact h
      refine o4.lenRN f3 ?_
      exact hK _ _ (Later.refl w) rfl
    · have ws := o5.waits ho hwait
      have f0 : a.eval (.tmp 11) = .slice A n c := by obtain ⟨_, _, _, h⟩ := F 0 (ws 0 (by simp)) (by decide); exact h
      have f2 : a.eval (.tmp 13) = .int .i64 (n : Nat) := by obtain ⟨_, _, _, h⟩ := F 2 (ws 2 (by simp)) (by decide); exact h
      have f4 : a.eval (.tmp 15) = .int .i64 (n : Nat) := by obtain ⟨_, _, _, h⟩ := F 4 (ws 4 (by simp)) (by decide); exact h
      refine o5.slice3RN f0 f2 f4 hx.room ?_
      exact hK _ _ (Later.refl w) rfl
    · refine o6.loadA Tryz.underlying25 Tryz.rpatchSize ((show _ = a1.eval _ from by simp only [Act.eval, Array.getD_eq_getD_getElem?, so.out 3 (by decide)]).trans e3) (hb3.later hl0) ?_
      exact hK _ _ (Later.refl w) rfl
    · have ws := o7.waits ho hwait
      have f6 : a.eval (.tmp 17) = paV q := by obtain ⟨_, _, _, h⟩ := F 6 (ws 6 (by simp)) (by decide); exact h
      refine o7.build1RN f6 ?_
      exact hK _ _ ((Later.refl w).alloc _) ⟨_, rfl, RowK.one w (paL q) _⟩
    · have ws := o8.waits ho hwait
      have f5 : a.eval (.tmp 16) = .slice A n n := by obtain ⟨_, _, _, h⟩ := F 5 (ws 5 (by simp)) (by decide); exact h
      obtain ⟨x7, y7, z7, f7⟩ := F 7 (ws 7 (by simp)) (by decide)
      obtain ⟨g, fe, hrow1⟩ := f7
      obtain ⟨i0, hi0, hz0, hz1, hz2⟩ := info_parts Tryz.rpatchInfo
      refine o8.appendV f5 fe fun ty => ?_
      obtain ⟨v', w', hrun, how⟩ := run_append_any_ns (P := Tryz.prog) 39 ty i0 _ 72 Tryz.underlying39 hi0 hz0 hz1 hz2 (w := w) (A0 := A) (n := n) (m := 1) (hx.row.later hl0) (some ⟨g, 0, none⟩) 1 [q] (by decide) (hrow1.later z7) (by have := hx.weigh; omega) (by omega)
      obtain ⟨A', c', hl', e1, e2, e3⟩ := how
      subst e1
      refine ⟨_, _, hrun, hK _ _ hl' ⟨A', c', rfl, e3, e2, fun z hz => ?_, ?_⟩⟩
      · rcases List.mem_append.1 hz with h | h
        · exact ((hx.each z h).later hl0).later hl'
        · simp at h; subst h; exact (hq.later hl0).later hl'
      · simp only [weightNs, List.map_append, List.sum_append, List.map_cons, List.map_nil, List.sum_cons, List.sum_nil] at hwt ⊢
        omega
    · have ws := o9.waits ho hwait
      obtain ⟨x8, y8, z8, f8⟩ := F 8 (ws 8 (by simp)) (by decide)
      obtain ⟨A1, c1, fe, hca⟩ := f8
      refine o9.call1 (enters_of Tryz.func7 (by kernel_rfl) rfl) fe (few7_any A1 (n + 1) c1 (xs ++ [q]) w (hca.later z8)) ?_
      rintro e w' ⟨rfl, hl'⟩
      exact ⟨_, rfl, hK _ _ hl' rfl⟩
    · have ws := o10.waits ho hwait
      have f9 : a.eval (.tmp 20) = .bool (fewNs (n + 1) (xs ++ [q])) := by obtain ⟨_, _, _, h⟩ := F 9 (ws 9 (by simp)) (by decide); exact h
      refine o10.notB f9 ?_
      exact hK _ _ (Later.refl w) rfl
  · intro a w so hl F
    exact hend a w so hl (by obtain ⟨_, _, _, h⟩ := F 10 rfl (by decide); exact h)
def nmPs3_p1 (n : Nat) (xs : List PaC) (v : Value) (w : World) : Prop := ∃ (A3 : Option Addr) (c3 : Nat) (ys : List PaC), v = .slice A3 n c3 /\ NsOk w A3 n ys /\ valsN ys = valsN xs
def nmPs3_p3 (q : PaC) (v : Value) (w : World) : Prop := ∃ p : PaC, v = paV p /\ PaOk w p /\ p.v = q.v
def nmPs3_p4 (wx : World) (r : Option (Pa × List Pa)) (G : Nat -> Prop) (v : Value) (w : World) : Prop := ∃ (ua : PaC) (vz : Value) (zs : List PaC), v = .tuple #[paV ua, vz, .bool r.isSome] /\ PaOk w ua /\ OwnNs 30 wx w vz zs /\ (r = none -> ua = zeroN /\ zs = []) /\ (∀ c, r = some c -> ua.v = c.1 /\ valsN zs = c.2) /\ ∀ g, G g -> AwayN g ua /\ vz.ownBlock ≠ some g /\ ∀ z ∈ zs, AwayN g z
theorem nmPs3_p4_mono (wx : World) (r : Option (Pa × List Pa)) {G : Nat -> Prop} {v : Value} {w : World} {g : Nat} (h : nmPs3_p4 wx r G v w) (hg : w.heap.size <= g) : nmPs3_p4 wx r (fun j => G j ∨ j = g) v w := by
  obtain ⟨ua, vz, zs, e, oa, oz, h1, h2, h3⟩ := h
  exact ⟨ua, vz, zs, e, oa, oz, h1, h2, fun j hj => by
    rcases hj with hj | rfl
    · exact h3 j hj
    · exact ⟨oa.away hg, fun e => by have := oz.lt _ e; omega, fun z hz => (oz.ok z hz).away hg⟩⟩
def nmPs3_R (wx : World) (n : Nat) (xs : List PaC) (q : PaC) (r : Option (Pa × List Pa)) (A : Option Addr) (cx : Nat) : (Nat -> Prop) -> Nat -> Value -> World -> Prop
  | _, 0, v, _ => v = .slice A n cx
  | _, 1, v, w => nmPs3_p1 n xs v w
  | _, 2, v, _ => v = paV q
  | _, 3, v, w => nmPs3_p3 q v w
  | G, 4, v, w => nmPs3_p4 wx r G v w
  | G, 5, v, w => ∃ w0 t, Later w0 w /\ nmPs3_p4 wx r G t w0 /\ v = t
  | G, 6, v, w => ∃ w0 t, Later w0 w /\ nmPs3_p4 wx r G t w0 /\ ∃ vs : Array Value, t = .tuple vs /\ vs[0]? = some v
  | G, 7, v, w => ∃ w0 t, Later w0 w /\ nmPs3_p4 wx r G t w0 /\ ∃ vs : Array Value, t = .tuple vs /\ vs[1]? = some v
  | G, 8, v, w => ∃ w0 t, Later w0 w /\ nmPs3_p4 wx r G t w0 /\ ∃ vs : Array Value, t = .tuple vs /\ vs[2]? = some v
  | _, 9, v, w => ∃ g, v = .pointer (some ⟨g, 0, none⟩) /\ wx.heap.size <= g /\ BoxAt w g zeroNL 30
  | _, 10, _, _ => True
  | G, 11, v, w => ∃ w0 t, Later w0 w /\ nmPs3_p4 wx r G t w0 /\ ∃ vs : Array Value, t = .tuple vs /\ vs[1]? = some v
  | G, 12, v, w => ∃ w0 t, Later w0 w /\ nmPs3_p4 wx r G t w0 /\ ∃ vs : Array Value, t = .tuple vs /\ vs[2]? = some v
  | _, _, _, _ => True
set_option maxRecDepth 100000 in
theorem nmPs3_mono (wx : World) (n : Nat) (xs : List PaC) (q : PaC) (r : Option (Pa × List Pa)) (A : Option Addr) (cx : Nat) (G : Nat -> Prop) (k : Nat) (v : Value) (w : World) (g : Nat) (hk : k < 13) (h : nmPs3_R wx n xs q r A cx G k v w) (hg : w.heap.size <= g) : nmPs3_R wx n xs q r A cx (fun j => G j ∨ j = g) k v w := by
  have hc : k = 0 ∨ k = 1 ∨ k = 2 ∨ k = 3 ∨ k = 4 ∨ k = 5 ∨ k = 6 ∨ k = 7 ∨ k = 8 ∨ k = 9 ∨ k = 10 ∨ k = 11 ∨ k = 12 := by omega
  rcases hc with rfl | rfl | rfl | rfl | rfl | rfl | rfl | rfl | rfl | rfl | rfl | rfl | rfl
  · exact h
  · exact h
  · exact h
  · exact h
  · exact nmPs3_p4_mono wx r (G := G) h (hg)
  · exact by obtain ⟨q0, qt, q1, q2, q3⟩ := h; exact ⟨q0, qt, q1, nmPs3_p4_mono wx r (G := G) q2 (Nat.le_trans q1.le hg), q3⟩
  · exact by obtain ⟨q0, qt, q1, q2, q3⟩ := h; exact ⟨q0, qt, q1, nmPs3_p4_mono wx r (G := G) q2 (Nat.le_trans q1.le hg), q3⟩
  · exact by obtain ⟨q0, qt, q1, q2, q3⟩ := h; exact ⟨q0, qt, q1, nmPs3_p4_mono wx r (G := G) q2 (Nat.le_trans q1.le hg), q3⟩
  · exact by obtain ⟨q0, qt, q1, q2, q3⟩ := h; exact ⟨q0, qt, q1, nmPs3_p4_mono wx r (G := G) q2 (Nat.le_trans q1.le hg), q3⟩
  · exact h
  · exact trivial
  · exact by obtain ⟨q0, qt, q1, q2, q3⟩ := h; exact ⟨q0, qt, q1, nmPs3_p4_mono wx r (G := G) q2 (Nat.le_trans q1.le hg), q3⟩
  · exact by obtain ⟨q0, qt, q1, q2, q3⟩ := h; exact ⟨q0, qt, q1, nmPs3_p4_mono wx r (G := G) q2 (Nat.le_trans q1.le hg), q3⟩
set_option maxRecDepth 100000 in
set_option maxHeartbeats 1600000 in
theorem nmPs3 {ops : Array Oper} (hn : ops.size = 13) (hg : goesBack ops = true)
    (o0 : OpIs ops 0 (.move (.tmp 0)) (some 24) [])
    (o1 : OpIs ops 1 (.call { callee := .value (.func 16), args := #[.tmp 24], argTypes := #[39] }) (some 25) [0])
    (o2 : OpIs ops 2 (.load 25 (.tmp 3)) (some 26) [])
    (o3 : OpIs ops 3 (.call { callee := .value (.func 10), args := #[.tmp 26], argTypes := #[25] }) (some 27) [1, 2])
    (o4 : OpIs ops 4 (.call { callee := .value (.func 15), args := #[.tmp 25, .tmp 27], argTypes := #[40, 30] }) (some 28) [1, 3])
    (o5 : OpIs ops 5 (.move (.tmp 28)) (some 23) [4])
    (o6 : OpIs ops 6 (.extract (.tmp 23) 0) (some 29) [5])
    (o7 : OpIs ops 7 (.extract (.tmp 23) 1) (some 30) [5])
    (o8 : OpIs ops 8 (.extract (.tmp 23) 2) (some 31) [5])
    (o9 : OpIs ops 9 (.alloc 30) (some 5) [])
    (o10 : OpIs ops 10 (.store 30 (.tmp 5) (.tmp 29)) none [0, 1, 2, 3, 4, 5, 6, 9])
    (o11 : OpIs ops 11 (.assign (.tmp 30)) (some 6) [0, 1, 2, 3, 4, 5, 6, 7, 9, 10])
    (o12 : OpIs ops 12 (.assign (.tmp 31)) (some 7) [0, 1, 2, 3, 4, 5, 6, 7, 8, 9, 10, 11])
    {a1 : Act} (hs : 61 <= a1.tmps.size) {wx : World} {A : Option Addr} {n cx g3 : Nat} {xs : List PaC} {q : PaC} {r : Option (Pa × List Pa)} (e0 : a1.eval (.tmp 0) = .slice A n cx) (e3 : a1.eval (.tmp 3) = .pointer (some ⟨g3, 0, none⟩)) (hx : NsOk wx A n xs) (hn0 : n <= 65536) (okq : PaOk wx q) (hb3 : BoxAt wx g3 (paL q).toArray 25) (hr : pastN (valsN xs) q.v = r)
    {Q : Exit -> Act -> World -> Prop} {id : Nat} (hend : ∀ (G : Nat -> Prop) (a : Act) (w1 w : World), SameOut a1 a [24, 25, 26, 27, 28, 23, 29, 30, 31, 5, 6, 7] -> Later wx w1 -> (∀ g, G g -> wx.heap.size <= g /\ g < w1.heap.size) -> (∃ (w0 : World) (ua : PaC) (vz : Value) (zs : List PaC), Later w0 w1 /\ a.eval (.tmp 6) = vz /\ PaOk w0 ua /\ OwnNs 30 wx w0 vz zs /\ (r = none -> ua = zeroN /\ zs = []) /\ (∀ c, r = some c -> ua.v = c.1 /\ valsN zs = c.2) /\ ∀ g, G g -> AwayN g ua /\ vz.ownBlock ≠ some g /\ ∀ z ∈ zs, AwayN g z) -> (∃ (w0 : World) (ua : PaC) (vz : Value) (zs : List PaC), Later w0 w1 /\ a.eval (.tmp 7) = .bool r.isSome /\ PaOk w0 ua /\ OwnNs 30 wx w0 vz zs /\ (r = none -> ua = zeroN /\ zs = []) /\ (∀ c, r = some c -> ua.v = c.1 /\ valsN zs = c.2) /\ ∀ g, G g -> AwayN g ua /\ vz.ownBlock ≠ some g /\ ∀ z ∈ zs, AwayN g z) -> (∃ (w0 : World) (ua : PaC) (vz : Value) (zs : List PaC), Later w0 w1 /\ a.eval (.tmp 29) = paV ua /\ PaOk w0 ua /\ OwnNs 30 wx w0 vz zs /\ (r = none -> ua = zeroN /\ zs = []) /\ (∀ c, r = some c -> ua.v = c.1 /\ valsN zs = c.2) /\ ∀ g, G g -> AwayN g ua /\ vz.ownBlock ≠ some g /\ ∀ z ∈ zs, AwayN g z) -> ∀ g : Nat, a.eval (.tmp 5) = .pointer (some ⟨g, 0, none⟩) -> G g -> Turned g w1 w -> BoxAt w g (a.eval (.tmp 29)).cells 30 -> Q .normal a w) :
    (Code.region id ops true).wp Tryz.prog Q a1 wx := by
  refine region_calls (n := 13) (by kernel_rfl) hg hn [24, 25, 26, 27, 28, 23, 29, 30, 31, 5, 1010, 6, 7] (by decide +kernel) rfl [24, 25, 26, 27, 28, 23, 29, 30, 31, 5, 6, 7] [⟨9, 10, 6, 30, zeroNL⟩] (fun i => decide (i = 9)) (fun i => decide (i = 10)) (fun i => decide (i = 5) || decide (i = 6) || decide (i = 7) || decide (i = 8) || decide (i = 11) || decide (i = 12)) ?_ ?_ (nmPs3_R wx n xs q r A cx) (nmPs3_mono wx n xs q r A cx) ?_ ?_ ?_ ?_ ?_ ?_ ?_ ?_ ?_ ?_ ?_ ?_ ?_ ?_
  · intro i hi hs'
    have hc : i = 0 ∨ i = 1 ∨ i = 2 ∨ i = 3 ∨ i = 4 ∨ i = 5 ∨ i = 6 ∨ i = 7 ∨ i = 8 ∨ i = 9 ∨ i = 10 ∨ i = 11 ∨ i = 12 := by omega
    rcases hc with rfl | rfl | rfl | rfl | rfl | rfl | rfl | rfl | rfl | rfl | rfl | rfl | rfl
    · decide
    · decide
    · decide
    · decide
    · decide
    · decide
    · decide
    · decide
    · decide
    · decide
    · cases hs'
    · decide
    · decide
  · intro i hi hs'
    have hc : i = 0 ∨ i = 1 ∨ i = 2 ∨ i = 3 ∨ i = 4 ∨ i = 5 ∨ i = 6 ∨ i = 7 ∨ i = 8 ∨ i = 9 ∨ i = 10 ∨ i = 11 ∨ i = 12 := by omega
    rcases hc with rfl | rfl | rfl | rfl | rfl | rfl | rfl | rfl | rfl | rfl | rfl | rfl | rfl
    · show (24 : Nat) < _; omega
    · show (25 : Nat) < _; omega
    · show (26 : Nat) < _; omega
    · show (27 : Nat) < _; omega
    · show (28 : Nat) < _; omega
    · show (23 : Nat) < _; omega
    · show (29 : Nat) < _; omega
    · show (30 : Nat) < _; omega
    · show (31 : Nat) < _; omega
    · show (5 : Nat) < _; omega
    · cases hs'
    · show (6 : Nat) < _; omega
    · show (7 : Nat) < _; omega
  · intro i hi
    simp only [decide_eq_true_eq] at hi
    subst hi
    · exact ⟨_, List.mem_of_getElem? (i := 0) rfl, rfl⟩
  · intro i hi
    simp only [decide_eq_true_eq] at hi
    subst hi
    · exact ⟨_, List.mem_of_getElem? (i := 0) rfl, rfl⟩
  · intro b hb
    simp only [List.mem_cons, List.not_mem_nil, or_false] at hb
    rcases hb with rfl
    · decide
  · intro l dn b hb h i hi hp hs'
    simp only [List.mem_cons, List.not_mem_nil, or_false] at hb
    rcases hb with rfl
    · have c0 := o10.back dn h 0 (by simp)
      have c1 := o10.back dn h 1 (by simp)
      have c2 := o10.back dn h 2 (by simp)
      have c3 := o10.back dn h 3 (by simp)
      have c4 := o10.back dn h 4 (by simp)
      have c5 := o10.back dn h 5 (by simp)
      have c6 := o10.back dn h 6 (by simp)
      have c9 := o10.back dn h 9 (by simp)
      have hc : i = 0 ∨ i = 1 ∨ i = 2 ∨ i = 3 ∨ i = 4 ∨ i = 5 ∨ i = 6 ∨ i = 7 ∨ i = 8 ∨ i = 9 ∨ i = 10 ∨ i = 11 ∨ i = 12 := by omega
      rcases hc with rfl | rfl | rfl | rfl | rfl | rfl | rfl | rfl | rfl | rfl | rfl | rfl | rfl
      · exact c0
      · exact c1
      · exact c2
      · exact c3
      · exact c4
      · cases hp
      · cases hp
      · cases hp
      · cases hp
      · exact c9
      · cases hs'
      · cases hp
      · cases hp
  · intro l dn b hb h
    simp only [List.mem_cons, List.not_mem_nil, or_false] at hb
    rcases hb with rfl
    · exact ⟨o10.back dn h 9 (by simp), o10.back dn h 6 (by simp)⟩
  · intro l dn t b b' h1 h2 h
    simp at h2
  · intro t t' b b' h1 h2 h
    match t, t', h1, h2 with
    | 0, 0, _, _ => rfl
    | t + 1, _, h1, _ => simp at h1
    | 0, t' + 1, _, h2 => simp at h2
  · intro b hb a w K hk
    simp only [List.mem_cons, List.not_mem_nil, or_false] at hb
    rcases hb with rfl
    · exact o9.allocN hk
  · intro b hb a w w0 G g v K e1 e2 hr hbx hk
    simp only [List.mem_cons, List.not_mem_nil, or_false] at hb
    rcases hb with rfl
    · obtain ⟨q0, qt, q1, q2, us, q3, q4⟩ := hr
      obtain ⟨ua, vz, zs, e, hf⟩ := q2
      rw [e] at q3
      cases q3
      have q5 := (Option.some.inj q4).symm
      subst q5
      exact o10.storeA Tryz.patchSize e1 e2 hbx rfl (fun w' h1 h2 => hk w' h1 h2)
  · intro G l a w i o K ho hi hp hA' hS' hwait so hl0 hG F hK
    have hc : i = 0 ∨ i = 1 ∨ i = 2 ∨ i = 3 ∨ i = 4 ∨ i = 5 ∨ i = 6 ∨ i = 7 ∨ i = 8 ∨ i = 9 ∨ i = 10 ∨ i = 11 ∨ i = 12 := by omega
    rcases hc with rfl | rfl | rfl | rfl | rfl | rfl | rfl | rfl | rfl | rfl | rfl | rfl | rfl
    · refine o0.move ?_
      rw [show a.eval (.tmp 0) = .slice A n cx from ((show _ = a1.eval _ from by simp only [Act.eval, Array.getD_eq_getD_getElem?, so.out 0 (by decide)]).trans e0)]
      exact hK _ _ (Later.refl w) rfl
    · have ws := o1.waits ho hwait
      have f0 : a.eval (.tmp 24) = .slice A n cx := by obtain ⟨_, _, _, h⟩ := F 0 (ws 0 (by simp)) (by decide); exact h
      refine o1.call1 (enters_of Tryz.func16 (by kernel_rfl) rfl) f0 (rows7_any A n cx xs w (hx.later hl0) hn0) ?_
      rintro e w' ⟨v, ys, rfl, how, hvy⟩
      obtain ⟨A3, c3, e3, -, hns⟩ := how.row
      have hyl : ys.length = n := by
        have h1 := congrArg List.length hvy; have h2 := hx.len
        rw [valsN_length, valsN_length] at h1
        omega
      rw [hyl] at e3 hns
      exact ⟨_, rfl, hK _ _ how.later ⟨A3, c3, ys, e3, hns, hvy⟩⟩
    · refine o2.loadA Tryz.underlying25 Tryz.rpatchSize ((show _ = a1.eval _ from by simp only [Act.eval, Array.getD_eq_getD_getElem?, so.out 3 (by decide)]).trans e3) (hb3.later hl0) ?_
      exact hK _ _ (Later.refl w) rfl
    · have ws := o3.waits ho hwait
      have f2 : a.eval (.tmp 26) = paV q := by obtain ⟨_, _, _, h⟩ := F 2 (ws 2 (by simp)) (by decide); exact h
      refine o3.call1 (enters_of Tryz.func10 (by kernel_rfl) rfl) f2 (new7_any q w (okq.later hl0)) ?_
      rintro e w' ⟨p, rfl, ev', ok', -, hl'⟩
      exact ⟨_, rfl, hK _ _ hl' ⟨p, rfl, ok', ev'⟩⟩
    · have ws := o4.waits ho hwait
      obtain ⟨x1, y1, z1, f1⟩ := F 1 (ws 1 (by simp)) (by decide)
      obtain ⟨x3, y3, z3, f3⟩ := F 3 (ws 3 (by simp)) (by decide)
      obtain ⟨A3, c3, ys, fe, hns, hvy⟩ := f1
      obtain ⟨p, ge, ok2, ev2⟩ := f3
      refine o4.call2 (enters_of Tryz.func15 (by kernel_rfl) rfl) fe ge (past7_any A3 n c3 ys p w (hns.later z1) (ok2.later z3) hn0) ?_
      rw [hvy, ev2, hr]
      rintro e w' ⟨hl', hr'⟩
      cases r with
      | none =>
        subst hr'
        exact ⟨_, rfl, hK _ _ hl' ⟨zeroN, _, [], rfl, zeroN_ok _, OwnNs.nil (hl0.trans hl'), (fun _ => ⟨rfl, rfl⟩), (fun c h => by cases h), fun g _ => ⟨zeroN_away g, (fun e => by cases e), fun z hz => by cases hz⟩⟩⟩
      | some r =>
        obtain ⟨y, v2, zs2, rfl, hyv, oy, fy, ov, ev, fz, ay⟩ := hr'
        exact ⟨_, rfl, hK _ _ hl' ⟨y, v2, zs2, rfl, oy, ov.base hl0, (fun h => by cases h), (fun c h => by cases h; exact ⟨hyv, ev⟩), fun g hg => ⟨fy.away (hG g hg).2, (fun e => by have h1 := ov.block g e; have h2 := (hG g hg).2; omega), fun z hz => (fz z hz).away (hG g hg).2⟩⟩⟩
    · cases hp
    · cases hp
    · cases hp
    · cases hp
    · cases hA'
    · cases hS'
    · cases hp
    · cases hp
  · intro G l a w w1 i o K ho hi hp hwait so hl0 F hK
    have hc : i = 0 ∨ i = 1 ∨ i = 2 ∨ i = 3 ∨ i = 4 ∨ i = 5 ∨ i = 6 ∨ i = 7 ∨ i = 8 ∨ i = 9 ∨ i = 10 ∨ i = 11 ∨ i = 12 := by omega
    rcases hc with rfl | rfl | rfl | rfl | rfl | rfl | rfl | rfl | rfl | rfl | rfl | rfl | rfl
    · cases hp
    · cases hp
    · cases hp
    · cases hp
    · cases hp
    · have ws := o5.waits ho hwait
      obtain ⟨x, y_, z, f⟩ := F 4 (ws 4 (by simp)) (by decide)
      refine o5.move ?_
      exact hK _ ⟨x, _, z, f, rfl⟩
    · have ws := o6.waits ho hwait
      obtain ⟨x, y_, z, f⟩ := F 5 (ws 5 (by simp)) (by decide)
      obtain ⟨q0, qt, q1, q2, q3⟩ := f
      have q2k := q2
      obtain ⟨ua, vz, zs, e, hf⟩ := q2k
      refine o6.extract (q3.trans e) rfl (hK _ ⟨q0, qt, q1.trans z, q2, _, e, rfl⟩)
    · have ws := o7.waits ho hwait
      obtain ⟨x, y_, z, f⟩ := F 5 (ws 5 (by simp)) (by decide)
      obtain ⟨q0, qt, q1, q2, q3⟩ := f
      have q2k := q2
      obtain ⟨ua, vz, zs, e, hf⟩ := q2k
      refine o7.extract (q3.trans e) rfl (hK _ ⟨q0, qt, q1.trans z, q2, _, e, rfl⟩)
    · have ws := o8.waits ho hwait
      obtain ⟨x, y_, z, f⟩ := F 5 (ws 5 (by simp)) (by decide)
      obtain ⟨q0, qt, q1, q2, q3⟩ := f
      have q2k := q2
      obtain ⟨ua, vz, zs, e, hf⟩ := q2k
      refine o8.extract (q3.trans e) rfl (hK _ ⟨q0, qt, q1.trans z, q2, _, e, rfl⟩)
    · cases hp
    · cases hp
    · have ws := o11.waits ho hwait
      obtain ⟨x, y_, z, f⟩ := F 7 (ws 7 (by simp)) (by decide)
      refine o11.assign ?_
      obtain ⟨q0, qt, q1, q2, q3⟩ := f
      exact hK _ ⟨q0, qt, q1.trans z, q2, q3⟩
    · have ws := o12.waits ho hwait
      obtain ⟨x, y_, z, f⟩ := F 8 (ws 8 (by simp)) (by decide)
      refine o12.assign ?_
      obtain ⟨q0, qt, q1, q2, q3⟩ := f
      exact hK _ ⟨q0, qt, q1.trans z, q2, q3⟩
  · intro b hb G v w
    simp only [List.mem_cons, List.not_mem_nil, or_false] at hb
    rcases hb with rfl
    · exact Iff.rfl
  · intro i hi G v w
    simp only [decide_eq_true_eq] at hi
    subst hi
    · trivial
  · intro G a w1 w rs so hl F hGr hG hne hrec hwr
    obtain ⟨g, h1, ⟨r, hr, rfl⟩, h3, h4⟩ := wrote1 hrec hwr
    exact hend G a w1 w so hl hG (by obtain ⟨x, _, z, q0, qt, q1, q2, us, q3, q4⟩ := F 11 rfl (by decide); obtain ⟨ua, vz, zs, e, hf⟩ := q2; rw [e] at q3; cases q3; exact ⟨q0, ua, vz, zs, q1.trans z, (Option.some.inj q4).symm, hf⟩) (by obtain ⟨x, _, z, q0, qt, q1, q2, us, q3, q4⟩ := F 12 rfl (by decide); obtain ⟨ua, vz, zs, e, hf⟩ := q2; rw [e] at q3; cases q3; exact ⟨q0, ua, vz, zs, q1.trans z, (Option.some.inj q4).symm, hf⟩) (by obtain ⟨x, _, z, q0, qt, q1, q2, us, q3, q4⟩ := F 6 rfl (by decide); obtain ⟨ua, vz, zs, e, hf⟩ := q2; rw [e] at q3; cases q3; exact ⟨q0, ua, vz, zs, q1.trans z, (Option.some.inj q4).symm, hf⟩) r.1 h1 (hGr r hr) h3 h4
def nmPs5y_R (ua uc : PaC) (A6 : Option Addr) (m6 c6 : Nat) (A9 : Option Addr) (m9 c9 : Nat) (xs6 : List PaC) : Nat -> Value -> World -> Prop
  | 0, v, _ => v = .bool true
  | 1, v, _ => v = .bool true
  | 2, v, _ => v = .bool true
  | 3, v, _ => v = .bool true
  | 4, v, _ => v = .bool true
  | 5, v, _ => v = .bool true
  | 6, v, _ => v = .bool true
  | 7, v, _ => v = .bool true
  | 8, v, _ => v = .bool false
  | 9, v, _ => v = .bool false
  | 10, v, _ => v = paV ua
  | 11, v, w => ∃ p : PaC, v = paV p /\ PaOk w p /\ p.v = ua.v
  | 12, v, _ => v = paV uc
  | 13, v, _ => v = .bool true
  | 14, v, _ => v = .bool true
  | 15, v, _ => v = .bool true
  | 16, v, _ => v = .bool true
  | 17, v, _ => v = .slice A6 m6 c6
  | 18, v, w => ∃ A c m ys, v = .slice A m c /\ m <= 65536 /\ NsOk w A m ys /\ valsN ys = valsN xs6
  | 19, v, _ => v = .slice A9 m9 c9
  | 20, v, _ => v = .bool true
  | 21, v, _ => v = .bool true
  | 22, v, _ => v = .bool true
  | _, _, _ => True
set_option maxRecDepth 100000 in
set_option maxHeartbeats 1600000 in
theorem nmPs5y {ops : Array Oper} (hn : ops.size = 23) (hg : goesBack ops = true)
    (o0 : OpIs ops 0 (.call { callee := .value (.func 8), args := #[], argTypes := #[] }) (some 39) [])
    (o1 : OpIs ops 1 (.move (.tmp 39)) (some 40) [0])
    (o2 : OpG ops 2 (.move (.tmp 7)) (some 41) [1] 1 40)
    (o3 : OpG ops 3 (.move (.tmp 10)) (some 42) [1] 1 40)
    (o4 : OpG ops 4 (.binOp .eql 4 (.tmp 41) (.tmp 42) 4) (some 43) [1, 2, 3] 1 40)
    (o5 : OpIs ops 5 (.pick (.tmp 40) (.tmp 43) (.const (.bool false))) (some 44) [1, 4])
    (o6 : OpIs ops 6 (.move (.tmp 44)) (some 45) [5])
    (o7 : OpG ops 7 (.move (.tmp 7)) (some 46) [6] 6 45)
    (o8 : OpG ops 8 (.unOp .not 4 (.tmp 46)) (some 47) [6, 7] 6 45)
    (o9 : OpG ops 9 (.move (.tmp 47)) (some 48) [6, 8] 6 45)
    (o10 : OpN ops 10 (.load 30 (.tmp 5)) (some 49) [9] 9 48)
    (o11 : OpN ops 11 (.call { callee := .value (.func 13), args := #[.tmp 49], argTypes := #[30] }) (some 50) [9, 10] 9 48)
    (o12 : OpN ops 12 (.load 25 (.tmp 8)) (some 51) [9] 9 48)
    (o13 : OpN ops 13 (.call { callee := .value (.func 12), args := #[.tmp 50, .tmp 51], argTypes := #[25, 25] }) (some 52) [9, 11, 12] 9 48)
    (o14 : OpG ops 14 (.pick (.tmp 48) (.const (.bool true)) (.tmp 52)) (some 53) [6, 9, 13] 6 45)
    (o15 : OpIs ops 15 (.pick (.tmp 45) (.tmp 53) (.const (.bool false))) (some 54) [6, 14])
    (o16 : OpIs ops 16 (.move (.tmp 54)) (some 55) [15])
    (o17 : OpG ops 17 (.move (.tmp 6)) (some 56) [16] 16 55)
    (o18 : OpG ops 18 (.call { callee := .value (.func 19), args := #[.tmp 56], argTypes := #[40] }) (some 57) [16, 17] 16 55)
    (o19 : OpG ops 19 (.move (.tmp 9)) (some 58) [16] 16 55)
    (o20 : OpG ops 20 (.call { callee := .value (.func 18), args := #[.tmp 57, .tmp 58], argTypes := #[39, 39] }) (some 59) [16, 18, 19] 16 55)
    (o21 : OpIs ops 21 (.pick (.tmp 55) (.tmp 59) (.const (.bool false))) (some 60) [16, 20])
    (o22 : OpIs ops 22 (.assign (.tmp 60)) (some 4) [21])
    {a1 : Act} (hs : 61 <= a1.tmps.size) {wx : World} {ua uc : PaC} {g5 g8 : Nat} {A6 A9 : Option Addr} {m6 c6 m9 c9 : Nat} {xs6 xs9 : List PaC} (e6 : a1.eval (.tmp 6) = .slice A6 m6 c6) (e7 : a1.eval (.tmp 7) = .bool true) (e9 : a1.eval (.tmp 9) = .slice A9 m9 c9) (e10 : a1.eval (.tmp 10) = .bool true) (h6 : NsOk wx A6 m6 xs6) (hm6 : m6 <= 65536) (h9 : NsOk wx A9 m9 xs9) (hm9 : m9 <= 65536) (h69 : valsN xs6 = valsN xs9) (e5 : a1.eval (.tmp 5) = .pointer (some ⟨g5, 0, none⟩)) (e8 : a1.eval (.tmp 8) = .pointer (some ⟨g8, 0, none⟩)) (okua : PaOk wx ua) (okuc : PaOk wx uc) (hb5 : BoxAt wx g5 (paL ua).toArray 30) (hb8 : BoxAt wx g8 (paL uc).toArray 25) (hac : ua.v = uc.v)
    {Q : Exit -> Act -> World -> Prop} {id : Nat} (hend : ∀ (a : Act) (w : World), SameOut a1 a [39, 40, 41, 42, 43, 44, 45, 46, 47, 48, 49, 50, 51, 52, 53, 54, 55, 56, 57, 58, 59, 60, 4] -> Later wx w -> a.eval (.tmp 4) = .bool true -> Q .normal a w) :
    (Code.region id ops true).wp Tryz.prog Q a1 wx := by
  refine region_reads (n := 23) (by kernel_rfl) hg hn [39, 40, 41, 42, 43, 44, 45, 46, 47, 48, 49, 50, 51, 52, 53, 54, 55, 56, 57, 58, 59, 60, 4] (by decide +kernel) rfl (fun d hd => ?_) (nmPs5y_R ua uc A6 m6 c6 A9 m9 c9 xs6) ?_ ?_
  · have : d < 61 := by
      have h : ∀ d ∈ ([39, 40, 41, 42, 43, 44, 45, 46, 47, 48, 49, 50, 51, 52, 53, 54, 55, 56, 57, 58, 59, 60, 4] : List Nat), d < 61 := by decide +kernel
      exact h d hd
    omega
  · intro l a w i o K ho hi hwait so hl0 F hK
    have hc : i = 0 ∨ i = 1 ∨ i = 2 ∨ i = 3 ∨ i = 4 ∨ i = 5 ∨ i = 6 ∨ i = 7 ∨ i = 8 ∨ i = 9 ∨ i = 10 ∨ i = 11 ∨ i = 12 ∨ i = 13 ∨ i = 14 ∨ i = 15 ∨ i = 16 ∨ i = 17 ∨ i = 18 ∨ i = 19 ∨ i = 20 ∨ i = 21 ∨ i = 22 := by omega
    rcases hc with rfl | rfl | rfl | rfl | rfl | rfl | rfl | rfl | rfl | rfl | rfl | rfl | rfl | rfl | rfl | rfl | rfl | rfl | rfl | rfl | rfl | rfl | rfl
    · refine o0.call0 (enters_of Tryz.func8 (by kernel_rfl) rfl) (alive7_any w) ?_
      rintro e w' ⟨rfl, hl'⟩
      exact ⟨_, rfl, hK _ _ hl' rfl⟩
    · have ws := o1.waits ho hwait
      have f0 : a.eval (.tmp 39) = .bool true := by obtain ⟨_, _, _, h⟩ := F 0 (ws 0 (by simp)) (by decide); exact h
      refine o1.move ?_
      rw [show a.eval (.tmp 39) = .bool true from f0]
      exact hK _ _ (Later.refl w) rfl
    · have ws := o2.waits ho hwait
      have f1 : a.eval (.tmp 40) = .bool true := by obtain ⟨_, _, _, h⟩ := F 1 (ws 1 (by simp)) (by decide); exact h
      refine o2.via f1 (by rw [so.size]; show (40 : Nat) < _; omega) ?_
      refine o2.un.move ?_
      rw [show a.eval (.tmp 7) = .bool true from ((show _ = a1.eval _ from by simp only [Act.eval, Array.getD_eq_getD_getElem?, so.out 7 (by decide)]).trans e7)]
      exact hK _ _ (Later.refl w) rfl
    · have ws := o3.waits ho hwait
      have f1 : a.eval (.tmp 40) = .bool true := by obtain ⟨_, _, _, h⟩ := F 1 (ws 1 (by simp)) (by decide); exact h
      refine o3.via f1 (by rw [so.size]; show (40 : Nat) < _; omega) ?_
      refine o3.un.move ?_
      rw [show a.eval (.tmp 10) = .bool true from ((show _ = a1.eval _ from by simp only [Act.eval, Array.getD_eq_getD_getElem?, so.out 10 (by decide)]).trans e10)]
      exact hK _ _ (Later.refl w) rfl
    · have ws := o4.waits ho hwait
      have f1 : a.eval (.tmp 40) = .bool true := by obtain ⟨_, _, _, h⟩ := F 1 (ws 1 (by simp)) (by decide); exact h
      have f2 : a.eval (.tmp 41) = .bool true := by obtain ⟨_, _, _, h⟩ := F 2 (ws 2 (by simp)) (by decide); exact h
      have f3 : a.eval (.tmp 42) = .bool true := by obtain ⟨_, _, _, h⟩ := F 3 (ws 3 (by simp)) (by decide); exact h
      refine o4.via f1 (by rw [so.size]; show (40 : Nat) < _; omega) ?_
      refine o4.un.eqlB f2 f3 ?_
      exact hK _ _ (Later.refl w) rfl
    · have ws := o5.waits ho hwait
      have f1 : a.eval (.tmp 40) = .bool true := by obtain ⟨_, _, _, h⟩ := F 1 (ws 1 (by simp)) (by decide); exact h
      have f4 : a.eval (.tmp 43) = .bool true := by obtain ⟨_, _, _, h⟩ := F 4 (ws 4 (by simp)) (by decide); exact h
      refine o5.pick f1 f4 ?_
      exact hK _ _ (Later.refl w) rfl
    · have ws := o6.waits ho hwait
      have f5 : a.eval (.tmp 44) = .bool true := by obtain ⟨_, _, _, h⟩ := F 5 (ws 5 (by simp)) (by decide); exact h
      refine o6.move ?_
      rw [show a.eval (.tmp 44) = .bool true from f5]
      exact hK _ _ (Later.refl w) rfl
    · have ws := o7.waits ho hwait
      have f6 : a.eval (.tmp 45) = .bool true := by obtain ⟨_, _, _, h⟩ := F 6 (ws 6 (by simp)) (by decide); exact h
      refine o7.via f6 (by rw [so.size]; show (45 : Nat) < _; omega) ?_
      refine o7.un.move ?_
      rw [show a.eval (.tmp 7) = .bool true from ((show _ = a1.eval _ from by simp only [Act.eval, Array.getD_eq_getD_getElem?, so.out 7 (by decide)]).trans e7)]
      exact hK _ _ (Later.refl w) rfl
    · have ws := o8.waits ho hwait
      have f6 : a.eval (.tmp 45) = .bool true := by obtain ⟨_, _, _, h⟩ := F 6 (ws 6 (by simp)) (by decide); exact h
      have f7 : a.eval (.tmp 46) = .bool true := by obtain ⟨_, _, _, h⟩ := F 7 (ws 7 (by simp)) (by decide); exact h
      refine o8.via f6 (by rw [so.size]; show (45 : Nat) < _; omega) ?_
      refine o8.un.notB f7 ?_
      exact hK _ _ (Later.refl w) rfl
    · have ws := o9.waits ho hwait
      have f6 : a.eval (.tmp 45) = .bool true := by obtain ⟨_, _, _, h⟩ := F 6 (ws 6 (by simp)) (by decide); exact h
      have f8 : a.eval (.tmp 47) = .bool false := by obtain ⟨_, _, _, h⟩ := F 8 (ws 8 (by simp)) (by decide); exact h
      refine o9.via f6 (by rw [so.size]; show (45 : Nat) < _; omega) ?_
      refine o9.un.move ?_
      rw [show a.eval (.tmp 47) = .bool false from f8]
      exact hK _ _ (Later.refl w) rfl
    · have ws := o10.waits ho hwait
      have f9 : a.eval (.tmp 48) = .bool false := by obtain ⟨_, _, _, h⟩ := F 9 (ws 9 (by simp)) (by decide); exact h
      refine o10.via f9 (by rw [so.size]; show (48 : Nat) < _; omega) ?_
      refine o10.un.loadA Tryz.underlying30 Tryz.patchSize ((show _ = a1.eval _ from by simp only [Act.eval, Array.getD_eq_getD_getElem?, so.out 5 (by decide)]).trans e5) (hb5.later hl0) ?_
      exact hK _ _ (Later.refl w) rfl
    · have ws := o11.waits ho hwait
      have f9 : a.eval (.tmp 48) = .bool false := by obtain ⟨_, _, _, h⟩ := F 9 (ws 9 (by simp)) (by decide); exact h
      have f10 : a.eval (.tmp 49) = paV ua := by obtain ⟨_, _, _, h⟩ := F 10 (ws 10 (by simp)) (by decide); exact h
      refine o11.via f9 (by rw [so.size]; show (48 : Nat) < _; omega) ?_
      refine o11.un.call1 (enters_of Tryz.func13 (by kernel_rfl) rfl) f10 (old7_any ua w (okua.later hl0)) ?_
      rintro e w' ⟨p, rfl, ev', ok', -, hl'⟩
      exact ⟨_, rfl, hK _ _ hl' ⟨p, rfl, ok', ev'⟩⟩
    · have ws := o12.waits ho hwait
      have f9 : a.eval (.tmp 48) = .bool false := by obtain ⟨_, _, _, h⟩ := F 9 (ws 9 (by simp)) (by decide); exact h
      refine o12.via f9 (by rw [so.size]; show (48 : Nat) < _; omega) ?_
      refine o12.un.loadA Tryz.underlying25 Tryz.rpatchSize ((show _ = a1.eval _ from by simp only [Act.eval, Array.getD_eq_getD_getElem?, so.out 8 (by decide)]).trans e8) (hb8.later hl0) ?_
      exact hK _ _ (Later.refl w) rfl
    · have ws := o13.waits ho hwait
      have f9 : a.eval (.tmp 48) = .bool false := by obtain ⟨_, _, _, h⟩ := F 9 (ws 9 (by simp)) (by decide); exact h
      obtain ⟨x11, y11, z11, f11⟩ := F 11 (ws 11 (by simp)) (by decide)
      have f12 : a.eval (.tmp 51) = paV uc := by obtain ⟨_, _, _, h⟩ := F 12 (ws 12 (by simp)) (by decide); exact h
      refine o13.via f9 (by rw [so.size]; show (48 : Nat) < _; omega) ?_
      obtain ⟨p, fe, ok1, ev1⟩ := f11
      refine o13.un.call2 (enters_of Tryz.func12 (by kernel_rfl) rfl) fe f12 (refSame7_any p uc w (ok1.later z11) (okuc.later hl0)) ?_
      rintro e w' ⟨rfl, hl'⟩
      exact ⟨_, rfl, hK _ _ hl' (by show Value.bool _ = _; rw [ev1, hac, sameN_iff.2 rfl])⟩
    · have ws := o14.waits ho hwait
      have f6 : a.eval (.tmp 45) = .bool true := by obtain ⟨_, _, _, h⟩ := F 6 (ws 6 (by simp)) (by decide); exact h
      have f9 : a.eval (.tmp 48) = .bool false := by obtain ⟨_, _, _, h⟩ := F 9 (ws 9 (by simp)) (by decide); exact h
      have f13 : a.eval (.tmp 52) = .bool true := by obtain ⟨_, _, _, h⟩ := F 13 (ws 13 (by simp)) (by decide); exact h
      refine o14.via f6 (by rw [so.size]; show (45 : Nat) < _; omega) ?_
      refine o14.un.pickF f9 f13 ?_
      exact hK _ _ (Later.refl w) rfl
    · have ws := o15.waits ho hwait
      have f6 : a.eval (.tmp 45) = .bool true := by obtain ⟨_, _, _, h⟩ := F 6 (ws 6 (by simp)) (by decide); exact h
      have f14 : a.eval (.tmp 53) = .bool true := by obtain ⟨_, _, _, h⟩ := F 14 (ws 14 (by simp)) (by decide); exact h
      refine o15.pick f6 f14 ?_
      exact hK _ _ (Later.refl w) rfl
    · have ws := o16.waits ho hwait
      have f15 : a.eval (.tmp 54) = .bool true := by obtain ⟨_, _, _, h⟩ := F 15 (ws 15 (by simp)) (by decide); exact h
      refine o16.move ?_
      rw [show a.eval (.tmp 54) = .bool true from f15]
      exact hK _ _ (Later.refl w) rfl
    · have ws := o17.waits ho hwait
      have f16 : a.eval (.tmp 55) = .bool true := by obtain ⟨_, _, _, h⟩ := F 16 (ws 16 (by simp)) (by decide); exact h
      refine o17.via f16 (by rw [so.size]; show (55 : Nat) < _; omega) ?_
      refine o17.un.move ?_
      rw [show a.eval (.tmp 6) = .slice A6 m6 c6 from ((show _ = a1.eval _ from by simp only [Act.eval, Array.getD_eq_getD_getElem?, so.out 6 (by decide)]).trans e6)]
      exact hK _ _ (Later.refl w) rfl
    · have ws := o18.waits ho hwait
      have f16 : a.eval (.tmp 55) = .bool true := by obtain ⟨_, _, _, h⟩ := F 16 (ws 16 (by simp)) (by decide); exact h
      have f17 : a.eval (.tmp 56) = .slice A6 m6 c6 := by obtain ⟨_, _, _, h⟩ := F 17 (ws 17 (by simp)) (by decide); exact h
      refine o18.via f16 (by rw [so.size]; show (55 : Nat) < _; omega) ?_
      refine o18.un.call1 (enters_of Tryz.func19 (by kernel_rfl) rfl) f17 (olds7_any A6 m6 c6 xs6 w (h6.later hl0) hm6) ?_
      rintro e w' ⟨v, ys, rfl, how, hvy⟩
      obtain ⟨A3, c3, e3, -, hns⟩ := how.row
      have hyl : ys.length <= 65536 := by
        have h1 := congrArg List.length hvy; have h2 := h6.len
        rw [valsN_length, valsN_length] at h1
        omega
      exact ⟨_, rfl, hK _ _ how.later ⟨A3, c3, _, ys, e3, hyl, hns, hvy⟩⟩
    · have ws := o19.waits ho hwait
      have f16 : a.eval (.tmp 55) = .bool true := by obtain ⟨_, _, _, h⟩ := F 16 (ws 16 (by simp)) (by decide); exact h
      refine o19.via f16 (by rw [so.size]; show (55 : Nat) < _; omega) ?_
      refine o19.un.move ?_
      rw [show a.eval (.tmp 9) = .slice A9 m9 c9 from ((show _ = a1.eval _ from by simp only [Act.eval, Array.getD_eq_getD_getElem?, so.out 9 (by decide)]).trans e9)]
      exact hK _ _ (Later.refl w) rfl
    · have ws := o20.waits ho hwait
      have f16 : a.eval (.tmp 55) = .bool true := by obtain ⟨_, _, _, h⟩ := F 16 (ws 16 (by simp)) (by decide); exact h
      obtain ⟨x18, y18, z18, f18⟩ := F 18 (ws 18 (by simp)) (by decide)
      have f19 : a.eval (.tmp 58) = .slice A9 m9 c9 := by obtain ⟨_, _, _, h⟩ := F 19 (ws 19 (by simp)) (by decide); exact h
      refine o20.via f16 (by rw [so.size]; show (55 : Nat) < _; omega) ?_
      obtain ⟨A3, c3, m3, ys, fe, hm3, hns, hvy⟩ := f18
      refine o20.un.call2 (enters_of Tryz.func18 (by kernel_rfl) rfl) fe f19 (refAll7_any A3 A9 m3 c3 m9 c9 ys xs9 w (hns.later z18) (h9.later hl0) hm3 hm9 true ⟨fun _ => hvy.trans h69, fun _ => rfl⟩) ?_
      rintro e w' ⟨rfl, hl'⟩
      exact ⟨_, rfl, hK _ _ hl' rfl⟩
    · have ws := o21.waits ho hwait
      have f16 : a.eval (.tmp 55) = .bool true := by obtain ⟨_, _, _, h⟩ := F 16 (ws 16 (by simp)) (by decide); exact h
      have f20 : a.eval (.tmp 59) = .bool true := by obtain ⟨_, _, _, h⟩ := F 20 (ws 20 (by simp)) (by decide); exact h
      refine o21.pick f16 f20 ?_
      exact hK _ _ (Later.refl w) rfl
    · have ws := o22.waits ho hwait
      have f21 : a.eval (.tmp 60) = .bool true := by obtain ⟨_, _, _, h⟩ := F 21 (ws 21 (by simp)) (by decide); exact h
      refine o22.assign ?_
      rw [show a.eval (.tmp 60) = .bool true from f21]
      exact hK _ _ (Later.refl w) rfl
  · intro a w so hl F
    exact hend a w so hl (by obtain ⟨_, _, _, h⟩ := F 22 rfl (by decide); exact h)
def nmPs5n_R (A6 : Option Addr) (m6 c6 : Nat) (A9 : Option Addr) (m9 c9 : Nat) (xs6 : List PaC) : Nat -> Value -> World -> Prop
  | 0, v, _ => v = .bool true
  | 1, v, _ => v = .bool true
  | 2, v, _ => v = .bool false
  | 3, v, _ => v = .bool false
  | 4, v, _ => v = .bool true
  | 5, v, _ => v = .bool true
  | 6, v, _ => v = .bool true
  | 7, v, _ => v = .bool false
  | 8, v, _ => v = .bool true
  | 9, v, _ => v = .bool true
  | 10, v, _ => v = undef
  | 11, v, _ => v = undef
  | 12, v, _ => v = undef
  | 13, v, _ => v = undef
  | 14, v, _ => v = .bool true
  | 15, v, _ => v = .bool true
  | 16, v, _ => v = .bool true
  | 17, v, _ => v = .slice A6 m6 c6
  | 18, v, w => ∃ A c m ys, v = .slice A m c /\ m <= 65536 /\ NsOk w A m ys /\ valsN ys = valsN xs6
  | 19, v, _ => v = .slice A9 m9 c9
  | 20, v, _ => v = .bool true
  | 21, v, _ => v = .bool true
  | 22, v, _ => v = .bool true
  | _, _, _ => True
set_option maxRecDepth 100000 in
set_option maxHeartbeats 1600000 in
theorem nmPs5n {ops : Array Oper} (hn : ops.size = 23) (hg : goesBack ops = true)
    (o0 : OpIs ops 0 (.call { callee := .value (.func 8), args := #[], argTypes := #[] }) (some 39) [])
    (o1 : OpIs ops 1 (.move (.tmp 39)) (some 40) [0])
    (o2 : OpG ops 2 (.move (.tmp 7)) (some 41) [1] 1 40)
    (o3 : OpG ops 3 (.move (.tmp 10)) (some 42) [1] 1 40)
    (o4 : OpG ops 4 (.binOp .eql 4 (.tmp 41) (.tmp 42) 4) (some 43) [1, 2, 3] 1 40)
    (o5 : OpIs ops 5 (.pick (.tmp 40) (.tmp 43) (.const (.bool false))) (some 44) [1, 4])
    (o6 : OpIs ops 6 (.move (.tmp 44)) (some 45) [5])
    (o7 : OpG ops 7 (.move (.tmp 7)) (some 46) [6] 6 45)
    (o8 : OpG ops 8 (.unOp .not 4 (.tmp 46)) (some 47) [6, 7] 6 45)
    (o9 : OpG ops 9 (.move (.tmp 47)) (some 48) [6, 8] 6 45)
    (o10 : OpN ops 10 (.load 30 (.tmp 5)) (some 49) [9] 9 48)
    (o11 : OpN ops 11 (.call { callee := .value (.func 13), args := #[.tmp 49], argTypes := #[30] }) (some 50) [9] 9 48)
    (o12 : OpN ops 12 (.load 25 (.tmp 8)) (some 51) [9] 9 48)
    (o13 : OpN ops 13 (.call { callee := .value (.func 12), args := #[.tmp 50, .tmp 51], argTypes := #[25, 25] }) (some 52) [9] 9 48)
    (o14 : OpG ops 14 (.pick (.tmp 48) (.const (.bool true)) (.tmp 52)) (some 53) [6, 9] 6 45)
    (o15 : OpIs ops 15 (.pick (.tmp 45) (.tmp 53) (.const (.bool false))) (some 54) [6, 14])
    (o16 : OpIs ops 16 (.move (.tmp 54)) (some 55) [15])
    (o17 : OpG ops 17 (.move (.tmp 6)) (some 56) [16] 16 55)
    (o18 : OpG ops 18 (.call { callee := .value (.func 19), args := #[.tmp 56], argTypes := #[40] }) (some 57) [16, 17] 16 55)
    (o19 : OpG ops 19 (.move (.tmp 9)) (some 58) [16] 16 55)
    (o20 : OpG ops 20 (.call { callee := .value (.func 18), args := #[.tmp 57, .tmp 58], argTypes := #[39, 39] }) (some 59) [16, 18, 19] 16 55)
    (o21 : OpIs ops 21 (.pick (.tmp 55) (.tmp 59) (.const (.bool false))) (some 60) [16, 20])
    (o22 : OpIs ops 22 (.assign (.tmp 60)) (some 4) [21])
    {a1 : Act} (hs : 61 <= a1.tmps.size) {wx : World} {A6 A9 : Option Addr} {m6 c6 m9 c9 : Nat} {xs6 xs9 : List PaC} (e6 : a1.eval (.tmp 6) = .slice A6 m6 c6) (e7 : a1.eval (.tmp 7) = .bool false) (e9 : a1.eval (.tmp 9) = .slice A9 m9 c9) (e10 : a1.eval (.tmp 10) = .bool false) (h6 : NsOk wx A6 m6 xs6) (hm6 : m6 <= 65536) (h9 : NsOk wx A9 m9 xs9) (hm9 : m9 <= 65536) (h69 : valsN xs6 = valsN xs9)
    {Q : Exit -> Act -> World -> Prop} {id : Nat} (hend : ∀ (a : Act) (w : World), SameOut a1 a [39, 40, 41, 42, 43, 44, 45, 46, 47, 48, 49, 50, 51, 52, 53, 54, 55, 56, 57, 58, 59, 60, 4] -> Later wx w -> a.eval (.tmp 4) = .bool true -> Q .normal a w) :
    (Code.region id ops true).wp Tryz.prog Q a1 wx := by
  refine region_reads (n := 23) (by kernel_rfl) hg hn [39, 40, 41, 42, 43, 44, 45, 46, 47, 48, 49, 50, 51, 52, 53, 54, 55, 56, 57, 58, 59, 60, 4] (by decide +kernel) rfl (fun d hd => ?_) (nmPs5n_R A6 m6 c6 A9 m9 c9 xs6) ?_ ?_
  · have : d < 61 := by
      have h : ∀ d ∈ ([39, 40, 41, 42, 43, 44, 45, 46, 47, 48, 49, 50, 51, 52, 53, 54, 55, 56, 57, 58, 59, 60, 4] : List Nat), d < 61 := by decide +kernel
      exact h d hd
    omega
  · intro l a w i o K ho hi hwait so hl0 F hK
    have hc : i = 0 ∨ i = 1 ∨ i = 2 ∨ i = 3 ∨ i = 4 ∨ i = 5 ∨ i = 6 ∨ i = 7 ∨ i = 8 ∨ i = 9 ∨ i = 10 ∨ i = 11 ∨ i = 12 ∨ i = 13 ∨ i = 14 ∨ i = 15 ∨ i = 16 ∨ i = 17 ∨ i = 18 ∨ i = 19 ∨ i = 20 ∨ i = 21 ∨ i = 22 := by omega
    rcases hc with rfl | rfl | rfl | rfl | rfl | rfl | rfl | rfl | rfl | rfl | rfl | rfl | rfl | rfl | rfl | rfl | rfl | rfl | rfl | rfl | rfl | rfl | rfl
    · refine o0.call0 (enters_of Tryz.func8 (by kernel_rfl) rfl) (alive7_any w) ?_
      rintro e w' ⟨rfl, hl'⟩
      exact ⟨_, rfl, hK _ _ hl' rfl⟩
    · have ws := o1.waits ho hwait
      have f0 : a.eval (.tmp 39) = .bool true := by obtain ⟨_, _, _, h⟩ := F 0 (ws 0 (by simp)) (by decide); exact h
      refine o1.move ?_
      rw [show a.eval (.tmp 39) = .bool true from f0]
      exact hK _ _ (Later.refl w) rfl
    · have ws := o2.waits ho hwait
      have f1 : a.eval (.tmp 40) = .bool true := by obtain ⟨_, _, _, h⟩ := F 1 (ws 1 (by simp)) (by decide); exact h
      refine o2.via f1 (by rw [so.size]; show (40 : Nat) < _; omega) ?_
      refine o2.un.move ?_
      rw [show a.eval (.tmp 7) = .bool false from ((show _ = a1.eval _ from by simp only [Act.eval, Array.getD_eq_getD_getElem?, so.out 7 (by decide)]).trans e7)]
      exact hK _ _ (Later.refl w) rfl
    · have ws := o3.waits ho hwait
      have f1 : a.eval (.tmp 40) = .bool true := by obtain ⟨_, _, _, h⟩ := F 1 (ws 1 (by simp)) (by decide); exact h
      refine o3.via f1 (by rw [so.size]; show (40 : Nat) < _; omega) ?_
      refine o3.un.move ?_
      rw [show a.eval (.tmp 10) = .bool false from ((show _ = a1.eval _ from by simp only [Act.eval, Array.getD_eq_getD_getElem?, so.out 10 (by decide)]).trans e10)]
      exact hK _ _ (Later.refl w) rfl
    · have ws := o4.waits ho hwait
      have f1 : a.eval (.tmp 40) = .bool true := by obtain ⟨_, _, _, h⟩ := F 1 (ws 1 (by simp)) (by decide); exact h
      have f2 : a.eval (.tmp 41) = .bool false := by obtain ⟨_, _, _, h⟩ := F 2 (ws 2 (by simp)) (by decide); exact h
      have f3 : a.eval (.tmp 42) = .bool false := by obtain ⟨_, _, _, h⟩ := F 3 (ws 3 (by simp)) (by decide); exact h
      refine o4.via f1 (by rw [so.size]; show (40 : Nat) < _; omega) ?_
      refine o4.un.eqlB f2 f3 ?_
      exact hK _ _ (Later.refl w) rfl
    · have ws := o5.waits ho hwait
      have f1 : a.eval (.tmp 40) = .bool true := by obtain ⟨_, _, _, h⟩ := F 1 (ws 1 (by simp)) (by decide); exact h
      have f4 : a.eval (.tmp 43) = .bool true := by obtain ⟨_, _, _, h⟩ := F 4 (ws 4 (by simp)) (by decide); exact h
      refine o5.pick f1 f4 ?_
      exact hK _ _ (Later.refl w) rfl
    · have ws := o6.waits ho hwait
      have f5 : a.eval (.tmp 44) = .bool true := by obtain ⟨_, _, _, h⟩ := F 5 (ws 5 (by simp)) (by decide); exact h
      refine o6.move ?_
      rw [show a.eval (.tmp 44) = .bool true from f5]
      exact hK _ _ (Later.refl w) rfl
    · have ws := o7.waits ho hwait
      have f6 : a.eval (.tmp 45) = .bool true := by obtain ⟨_, _, _, h⟩ := F 6 (ws 6 (by simp)) (by decide); exact h
      refine o7.via f6 (by rw [so.size]; show (45 : Nat) < _; omega) ?_
      refine o7.un.move ?_
      rw [show a.eval (.tmp 7) = .bool false from ((show _ = a1.eval _ from by simp only [Act.eval, Array.getD_eq_getD_getElem?, so.out 7 (by decide)]).trans e7)]
      exact hK _ _ (Later.refl w) rfl
    · have ws := o8.waits ho hwait
      have f6 : a.eval (.tmp 45) = .bool true := by obtain ⟨_, _, _, h⟩ := F 6 (ws 6 (by simp)) (by decide); exact h
      have f7 : a.eval (.tmp 46) = .bool false := by obtain ⟨_, _, _, h⟩ := F 7 (ws 7 (by simp)) (by decide); exact h
      refine o8.via f6 (by rw [so.size]; show (45 : Nat) < _; omega) ?_
      refine o8.un.notB f7 ?_
      exact hK _ _ (Later.refl w) rfl
    · have ws := o9.waits ho hwait
      have f6 : a.eval (.tmp 45) = .bool true := by obtain ⟨_, _, _, h⟩ := F 6 (ws 6 (by simp)) (by decide); exact h
      have f8 : a.eval (.tmp 47) = .bool true := by obtain ⟨_, _, _, h⟩ := F 8 (ws 8 (by simp)) (by decide); exact h
      refine o9.via f6 (by rw [so.size]; show (45 : Nat) < _; omega) ?_
      refine o9.un.move ?_
      rw [show a.eval (.tmp 47) = .bool true from f8]
      exact hK _ _ (Later.refl w) rfl
    · have ws := o10.waits ho hwait
      have f9 : a.eval (.tmp 48) = .bool true := by obtain ⟨_, _, _, h⟩ := F 9 (ws 9 (by simp)) (by decide); exact h
      refine o10.skip f9 (by rw [so.size]; show (48 : Nat) < _; omega) ?_
      exact hK _ _ (Later.refl w) rfl
    · have ws := o11.waits ho hwait
      have f9 : a.eval (.tmp 48) = .bool true := by obtain ⟨_, _, _, h⟩ := F 9 (ws 9 (by simp)) (by decide); exact h
      refine o11.skip f9 (by rw [so.size]; show (48 : Nat) < _; omega) ?_
      exact hK _ _ (Later.refl w) rfl
    · have ws := o12.waits ho hwait
      have f9 : a.eval (.tmp 48) = .bool true := by obtain ⟨_, _, _, h⟩ := F 9 (ws 9 (by simp)) (by decide); exact h
      refine o12.skip f9 (by rw [so.size]; show (48 : Nat) < _; omega) ?_
      exact hK _ _ (Later.refl w) rfl
    · have ws := o13.waits ho hwait
      have f9 : a.eval (.tmp 48) = .bool true := by obtain ⟨_, _, _, h⟩ := F 9 (ws 9 (by simp)) (by decide); exact h
      refine o13.skip f9 (by rw [so.size]; show (48 : Nat) < _; omega) ?_
      exact hK _ _ (Later.refl w) rfl
    · have ws := o14.waits ho hwait
      have f6 : a.eval (.tmp 45) = .bool true := by obtain ⟨_, _, _, h⟩ := F 6 (ws 6 (by simp)) (by decide); exact h
      have f9 : a.eval (.tmp 48) = .bool true := by obtain ⟨_, _, _, h⟩ := F 9 (ws 9 (by simp)) (by decide); exact h
      refine o14.via f6 (by rw [so.size]; show (45 : Nat) < _; omega) ?_
      refine o14.un.pickYes f9 ?_
      exact hK _ _ (Later.refl w) rfl
    · have ws := o15.waits ho hwait
      have f6 : a.eval (.tmp 45) = .bool true := by obtain ⟨_, _, _, h⟩ := F 6 (ws 6 (by simp)) (by decide); exact h
      have f14 : a.eval (.tmp 53) = .bool true := by obtain ⟨_, _, _, h⟩ := F 14 (ws 14 (by simp)) (by decide); exact h
      refine o15.pick f6 f14 ?_
      exact hK _ _ (Later.refl w) rfl
    · have ws := o16.waits ho hwait
      have f15 : a.eval (.tmp 54) = .bool true := by obtain ⟨_, _, _, h⟩ := F 15 (ws 15 (by simp)) (by decide); exact h
      refine o16.move ?_
      rw [show a.eval (.tmp 54) = .bool true from f15]
      exact hK _ _ (Later.refl w) rfl
    · have ws := o17.waits ho hwait
      have f16 : a.eval (.tmp 55) = .bool true := by obtain ⟨_, _, _, h⟩ := F 16 (ws 16 (by simp)) (by decide); exact h
      refine o17.via f16 (by rw [so.size]; show (55 : Nat) < _; omega) ?_
      refine o17.un.move ?_
      rw [show a.eval (.tmp 6) = .slice A6 m6 c6 from ((show _ = a1.eval _ from by simp only [Act.eval, Array.getD_eq_getD_getElem?, so.out 6 (by decide)]).trans e6)]
      exact hK _ _ (Later.refl w) rfl
    · have ws := o18.waits ho hwait
      have f16 : a.eval (.tmp 55) = .bool true := by obtain ⟨_, _, _, h⟩ := F 16 (ws 16 (by simp)) (by decide); exact h
      have f17 : a.eval (.tmp 56) = .slice A6 m6 c6 := by obtain ⟨_, _, _, h⟩ := F 17 (ws 17 (by simp)) (by decide); exact h
      refine o18.via f16 (by rw [so.size]; show (55 : Nat) < _; omega) ?_
      refine o18.un.call1 (enters_of Tryz.func19 (by kernel_rfl) rfl) f17 (olds7_any A6 m6 c6 xs6 w (h6.later hl0) hm6) ?_
      rintro e w' ⟨v, ys, rfl, how, hvy⟩
      obtain ⟨A3, c3, e3, -, hns⟩ := how.row
      have hyl : ys.length <= 65536 := by
        have h1 := congrArg List.length hvy; have h2 := h6.len
        rw [valsN_length, valsN_length] at h1
        omega
      exact ⟨_, rfl, hK _ _ how.later ⟨A3, c3, _, ys, e3, hyl, hns, hvy⟩⟩
    · have ws := o19.waits ho hwait
      have f16 : a.eval (.tmp 55) = .bool true := by obtain ⟨_, _, _, h⟩ := F 16 (ws 16 (by simp)) (by decide); exact h
      refine o19.via f16 (by rw [so.size]; show (55 : Nat) < _; omega) ?_
      refine o19.un.move ?_
      rw [show a.eval (.tmp 9) = .slice A9 m9 c9 from ((show _ = a1.eval _ from by simp only [Act.eval, Array.getD_eq_getD_getElem?, so.out 9 (by decide)]).trans e9)]
      exact hK _ _ (Later.refl w) rfl
    · have ws := o20.waits ho hwait
      have f16 : a.eval (.tmp 55) = .bool true := by obtain ⟨_, _, _, h⟩ := F 16 (ws 16 (by simp)) (by decide); exact h
      obtain ⟨x18, y18, z18, f18⟩ := F 18 (ws 18 (by simp)) (by decide)
      have f19 : a.eval (.tmp 58) = .slice A9 m9 c9 := by obtain ⟨_, _, _, h⟩ := F 19 (ws 19 (by simp)) (by decide); exact h
      refine o20.via f16 (by rw [so.size]; show (55 : Nat) < _; omega) ?_
      obtain ⟨A3, c3, m3, ys, fe, hm3, hns, hvy⟩ := f18
      refine o20.un.call2 (enters_of Tryz.func18 (by kernel_rfl) rfl) fe f19 (refAll7_any A3 A9 m3 c3 m9 c9 ys xs9 w (hns.later z18) (h9.later hl0) hm3 hm9 true ⟨fun _ => hvy.trans h69, fun _ => rfl⟩) ?_
      rintro e w' ⟨rfl, hl'⟩
      exact ⟨_, rfl, hK _ _ hl' rfl⟩
    · have ws := o21.waits ho hwait
      have f16 : a.eval (.tmp 55) = .bool true := by obtain ⟨_, _, _, h⟩ := F 16 (ws 16 (by simp)) (by decide); exact h
      have f20 : a.eval (.tmp 59) = .bool true := by obtain ⟨_, _, _, h⟩ := F 20 (ws 20 (by simp)) (by decide); exact h
      refine o21.pick f16 f20 ?_
      exact hK _ _ (Later.refl w) rfl
    · have ws := o22.waits ho hwait
      have f21 : a.eval (.tmp 60) = .bool true := by obtain ⟨_, _, _, h⟩ := F 21 (ws 21 (by simp)) (by decide); exact h
      refine o22.assign ?_
      rw [show a.eval (.tmp 60) = .bool true from f21]
      exact hK _ _ (Later.refl w) rfl
  · intro a w so hl F
    exact hend a w so hl (by obtain ⟨_, _, _, h⟩ := F 22 rfl (by decide); exact h)

end Go.Proofs.YtlnjhimbgckdcaaGreat
