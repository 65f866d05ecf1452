import Derived.Test.YtbhnbkcokhfopaaGreatPk27
import Derived.Deep.LoopGhost
import Derived.Deep.QuietTactic
import Derived.BigQuiet
import Derived.Lib.Hide
import Derived.Test.YtbhnbkcokhfopaaGreatPk26
import Derived.Test.YtbhnbkcokhfopaaGreatPk13
import Derived.Test.YtbhnbkcokhfopaaGreatPk19
import Derived.Test.YtbhnbkcokhfopaaGreatPk17

/-
  What seq's Invert comes to, as a call.
-/
namespace Go.Proofs.YtbhnbkcokhfopaaGreat
open Go.RowKit Go.Maps

attribute [local go_sem] Oper.semAt_some

/-- Between two rounds: k are over. -/
def InvI (w : World) (A : Option Addr) (n c : Nat) (xs : List PrC) (k : Nat) (V : World) : Prop :=
  ∃ v ys, BoxAt V w.heap.size #[v] 31 ∧ BoxAt V (w.heap.size + 1) #[.slice A n c] 31 ∧ OwnPs 53 w V v ys ∧ valsP ys = invertS ((valsP xs).drop (n - k)) ∧ (∀ y ∈ ys, Fresh w y) ∧ (∀ y ∈ ys, Away w.heap.size y ∧ Away (w.heap.size + 1) y) ∧ ys.length = k
theorem InvI.book {w : World} {A : Option Addr} {n c : Nat} {xs : List PrC} {k B : Nat} (hB : w.heap.size ≤ B) : Books B (InvI w A n c xs k) := by
  rintro V l o o' ⟨v, ys, h1, h2, h3, h4, h5, h6, h7⟩ hl hh ho
  exact ⟨v, ys, h1.shut hh ho, h2.shut hh ho, h3.shut (by omega) hh ho, h4, h5, h6, h7⟩
theorem InvI.on {w V V' : World} {A : Option Addr} {n c : Nat} {xs : List PrC} {k : Nat} (h : InvI w A n c xs k V) (hl : Later V V') : InvI w A n c xs k V' := by
  obtain ⟨v, ys, h1, h2, h3, h4, h5, h6, h7⟩ := h
  exact ⟨v, ys, h1.later hl, h2.later hl, h3.on hl, h4, h5, h6, h7⟩

set_option maxRecDepth 100000 in
set_option maxHeartbeats 1600000 in
theorem seqInvert_any (A : Option Addr) (n c : Nat) (xs : List PrC) (w : World) (hx : PsOk w A n xs) (hn : n ≤ 65536) :
    Calls Tryz.prog 15 #[.slice A n c] w (GivesC (invertS (valsP xs)) w) := by
  have hlen := hx.len
  have HX := Lib.hid hx
  have HBK := Lib.hid (fun (w1 : World) => back_any A n c w1)
  clear hx
  refine (callsIn_wide (n := 3)).1 (callsIn_of_wp_marks Tryz.func15 rfl trivial (wpIn_wide.2 ?_) rfl)
  simp only [Tryz.ntmps15, List.size_toArray, List.length_cons, List.length_nil, Nat.reduceAdd, Nat.reduceSub, Array.replicate_succ, Array.replicate_zero, List.push_toArray, List.append_toArray, List.nil_append, List.cons_append]
  go_wp2_with fail
  refine (HBK.out _).mono ?_
  rintro e w1 ⟨rfl, rfl⟩
  clear HBK
  go_wp2_with fail
  obtain ⟨b0, b1, hl0, hsz⟩ : BoxAt ((w.alloc (.cells #[.slice none 0 0] 31)).alloc (.cells #[.slice A n c] 31)) w.heap.size #[.slice none 0 0] 31 ∧ BoxAt ((w.alloc (.cells #[.slice none 0 0] 31)).alloc (.cells #[.slice A n c] 31)) (w.heap.size + 1) #[.slice A n c] 31 ∧ Later w ((w.alloc (.cells #[.slice none 0 0] 31)).alloc (.cells #[.slice A n c] 31)) ∧ ((w.alloc (.cells #[.slice none 0 0] 31)).alloc (.cells #[.slice A n c] 31)).heap.size = w.heap.size + 2 := by
    refine ⟨(BoxAt.made w _ _).alloc _, ?_, ((Later.refl w).alloc _).alloc _, by simp⟩
    have := BoxAt.made (w.alloc (.cells #[.slice none 0 0] 31)) #[.slice A n c] 31
    rw [World.size_alloc] at this
    exact this
  generalize (w.alloc (.cells #[.slice none 0 0] 31)).alloc (.cells #[.slice A n c] 31) = wL at b0 b1 hl0 hsz ⊢
  refine range_rows (zs := rounds xs) (w0 := wL) rfl (enters_of Tryz.func60 (by kernel_rfl) rfl) (back_hands 2 (w.heap.size + 1) (by decide) A n c xs (by omega) w wL HX.out.row hl0 (b1.cell rfl)) (Later.refl _) (fun _ => rfl) (fun h k => h.trans k) (fun V l o o' hl hh ho => KpB.book hl0.le V l o o' hl hh ho)
    (InvI w A n c xs) (fun _ _ => False)
    (fun k z a' V => InvI w A n c xs k V ∧ ∃ gx, BoxAt V gx (prL z.2).toArray 53 ∧ a' = { tmps := #[.slice A n c, undef, .slice none 0 0, .pointer (some ⟨w.heap.size, 0, none⟩), undef, .pointer (some ⟨gx, 0, none⟩), .slice A n c, .func (.func 60) #[] #[.pointer (some ⟨w.heap.size + 1, 0, none⟩)], .int .i64 z.1, prV z.2, undef, undef, undef, undef, undef, undef], defers := [] })
    (fun k => InvI.book hl0.le) (fun k V l o o' h => h.elim) (fun k z a' V l o o' ⟨h1, gx, h2, h3⟩ hl hh ho => ⟨InvI.book hl0.le V l o o' h1 hl hh ho, gx, h2.shut hh ho, h3⟩)
    (fun o o' h => h.on (((Later.refl wL).alloc o).alloc o')) ⟨.slice none 0 0, [], b0, b1, OwnPs.nil hl0, by rw [Nat.sub_zero, List.drop_of_length_le (by rw [valsP_length, hlen]; exact Nat.le_refl _)]; rfl, (fun y hy => by cases hy), (fun y hy => by cases hy), rfl⟩ ?assign ?body ?done ?stop
  case assign =>
    intro l k z V K hz hi hK
    obtain ⟨j, x⟩ := z
    simp only [backV, prV]
    gi_wp2
    refine hK _ _ (KeepsFrom.later ((Later.refl V).alloc _) _) ?_ ⟨hi.on ((Later.refl V).alloc _), V.heap.size, BoxAt.made V (prL x).toArray 53, rfl⟩
    obtain ⟨v, ys, h1, h2, h3, _⟩ := hi
    exact kpB_of h3.later (h3.later.trans ((Later.refl V).alloc _)) ((Later.refl V).alloc _).le h2 (h2.alloc _)
  case body =>
    rintro l k ⟨j, x⟩ a' V hz ⟨⟨v, ys, h1, h2, h3, h4, h5, h6, h7⟩, gx, hbx, rfl⟩
    obtain ⟨hj, hat⟩ := rounds_at hz
    dsimp only at hj hat hbx ⊢
    have hok := (HX.out.each x (List.mem_of_getElem? hat)).later h3.later
    have hlt2 := h2.lt
    refine wpIn_block (inv_region rfl (by kernel_rfl) (by kernel_rfl) ⟨_, rfl, rfl, rfl, rfl, by kernel_rfl⟩ ⟨_, rfl, rfl, rfl, rfl, by kernel_rfl⟩ ⟨_, rfl, rfl, rfl, rfl, by kernel_rfl⟩ ⟨_, rfl, rfl, rfl, rfl, by kernel_rfl⟩ ⟨_, rfl, rfl, rfl, rfl, by kernel_rfl⟩ ⟨_, rfl, rfl, rfl, rfl, by kernel_rfl⟩ (of_decide_eq_true rfl) rfl rfl h1 hbx hok h3 (h3.noBox h1 (by decide)) (fun z hz => (h6 z hz).1) (Nat.le_refl _) (by omega) (fun ⟨_, _, h⟩ => h) (fun D a V' so st => ?_))
    obtain ⟨s1, s2, s3, s4, V1, s5, s6⟩ := st
    have hb1 : BoxAt V1 (w.heap.size + 1) #[.slice A n c] 31 := h2.grown s5 (fun e => h3.noBox h2 (by decide) e.symm)
    have hb2 := hb1.other s6 (by omega)
    have hg1 : BoxAt V1 w.heap.size #[v] 31 := h1.grown s5 (fun e => h3.noBox h1 (by decide) e.symm)
    refine ⟨(KeepsFrom.grown s5 h3).trans (KeepsFrom.turn s6 hg1), kpB_of h3.later s3.later (Nat.le_trans s5.size s6.size) h2 hb2, D.v2, ys ++ [D.y], s4, hb2, s3, ?_, ?_, ?_, by simp; omega⟩
    · have := invertS_snoc (valsP_at hat)
      rw [show n - (k + 1) = j by omega, this, show j + 1 = n - k by omega, ← h4, ← s1]
      simp [valsP]
    · intro y hy
      rcases List.mem_append.1 hy with h | h
      · exact h5 y h
      · simp at h; subst h; exact s2.base h3.later
    · intro y hy
      rcases List.mem_append.1 hy with h | h
      · exact h6 y h
      · simp at h; subst h; exact ⟨s2.away (by omega), s2.away (by omega)⟩
  case done =>
    rintro D V hD ⟨v, ys, h1, h2, h3, h4, h5, h6, h7⟩ hd
    have c0 := h1.cell (i := 0) rfl
    rw [rounds_length, hlen, Nat.sub_self, List.drop_zero] at h4
    have H3 := Lib.hid h3; have H4 := Lib.hid h4; have H5 := Lib.hid h5; have HD := Lib.hid hd
    clear h1 h2 h3 h4 h5 h6 h7 hd
    go_wp2
    refine ⟨by simp, .inl ⟨_, _, rfl, run_takeDeferred HD.out, ?_⟩⟩
    exact ⟨_, results_tmp rfl _ _ _, v, ys, rfl, H3.out.shut (by omega) HD.out rfl, H4.out, H5.out⟩
  case stop =>
    rintro D k V _ _ h _
    exact h.elim

end Go.Proofs.YtbhnbkcokhfopaaGreat

/-
  More operations of a region that draws its order: make, len, an index, a store into a row.
-/
namespace Go.Proofs.YtbhnbkcokhfopaaGreat
open Go.RowKit Go.Maps

theorem made_zero (n : Nat) : (madeCells (Value.agg #[.int .i64 0, .string ByteArray.empty, .string ByteArray.empty, .int .i64 0, .slice none 0 0, .slice none 0 0]).cells (n * 6)).toList = ((List.replicate n zeroC).map prL).flatten := by
  have hk : ∀ cs ∈ (List.replicate n zeroC).map prL, cs.length = 6 := by
    intro cs hcs
    obtain ⟨y, _, rfl⟩ := List.mem_map.1 hcs
    rfl
  refine List.ext_getElem? fun j => ?_
  rcases Nat.lt_or_ge j (n * 6) with hj | hj
  · have hq : j / 6 < n := by omega
    have hat := flat_at (j := j / 6) (i := j % 6) hk (cs := prL zeroC) (by simp [hq]) (Nat.mod_lt _ (by decide))
    rw [show j / 6 * 6 + j % 6 = j by omega] at hat
    rw [hat]
    have h6 : j % 6 = 0 ∨ j % 6 = 1 ∨ j % 6 = 2 ∨ j % 6 = 3 ∨ j % 6 = 4 ∨ j % 6 = 5 := by omega
    simp only [madeCells, Value.cells]
    rcases h6 with h | h | h | h | h | h <;> simp [hj, h, prL, zeroC, zeroPr]
  · rw [List.getElem?_eq_none (by simp [madeCells]; exact hj), List.getElem?_eq_none (by rw [flat_length hk]; simpa using hj)]
theorem zero_away (g : Nat) : Away g zeroC := ⟨fun h => absurd rfl h, fun h => absurd rfl h⟩
section
variable {ops : Array Oper} {Q : Exit → Act → World → Prop} {K : Act → World → Prop} {i : Nat} {dst : Option Tmp} {js : List Nat} {a : Act} {w w0 : World}
theorem OpIs.lenS {k : Tmp} {A : Option Addr} {n c : Nat} (h : OpIs ops i (.call { callee := .builtin .len, args := #[.tmp k], argTypes := #[31] }) dst js) (he : a.eval (.tmp k) = .slice A n c) (hk : K (a.put dst (.int .i64 n)) w) : wpOp Tryz.prog ops Q i K a w :=
  h.go fun o h1 h2 => by
    have hr : (execOp a.eval o).run Tryz.prog w = .ok (.value (.int .i64 n)) w := by
      unfold execOp
      rw [h1]
      simp only [resolve, invoke, builtin, Sem.run_bind, List.map_toArray, List.map_cons, List.map_nil, he]
      go_simp
    unfold Oper.wp
    rw [hr]
    show K _ _
    rw [h2]
    exact hk
/-- A row of n zero prims. -/
theorem OpIs.makeS {j k : Tmp} {n : Nat} (h : OpIs ops i (.makeSlice 31 (.tmp j) (.tmp k)) dst js) (hj : a.eval (.tmp j) = .int .i64 n) (hk' : a.eval (.tmp k) = .int .i64 n) (hn : n ≤ 1000000) (hl : Later w0 w)
    (hk : ∀ w', OwnPs 53 w0 w' (.slice (some ⟨w.heap.size, 0, none⟩) n n) (List.replicate n zeroC) → Later w w' → K (a.put dst (.slice (some ⟨w.heap.size, 0, none⟩) n n)) w') : wpOp Tryz.prog ops Q i K a w :=
  h.go fun o h1 h2 => by
    obtain ⟨i0, hi, hz0, hz1, hz2⟩ := info_parts Tryz.primInfo
    obtain ⟨w', hrun, r1, r2⟩ := run_make_full (P := Tryz.prog) w w0.heap.size 31 53 i0 _ 6 Tryz.underlying31 hi hz0 hz1 .i64 .i64 n (by rw [hz2]; omega) (by simp only [maxLen]; omega) hl.le
    have hlw : Later w w' := ⟨r2.os, r2.tape, r2.output, r2.size, fun i hi => r2.block i hi (by simp)⟩
    unfold Oper.wp execOp
    simp only [h1, hj, hk', hrun, Sem.run_bind, Sem.run_pure, Result.andThen_ok]
    show K _ _
    rw [h2]
    rw [made_zero] at r1
    refine hk w' ⟨⟨by simpa using r1, fun cs hcs => ?_, hl.trans hlw⟩, fun x hx => ?_, fun x hx g _ => ?_⟩ hlw
    · obtain ⟨y, _, rfl⟩ := List.mem_map.1 hcs
      rfl
    · rw [List.eq_of_mem_replicate hx]; exact zeroC_ok _
    · rw [List.eq_of_mem_replicate hx]; exact zero_away g
theorem OpIs.index {j k : Tmp} {g o n c m : Nat} (h : OpIs ops i (.indexAddr 31 (.tmp j) (.tmp k)) dst js) (hj : a.eval (.tmp j) = .slice (some ⟨g, o, none⟩) n c) (hk' : a.eval (.tmp k) = .int .i64 (m : Nat)) (hm : m < n) (hk : K (a.put dst (.pointer (some ⟨g, o + m * 6, none⟩))) w) : wpOp Tryz.prog ops Q i K a w :=
  h.go fun op h1 h2 => by
    have hr : (execOp a.eval op).run Tryz.prog w = .ok (.value (.pointer (some ⟨g, o + m * 6, none⟩))) w := by
      unfold execOp
      rw [h1]
      dsimp only
      rw [hj, hk']
      go_simp
    unfold Oper.wp
    rw [hr]
    show K _ _
    rw [h2]
    exact hk
theorem OpIs.storeP {j k : Tmp} {T e : TypeId} {g o n c m : Nat} {xs : List PrC} {x : PrC} (h : OpIs ops i (.store T (.tmp j) (.tmp k)) none js) (hi : (Tryz.prog.info? T).map (·.size) = some 6) (hj : a.eval (.tmp j) = .pointer (some ⟨g, o + m * 6, none⟩)) (hv : a.eval (.tmp k) = prV x)
    (hown : OwnPs e w0 w (.slice (some ⟨g, o, none⟩) n c) xs) (hin : m < n) (hx : PrOk w x) (ha : Away g x) (hk : ∀ w', OwnPs e w0 w' (.slice (some ⟨g, o, none⟩) n c) (xs.set m x) → Turned g w w' → K a w') : wpOp Tryz.prog ops Q i K a w :=
  h.go fun op h1 h2 => by
    obtain ⟨b', o', q, hA, hz, hok, g0, g1, g2, g3, g4, g5⟩ := hown.ps.get hin
    cases hA
    have hth : w.there g (o + m * 6) 6 := by
      intro r hr
      refine ⟨?_, hown.frozen _⟩
      match r, hr with
      | 0, _ => rw [Nat.add_zero, g0]; rfl
      | 1, _ => rw [g1]; rfl
      | 2, _ => rw [g2]; rfl
      | 3, _ => rw [g3]; rfl
      | 4, _ => rw [g4]; rfl
      | 5, _ => rw [g5]; rfl
    refine wp_store_mid T (.tmp j) (.tmp k) h1 g (o + m * 6) (prL x).toArray hj (hv.trans (prV_is x)) hth hi (prL_one x) ?_
    rw [h2, put_none]
    exact hk _ (hown.set hin x hx ha) (turned_sets w g o m _ _ _ _ _ _)
end

end Go.Proofs.YtbhnbkcokhfopaaGreat

/-
  The statement of Apply's inner loop: in whatever order its operations come.
-/
namespace Go.Proofs.YtbhnbkcokhfopaaGreat
open Go.RowKit Go.Maps

section
variable {ops : Array Oper} {Q : Exit → Act → World → Prop} {K : Act → World → Prop} {i : Nat} {dst : Option Tmp} {js : List Nat} {a : Act} {w : World}
theorem OpIs.loadT {k : Tmp} {g : Nat} {v : Value} {t : TypeId} (h : OpIs ops i (.load 25 (.tmp k)) dst js) (he : a.eval (.tmp k) = .pointer (some ⟨g, 0, none⟩)) (hb : BoxAt w g #[v] t) (hk : K (a.put dst v) w) : wpOp Tryz.prog ops Q i K a w :=
  h.go fun o h1 h2 => by
    have hc := hb.cell (i := 0) rfl
    have hr : (execOp a.eval o).run Tryz.prog w = .ok (.value v) w := by
      clear hb hk
      unfold execOp
      rw [h1]
      dsimp only
      rw [he]
      go_simp
    unfold Oper.wp
    rw [hr]
    show K _ _
    rw [h2]
    exact hk
end
def ApSt (V0 : World) (p B : Nat) (x : PrC) (r : Tr × Int) : Nat → PrC → World → Prop
  | 0, _, V => Later V0 V
  | 1, y, V => Later V0 V ∧ y.v = invertP x.v ∧ PrOk V y
  | _, _, V => TreeAt V p B r.1 ∧ Turned B V0 V

set_option maxHeartbeats 1600000 in
theorem ap_region {ops : Array Oper} (hn : ops.size = 4) (hg : goesBack ops = true) (hdf : noDefer ops = true)
    (o0 : OpIs ops 0 (.load 25 (.tmp 2)) (some 28) [])
    (o1 : OpIs ops 1 (.load 53 (.tmp 9)) (some 29) [])
    (o2 : OpIs ops 2 (.call { callee := .value (.func 36), args := #[.tmp 29], argTypes := #[53] }) (some 30) [1])
    (o3 : OpIs ops 3 (.call { callee := .value (.func 34), args := #[.tmp 28, .tmp 30], argTypes := #[25, 53] }) (some 31) [0, 2])
    {a1 : Act} (hs : 34 ≤ a1.tmps.size) {wx : World} {p B k h g2 gx : Nat} {u : Tr} {x : PrC} (e2 : a1.eval (.tmp 2) = .pointer (some ⟨g2, 0, none⟩)) (e9 : a1.eval (.tmp 9) = .pointer (some ⟨gx, 0, none⟩)) (hb2 : BoxAt wx g2 #[.pointer (some ⟨p, 0, none⟩)] 25) (hbx : BoxAt wx gx (prL x).toArray 53) (hx : PrOk wx x) (ht : TreeAt wx p B u) (hs : Sized k h u) (hk : k ≤ 60000) (hh : h + (invertP x.v).new.length ≤ 65536)
    {Q : Exit → Act → World → Prop} (hq : ¬ LetsOut Q) {id lp mp : Nat} (hend : ∀ (D : PrC) (a : Act) (w : World), SameOut a1 a [28, 29, 30, 31] → ApSt wx p B x (applyP u (invertP x.v)) (2) D w → Q .normal a w) :
    (Code.region id ops true).wpIn (Fence.wide.inRound lp) mp Tryz.prog Q a1 wx := by
  refine regionIn_inv (by kernel_rfl) hg hdf hq (fun l a w => ∃ D : PrC, SameOut a1 a [28, 29, 30, 31] ∧ ApSt wx p B x (applyP u (invertP x.v)) (if l 3 = true then 2 else (if l 2 = true then 1 else 0)) D w ∧ (l 0 = true → a.eval (.tmp 28) = .pointer (some ⟨p, 0, none⟩)) ∧ (l 1 = true → a.eval (.tmp 29) = prV x) ∧ (l 2 = true → a.eval (.tmp 30) = prV D) ∧ (l 3 = true → a.eval (.tmp 31) = .int .i64 (applyP u (invertP x.v)).2) ∧ (l 3 = true → l 2 = true) ∧ (l 3 = true → l 0 = true) ∧ (l 2 = true → l 1 = true)) ?_ ?_ ?_
  · intro l a w i o ho hl hwait ⟨D, so, st, f0, f1, f2, f3, d3_2, d3_0, d2_1⟩
    have hi : i < 4 := by rw [← hn]; exact (Array.getElem?_eq_some_iff.1 ho).1
    have hc : i = 0 ∨ i = 1 ∨ i = 2 ∨ i = 3 := by omega
    rcases hc with rfl | rfl | rfl | rfl
    · have n3 : l 3 = false := by cases hx : l 3 with | false => rfl | true => have := d3_0 hx; rw [hl] at this; cases this
      have st0 := st
      have hl0 : Later wx w := by
        have hst := st
        simp only [n3, Bool.false_eq_true, if_false] at hst
        split at hst
        · exact hst.1
        · exact hst
      refine o0.loadT ((show _ = a1.eval _ from by simp only [Act.eval, Array.getD_eq_getD_getElem?, so.out 2 (by decide)]).trans e2) (hb2.later hl0) ?_
      exact ⟨D, (so.put (by decide) _), st, (fun _ => eval_put_same' _ _ _ (by rw [so.size]; show (28 : Nat) < _; omega)), (fun e => (eval_put_other' _ _ (by decide)).trans (f1 e)), (fun e => (eval_put_other' _ _ (by decide)).trans (f2 e)), (fun e => by rw [show more l 0 3 = l 3 from rfl, n3] at e; cases e), d3_2, (fun _ => rfl), d2_1⟩
    · have n2 : l 2 = false := by cases hx : l 2 with | false => rfl | true => have := d2_1 hx; rw [hl] at this; cases this
      have n3 : l 3 = false := by cases hx : l 3 with | false => rfl | true => have := d3_2 hx; rw [n2] at this; cases this
      have st0 := st
      have hl0 : Later wx w := by
        have hst := st
        simp only [n2, n3, Bool.false_eq_true, if_false] at hst
        exact hst
      refine o1.load Tryz.underlying53 Tryz.primSize ((show _ = a1.eval _ from by simp only [Act.eval, Array.getD_eq_getD_getElem?, so.out 9 (by decide)]).trans e9) (hbx.later hl0) ?_
      exact ⟨D, (so.put (by decide) _), st, (fun e => (eval_put_other' _ _ (by decide)).trans (f0 e)), (fun _ => eval_put_same' _ _ _ (by rw [so.size]; show (29 : Nat) < _; omega)), (fun e => by rw [show more l 1 2 = l 2 from rfl, n2] at e; cases e), (fun e => by rw [show more l 1 3 = l 3 from rfl, n3] at e; cases e), d3_2, d3_0, (fun _ => rfl)⟩
    · have ws := o2.waits ho hwait
      have w1 := ws 1 (by simp)
      have n3 : l 3 = false := by cases hx : l 3 with | false => rfl | true => have := d3_2 hx; rw [hl] at this; cases this
      have st0 : ApSt wx p B x (applyP u (invertP x.v)) 0 D w := by
        have hst := st
        simp only [hl, n3, Bool.false_eq_true, if_false] at hst
        exact hst
      refine o2.call1 (enters_of Tryz.func36 (by kernel_rfl) rfl) (f1 w1) (invertP_any x w (hx.later st0)) ?_
      rintro e w' ⟨y, rfl, hy, oky, fry, hl'⟩
      have st1 : ApSt wx p B x (applyP u (invertP x.v)) 1 y w' := ⟨Later.trans st0 hl', hy, oky⟩
      have st2 : ApSt wx p B x (applyP u (invertP x.v)) (if (more l 2) 3 = true then 2 else (if (more l 2) 2 = true then 1 else 0)) (y) w' := by
        rw [if_neg (show ¬ (more l 2 3 = true) from by rw [show more l 2 3 = l 3 from rfl, n3]; simp), if_pos (show more l 2 2 = true from rfl)]
        exact st1
      exact ⟨_, rfl, ⟨y, (so.put (by decide) _), st2, (fun e => (eval_put_other' _ _ (by decide)).trans (f0 e)), (fun e => (eval_put_other' _ _ (by decide)).trans (f1 e)), (fun _ => eval_put_same' _ _ _ (by rw [so.size]; show (30 : Nat) < _; omega)), (fun e => by rw [show more l 2 3 = l 3 from rfl, n3] at e; cases e), (fun _ => rfl), d3_0, (fun _ => w1)⟩⟩
    · have ws := o3.waits ho hwait
      have w0 := ws 0 (by simp)
      have w2 := ws 2 (by simp)
      have w1 := d2_1 w2
      have st0 : ApSt wx p B x (applyP u (invertP x.v)) 1 D w := by
        have hst := st
        simp only [hl, Bool.false_eq_true, if_false, if_true, w2] at hst
        exact hst
      have hyn := st0.2.2.new.len
      rw [st0.2.1] at hyn
      have hca := apply_any D p B k h u w (ht.later st0.1) st0.2.2 hs hk (by omega)
      rw [st0.2.1] at hca
      refine o3.call2 (enters_of Tryz.func34 (by kernel_rfl) rfl) (f0 w0) (f2 w2) hca ?_
      rintro e w' ⟨rfl, htw, htu⟩
      have st1 : ApSt wx p B x (applyP u (invertP x.v)) 2 D w' := ⟨htw, (st0.1.turned B).trans htu⟩
      have st2 : ApSt wx p B x (applyP u (invertP x.v)) (if (more l 3) 3 = true then 2 else (if (more l 3) 2 = true then 1 else 0)) (D) w' := by
        rw [if_pos (show more l 3 3 = true from rfl)]
        exact st1
      exact ⟨_, rfl, ⟨D, (so.put (by decide) _), st2, (fun e => (eval_put_other' _ _ (by decide)).trans (f0 e)), (fun e => (eval_put_other' _ _ (by decide)).trans (f1 e)), (fun e => (eval_put_other' _ _ (by decide)).trans (f2 e)), (fun _ => eval_put_same' _ _ _ (by rw [so.size]; show (31 : Nat) < _; omega)), (fun _ => w2), (fun _ => w0), d2_1⟩⟩
  · intro l a w hall ⟨D, so, st, f0, f1, f2, f3, d3_2, d3_0, d2_1⟩
    rw [hn] at hall
    have hst : ApSt wx p B x (applyP u (invertP x.v)) 2 D w := by
      have hst := st
      simp only [hall 3 (by decide), if_true] at hst
      exact hst
    exact hend D a w so hst
  · have h0 : ApSt wx p B x (applyP u (invertP x.v)) 0 x { wx with drawn := wx.drawn + 1 } := (Later.refl wx).drew
    exact ⟨x, SameOut.refl _ _, h0, (fun e => by cases e), (fun e => by cases e), (fun e => by cases e), (fun e => by cases e), (fun e => by cases e), (fun e => by cases e), (fun e => by cases e)⟩

end Go.Proofs.YtbhnbkcokhfopaaGreat

/-
  slices.Backward at a row of prims, where a round may turn what is no cells: what its closure hands on, round by round.
-/
namespace Go.Proofs.YtbhnbkcokhfopaaGreat
open Go.RowKit Go.Maps
attribute [local go_sem] Oper.semAt_some

/-- All cells that were there are as they were. -/
def Cells (w w' : World) : Prop := ∀ a v, w.cell? a = some v → w'.cell? a = some v
/-- What a round that goes on keeps: all cells that lay below n₀, and what cell Bs holds. -/
def KpC (n₀ Bs : Nat) (W W' : World) : Prop := (∀ a v, a.block < n₀ → W.cell? a = some v → W'.cell? a = some v) ∧ ∀ v, W.cell? ⟨Bs, 0, none⟩ = some v → W'.cell? ⟨Bs, 0, none⟩ = some v
theorem Cells.refl (w : World) : Cells w w := fun _ _ h => h
theorem Cells.later {w w' w'' : World} (h : Cells w w') (hl : Later w' w'') : Cells w w'' := fun a v ha => hl.cell (h a v ha)
theorem Cells.trans {w w' w'' : World} (h : Cells w w') (k : ∀ a v, a.block < w.heap.size → w'.cell? a = some v → w''.cell? a = some v) : Cells w w'' := fun a v ha => k a v (lt_of_cell ha) (h a v ha)
theorem RowK.cells {k n : Nat} {w w' : World} {A : Option Addr} {css : List (List Value)} (h : RowK k w A n css) (hl : Cells w w') : RowK k w' A n css :=
  ⟨h.1, h.2.1, fun hn => by
    obtain ⟨b, o, e, hc⟩ := h.2.2 hn
    exact ⟨b, o, e, fun j i cs v h1 h2 => hl _ _ (hc j i cs v h1 h2)⟩⟩
theorem Row.cells {n : Nat} {w w' : World} {A : Option Addr} {ss : List ByteArray} (h : Row w A n ss) (hl : Cells w w') : Row w' A n ss :=
  ⟨h.1, fun hn => by
    obtain ⟨b, o, e, hc⟩ := h.2 hn
    exact ⟨b, o, e, fun j s hs => hl _ _ (hc j s hs)⟩⟩
theorem PrOk.cells {w w' : World} {x : PrC} (h : PrOk w x) (hl : Cells w w') : PrOk w' x := ⟨h.old.cells hl, h.new.cells hl, h.oroom, h.nroom, h.omost, h.nmost, h.name, h.to, h.lo, h.hi, h.olds, h.news⟩
theorem PsOk.cells {w w' : World} {A : Option Addr} {n : Nat} {xs : List PrC} (h : PsOk w A n xs) (hl : Cells w w') : PsOk w' A n xs := ⟨h.row.cells hl, fun x hx => (h.each x hx).cells hl⟩
theorem Turned.cells {w w' : World} {B : Nat} (hg : Turned B w w') {es : Array MapEntry} {c : Nat} (hm : w.heap[B]? = some (.map es c)) : Cells w w' := fun _ _ ha => hg.cell ha (not_map hm ha)
theorem Later.cells {w w' : World} (h : Later w w') : Cells w w' := fun _ _ ha => h.cell ha
theorem KpC.trans {n₀ Bs : Nat} {X Y Z : World} (h : KpC n₀ Bs X Y) (k : KpC n₀ Bs Y Z) : KpC n₀ Bs X Z := ⟨fun a v hb ha => k.1 a v hb (h.1 a v hb ha), fun v hv => k.2 v (h.2 v hv)⟩
theorem KpC.of {n₀ Bs : Nat} {V V' : World} (h : Cells V V') : KpC n₀ Bs V V' := ⟨fun a v _ ha => h a v ha, fun v hv => h _ v hv⟩
theorem KpC.book {n₀ Bs : Nat} (V : World) (l : Nat) (o o' : Obj) (ho : V.heap[l]? = some o) (hc : o.isCells = false) : KpC n₀ Bs V (V.putObj l o') :=
  KpC.of fun _ _ ha => (shut_turned V l o').cell ha (cell_off ho hc ha)

set_option maxRecDepth 100000 in
set_option maxHeartbeats 2000000 in
theorem back1c_in (m l Bs : Nat) (hm : 1 ≤ m) (A : Option Addr) (n c : Nat) (xs : List PrC) (hn : n ≤ 524288) (w00 : World) (hrow : RowK 6 w00 A n (xs.map prL)) (J Jx : Nat → World → Prop)
    (hY : ∀ k x W, (rounds xs)[k]? = some x → J k W → YieldAt Fence.wide (m - 1) Tryz.prog l (backV x) W fun e W' =>
      (e = .returned (.bool true) ∧ J (k + 1) W' ∧ KpC w00.heap.size Bs W W') ∨ (e = .returned (.bool false) ∧ Jx (k + 1) W'))
    (W : World) (hl : Cells w00 W) (hBs : W.cell? ⟨Bs, 0, none⟩ = some (.slice A n c)) (h0 : J 0 W) :
    CallsIn Fence.wide m Tryz.prog 60 #[.func (.yield l) #[] #[], .pointer (some ⟨Bs, 0, none⟩)] W fun e W' => (∃ v, e = .returned v) ∧
      (J (rounds xs).length W' ∨ ∃ k, k ≤ (rounds xs).length ∧ Jx k W') := by
  have hlen : xs.length = n := by have := hrow.len; simpa using this
  refine callsIn_of_wp Tryz.func60 rfl trivial ?_ rfl
  simp only [Tryz.ntmps60, List.size_toArray, List.length_cons, List.length_nil, Nat.reduceAdd, Nat.reduceSub, Array.replicate_succ, Array.replicate_zero, List.push_toArray, List.append_toArray, List.nil_append, List.cons_append]
  gi_wp2
  gi_loopw [3] (fun s wr => ∃ r : Nat, r ≤ n ∧ s = .int .i64 ((r : Int) - 1) ∧ J (n - r) wr ∧ Cells w00 wr ∧ wr.cell? ⟨Bs, 0, none⟩ = some (.slice A n c))
    (fun s _ => (intOf s + 1).toNat)
  case atStart => exact ⟨n, Nat.le_refl _, by go_num, by rw [Nat.sub_self]; exact h0, hl, hBs⟩
  case round =>
    obtain ⟨r, hr, rfl, hJs, hlw, hbs⟩ := hrel
    rcases Nat.eq_zero_or_pos r with h0 | h0
    · subst h0
      gi_wp2
      go_end0
      exact ⟨⟨_, rfl⟩, .inl (by rw [rounds_length, hlen]; exact hJs)⟩
    · obtain ⟨j, rfl⟩ : ∃ j, r = j + 1 := ⟨r - 1, by omega⟩
      rw [show ((j + 1 : Nat) : Int) - 1 = (j : Int) by omega]
      obtain ⟨b, o, x, rfl, hz, g0, g1, g2, g3, g4, g5⟩ := (hrow.cells hlw).getP (show j < n by omega)
      obtain ⟨fn, tmps, assign, body, hy, hR⟩ := hY (n - (j + 1)) (j, x) wr (rounds_get hz (by omega)) hJs
      simp only [backV, prV] at hy hR
      have HLW := Lib.hid hlw; have HBS := Lib.hid hbs; have HR := Lib.hid hR
      clear hlw hR hz
      gi_wp2
      refine HR.out.mono ?_
      rintro e W3 (⟨rfl, hJ3, hk3⟩ | ⟨rfl, hJx3⟩)
      · rw [show n - (j + 1) + 1 = n - j by omega] at hJ3
        gi_wp2
        go_roundw
        case rel => exact ⟨j, by omega, by go_num, hJ3, HLW.out.trans hk3.1, hk3.2 _ HBS.out⟩
        case measure => simp [intOf]
      · gi_wp2
        refine bodyPost_ret (results_none rfl _ _ _) rfl ?_
        exact ⟨⟨_, rfl⟩, .inr ⟨_, by rw [rounds_length]; omega, hJx3⟩⟩

theorem back_handsC (m Bs : Nat) (hm : 1 ≤ m) (A : Option Addr) (n c : Nat) (xs : List PrC) (hn : n ≤ 524288) (w00 w : World) (hrow : RowK 6 w00 A n (xs.map prL)) (hl : Cells w00 w) (hBs : w.cell? ⟨Bs, 0, none⟩ = some (.slice A n c)) :
    Hands m Tryz.prog 60 #[.pointer (some ⟨Bs, 0, none⟩)] backV (KpC w00.heap.size Bs) (rounds xs) w := fun l J Jx W hW hY h0 =>
  back1c_in m l Bs hm A n c xs hn w00 hrow J Jx hY W (hl.later hW) (Later.cell hW hBs) h0

end Go.Proofs.YtbhnbkcokhfopaaGreat

/-
  What seq's Apply comes to, as a call.
-/
namespace Go.Proofs.YtbhnbkcokhfopaaGreat
open Go.RowKit Go.Maps

attribute [local go_sem] Oper.semAt_some

theorem FilesAt.shut {V : World} {B l : Nat} {t : Tr} {o o' : Obj} (h : FilesAt V B t) (hB : B < l) (hl : V.heap[l]? = some o) (ho : o.isCells = false) : FilesAt (V.putObj l o') B t := by
  obtain ⟨z, hz, rfl⟩ := h
  exact ⟨z, hz.off (shut_turned V l o') (by omega) (fun f hf hne => by
    obtain ⟨A, n, c, hv, _, hr⟩ := hz.reads f hf
    rw [hv]
    exact hr.away_shut hl ho hne), rfl⟩
theorem TreeAt.shut {V : World} {p B l : Nat} {t : Tr} {o o' : Obj} (h : TreeAt V p B t) (hB : B < l) (hl : V.heap[l]? = some o) (ho : o.isCells = false) : TreeAt (V.putObj l o') p B t :=
  ⟨(shut_turned V l o').cell h.cell (cell_off hl ho h.cell), h.files.shut hB hl ho⟩
/-- Between two rounds of the undoing: j are over. -/
structure ApI (w : World) (p B : Nat) (t : Tr) (A : Option Addr) (kk c g2 gB : Nat) (xs : List PrC) (j : Nat) (V : World) (u : Tr) : Prop where
  ran : runS t ((valsP xs).take (kk - j)) = (u, 0)
  tree : TreeAt V p B u
  turned : Turned B w V
  b2 : BoxAt V g2 #[.pointer (some ⟨p, 0, none⟩)] 25
  bB : BoxAt V gB #[.slice A kk c] 31
theorem Turned.shut {w V : World} {B l : Nat} {o' : Obj} (h : Turned B w V) (hw : w.heap.size ≤ l) : Turned B w (V.putObj l o') :=
  ⟨h.os, h.tape, h.output, by simpa using h.size, fun i hi hne => (World.putObj_heap_other (by omega)).trans (h.block i hi hne)⟩
theorem take_back {l : List Pr} {i : Nat} {x : Pr} {t u : Tr} (ht : Rising t) (h : runS t (l.take (i + 1)) = (u, 0)) (hx : l[i]? = some x) : ∃ s, runS t (l.take i) = (s, 0) ∧ applyP u (invertP x) = (s, 0) := by
  obtain ⟨hi, rfl⟩ := List.getElem?_eq_some_iff.1 hx
  rw [List.take_succ_eq_append_getElem hi] at h
  obtain ⟨s, h1, h2⟩ := runS_append.1 h
  obtain ⟨s', h3, h4⟩ := runS_cons.1 h2
  simp only [runS, Prod.mk.injEq, and_true] at h4
  subst h4
  exact ⟨s, h1, apply_back (runS_rising ht h1) h3⟩
theorem linesS_take (l : List Pr) (i : Nat) : linesS (l.take i) ≤ linesS l := by
  have : linesS l = linesS (l.take i) + linesS (l.drop i) := by rw [← linesS_append, List.take_append_drop]
  omega
theorem linesS_at {l : List Pr} {i : Nat} {x : Pr} (h : l[i]? = some x) : linesS (l.take i) + (x.old.length + x.new.length) ≤ linesS l := by
  obtain ⟨hi, rfl⟩ := List.getElem?_eq_some_iff.1 h
  have h1 := linesS_take l (i + 1)
  rw [List.take_succ_eq_append_getElem hi, linesS_append, linesS_cons, linesS_nil] at h1
  omega

set_option maxRecDepth 100000 in
set_option maxHeartbeats 3200000 in
theorem seqApply_any (p B k h : Nat) (t : Tr) (A : Option Addr) (n c : Nat) (xs : List PrC) (w : World) (ht : TreeAt w p B t) (hx : PsOk w A n xs) (hs : Sized k h t) (hnc : n ≤ c) (hn : k + n ≤ 60000) (hh : h + 2 * linesS (valsP xs) ≤ 65536) :
    Calls Tryz.prog 13 #[.pointer (some ⟨p, 0, none⟩), .slice A n c] w (Does (applyS t (valsP xs)) p B w) := by
  have hlen := hx.len
  have hB := ht.files.lt
  have hp := ht.lt
  obtain ⟨es, em, hmap⟩ := ht.files.map
  have HX := Lib.hid hx; have HT := Lib.hid ht; have HS := Lib.hid hs; have HM := Lib.hid hmap
  have HB2 : Hid (BoxAt (w.alloc (.cells #[.pointer (some ⟨p, 0, none⟩)] 25)) w.heap.size #[.pointer (some ⟨p, 0, none⟩)] 25) := BoxAt.made w _ _
  clear hx ht hs hmap
  refine (callsIn_wide (n := 3)).1 (callsIn_of_wp_marks Tryz.func13 rfl trivial (wpIn_wide.2 ?_) rfl)
  simp only [Tryz.ntmps13, List.size_toArray, List.length_cons, List.length_nil, Nat.reduceAdd, Nat.reduceSub, Array.replicate_succ, Array.replicate_zero, List.push_toArray, List.append_toArray, List.nil_append, List.cons_append]
  go_wp2
  go_loopg [12] (n + 1) (fun g s12 wr => ∃ (kk : Nat) (u : Tr), kk ≤ n ∧ n - kk ≤ g ∧ s12 = .int .i64 kk ∧ Hid (runS t ((valsP xs).take kk) = (u, 0)) ∧ Hid (TreeAt wr p B u) ∧ Hid (Turned B w wr) ∧ Hid (BoxAt wr w.heap.size #[.pointer (some ⟨p, 0, none⟩)] 25))
  case atStart => exact ⟨0, t, Nat.zero_le _, by omega, rfl, by simp [Hid, runS], HT.out.later ((Later.refl w).alloc _), ((Later.refl w).alloc _).turned B, HB2.out⟩
  case round =>
    obtain ⟨kk, u, hk, hg, rfl, hran, htr, htu, hb2⟩ := hrel
    have hb2lt := hb2.out.lt
    by_cases hlt : kk < n
    · have hcl := htu.out.cells HM.out
      obtain ⟨b, o, x, rfl, hz, hok, g0, g1, g2, g3, g4, g5⟩ := (HX.out.cells hcl).get hlt
      have hatv := valsP_at hz
      have hsz := runS_sized (l := (valsP xs).take kk) HS.out
      rw [hran.out] at hsz
      have hln := linesS_at hatv
      have htl : ((valsP xs).take kk).length = kk := by rw [List.length_take, valsP_length, hlen]; omega
      rw [htl] at hsz
      have hnl := hok.new.len
      have HLB : Hid (Later wr (wr.alloc (.cells #[.int .i64 x.v.kind, .string x.v.name, .string x.v.to, .int .i64 x.v.place, .slice x.A x.n x.c, .slice x.B x.m x.d] 53))) := (Later.refl wr).alloc _
      have HC := Lib.hid (apply_any x p B _ _ u _ (htr.out.later HLB.out) (hok.later HLB.out) hsz (by omega) (by omega))
      have c2 := (hb2.out.later HLB.out).cell (i := 0) rfl
      have HATV := Lib.hid hatv; have HSZ := Lib.hid hsz; have HCL := Lib.hid hcl
      clear hok hz hatv hsz hcl htl
      unfold prV at HC
      cases hr : decide ((applyP u x.v).2 = 0)
      · have he : (applyP u x.v).2 ≠ 0 := of_decide_eq_false hr
        have herr : (applyP u x.v).1 = u := apply_errS he
        have HAS : Hid (applyS t (valsP xs) = (t, (applyP u x.v).2)) := by
          show _ = _
          have e1 : valsP xs = (valsP xs).take kk ++ x.v :: (valsP xs).drop (kk + 1) := by
            obtain ⟨hi, hxi⟩ := List.getElem?_eq_some_iff.1 HATV.out
            rw [← hxi, ← List.drop_eq_getElem_cons hi, List.take_append_drop]
          rw [e1]
          exact applyS_err hran.out he
        have hne : ((applyP u x.v).2 == 0) = false := by rw [beq_eq_false_iff_ne]; exact he
        have HHR := Lib.hid herr
        clear he hr herr
        go_wp2_with fail
        refine HC.out.mono ?_
        rintro e w2 ⟨rfl, htw, htu2⟩
        rw [HHR.out] at htw
        generalize (applyP u x.v).2 = er at *
        obtain ⟨es1, em1, hm1⟩ := (htr.out.later HLB.out).files.map
        have HBX := Lib.hid ((hb2.out.later HLB.out).turnS htu2 hm1)
        have HTU := Lib.hid ((htu.out.trans (HLB.out.turned B)).trans htu2); have HTW := Lib.hid htw
        have HBK := Lib.hid (fun (A1 : Option Addr) (n1 c1 : Nat) (w1 : World) => back_any A1 n1 c1 w1)
        clear HC c2 g0 g1 g2 g3 g4 g5 htw htu2 hm1
        go_wp2_with fail
        refine (HBK.out _ _ _ _).mono ?_
        rintro e w3 ⟨rfl, rfl⟩
        clear HBK
        go_wp2_with fail
        have hl3 : Later w2 (w2.alloc (.cells #[.slice (some ⟨b, o, none⟩) kk c] 31)) := (Later.refl w2).alloc _
        have hbB : BoxAt (w2.alloc (.cells #[.slice (some ⟨b, o, none⟩) kk c] 31)) w2.heap.size #[.slice (some ⟨b, o, none⟩) kk c] 31 := BoxAt.made w2 _ _
        have hrow : RowK 6 w (some ⟨b, o, none⟩) kk ((xs.take kk).map prL) := by
          refine ⟨by simp [hlen]; omega, (fun cs hcs => by obtain ⟨y, _, rfl⟩ := List.mem_map.1 hcs; rfl), fun hkk => ?_⟩
          obtain ⟨b', o', e', hc'⟩ := HX.out.row.2.2 (by omega)
          refine ⟨b', o', e', fun j i cs v h1 h2 => hc' j i cs v ?_ h2⟩
          rw [List.getElem?_map, List.getElem?_take] at h1
          split at h1
          · rw [List.getElem?_map]; exact h1
          · simp at h1
        have hi0 : ∃ u', ApI w p B t (some ⟨b, o, none⟩) kk c w.heap.size w2.heap.size xs 0 (w2.alloc (.cells #[.slice (some ⟨b, o, none⟩) kk c] 31)) u' := ⟨u, hran.out, HTW.out.later hl3, HTU.out.trans (hl3.turned B), HBX.out.later hl3, hbB⟩
        have hcw : Cells w (w2.alloc (.cells #[.slice (some ⟨b, o, none⟩) kk c] 31)) := (HTU.out.cells HM.out).later hl3
        have hszL : w.heap.size ≤ (w2.alloc (.cells #[.slice (some ⟨b, o, none⟩) kk c] 31)).heap.size := Nat.le_trans HTU.out.size hl3.le
        generalize w2.heap.size = gB at hbB hi0 ⊢
        generalize w2.alloc (.cells #[.slice (some ⟨b, o, none⟩) kk c] 31) = wL at hl3 hbB hi0 hcw hszL ⊢
        refine range_rows (zs := rounds (xs.take kk)) (w0 := wL) rfl (enters_of Tryz.func60 (by kernel_rfl) rfl) (back_handsC 2 gB (by decide) (some ⟨b, o, none⟩) kk c (xs.take kk) (by omega) w wL hrow hcw (hbB.cell rfl)) (Later.refl _) (fun _ => rfl) (fun h k => h.trans k) (fun V l o o' _ hh ho => KpC.book V l o o' hh ho)
          (fun j V => ∃ u', ApI w p B t (some ⟨b, o, none⟩) kk c w.heap.size gB xs j V u') (fun _ _ => False)
          (fun j z a' V => (∃ u', ApI w p B t (some ⟨b, o, none⟩) kk c w.heap.size gB xs j V u') ∧ ∃ gx, BoxAt V gx (prL z.2).toArray 53 ∧ a' = { tmps := #[.pointer (some ⟨p, 0, none⟩), .slice (some ⟨b, o, none⟩) n c, .pointer (some ⟨w.heap.size, 0, none⟩), undef, u4, .int .i64 kk, .pointer (some ⟨wr.heap.size, 0, none⟩), .int .i64 er, undef, .pointer (some ⟨gx, 0, none⟩), .slice (some ⟨b, o, none⟩) n c, .int .i64 n, .int .i64 kk, .bool true, .int .i64 kk, .pointer (some ⟨b, o + kk * 6, none⟩), .agg #[.int .i64 x.v.kind, .string x.v.name, .string x.v.to, .int .i64 x.v.place, .slice x.A x.n x.c, .slice x.B x.m x.d], .pointer (some ⟨p, 0, none⟩), .agg #[.int .i64 x.v.kind, .string x.v.name, .string x.v.to, .int .i64 x.v.place, .slice x.A x.n x.c, .slice x.B x.m x.d], .int .i64 er, .int .i64 er, .bool false, .slice (some ⟨b, o, none⟩) n c, .int .i64 kk, .slice (some ⟨b, o, none⟩) kk c, .func (.func 60) #[] #[.pointer (some ⟨gB, 0, none⟩)], .int .i64 z.1, prV z.2, u28, u29, u30, u31, u32, u33], defers := [] })
          (fun j V l o' o'' ⟨u', q⟩ hl hh ho => ⟨u', q.ran, q.tree.shut (by omega) hh ho, q.turned.shut (by omega), q.b2.shut hh ho, q.bB.shut hh ho⟩) (fun j V l o o' h => h.elim) (fun j z a' V l o' o'' ⟨⟨u', q⟩, gx, h2, h3⟩ hl hh ho => ⟨⟨u', q.ran, q.tree.shut (by omega) hh ho, q.turned.shut (by omega), q.b2.shut hh ho, q.bB.shut hh ho⟩, gx, h2.shut hh ho, h3⟩)
          (fun o' o'' ⟨u', q⟩ => ⟨u', q.ran, q.tree.later (((Later.refl wL).alloc o').alloc o''), q.turned.trans ((((Later.refl wL).alloc o').alloc o'').turned B), q.b2.later (((Later.refl wL).alloc o').alloc o''), q.bB.later (((Later.refl wL).alloc o').alloc o'')⟩) hi0 ?assign ?body ?done ?stop
        case assign =>
          rintro l j ⟨i, y⟩ V K hz ⟨u', q⟩ hK
          simp only [backV, prV]
          gi_wp2
          have hlv : Later V (V.alloc (.cells (prL y).toArray 53)) := (Later.refl V).alloc _
          exact hK _ _ (KeepsFrom.later hlv _) (KpC.of hlv.cells) ⟨⟨u', q.ran, q.tree.later hlv, q.turned.trans (hlv.turned B), q.b2.later hlv, q.bB.later hlv⟩, V.heap.size, BoxAt.made V (prL y).toArray 53, rfl⟩
        case body =>
          rintro l j ⟨i, y⟩ a' V hz ⟨⟨u', q⟩, gx, hbx, rfl⟩
          obtain ⟨hj, hat⟩ := rounds_at hz
          dsimp only at hj hat hbx ⊢
          have hkl : (xs.take kk).length = kk := by rw [List.length_take, hlen]; omega
          have hik : i < kk := by omega
          rw [List.getElem?_take, if_pos hik] at hat
          have hatv := valsP_at hat
          have hok := (HX.out.each y (List.mem_of_getElem? hat)).cells (q.turned.cells HM.out)
          have hran' := q.ran
          rw [show kk - j = i + 1 by omega] at hran'
          obtain ⟨s', hs1, hs2⟩ := take_back HT.out.files.rise hran' hatv
          have hsz := runS_sized (l := (valsP xs).take (i + 1)) HS.out
          rw [hran'] at hsz
          have hln := linesS_take (valsP xs) (i + 1)
          have hln2 := linesS_at hatv
          have hinv := invert_lines y.v
          have hlen1 : ((valsP xs).take (i + 1)).length ≤ n := by rw [List.length_take, valsP_length, hlen]; omega
          obtain ⟨es2, em2, hm2⟩ := q.tree.files.map
          refine wpIn_block (ap_region rfl (by kernel_rfl) (by kernel_rfl) ⟨_, rfl, rfl, rfl, rfl, by kernel_rfl⟩ ⟨_, rfl, rfl, rfl, rfl, by kernel_rfl⟩ ⟨_, rfl, rfl, rfl, rfl, by kernel_rfl⟩ ⟨_, rfl, rfl, rfl, rfl, by kernel_rfl⟩ (of_decide_eq_true rfl) rfl rfl q.b2 hbx hok q.tree hsz (by omega) (by omega) (fun ⟨_, _, h⟩ => h) (fun D a V' so st => ?_))
          rw [hs2] at st
          obtain ⟨s1, s2⟩ := st
          exact ⟨KeepsFrom.of_grownBy s2 (fun j e => by cases e; omega), KpC.of (s2.cells hm2), s', by rw [show kk - (j + 1) = i by omega]; exact hs1, s1, q.turned.trans s2, q.b2.turnS s2 hm2, q.bB.turnS s2 hm2⟩
        case done =>
          rintro Dd V hD ⟨u', q⟩ hd
          have hq := q.ran
          rw [rounds_length, List.length_take, hlen, Nat.min_eq_left (by omega), Nat.sub_self, List.take_zero] at hq
          simp only [runS, Prod.mk.injEq, and_true] at hq
          subst hq
          have HQ := Lib.hid q; have HD := Lib.hid hd
          clear q hd
          go_wp2
          refine ⟨by simp, .inl ⟨_, _, rfl, run_takeDeferred HD.out, ?_⟩⟩
          refine ⟨_, results_tmp rfl _ _ _, ?_⟩
          rw [HAS.out]
          exact ⟨rfl, HQ.out.tree.shut (by omega) HD.out rfl, HQ.out.turned.shut (by omega)⟩
        case stop =>
          rintro Dd j V _ _ h _
          exact h.elim
      · have he : (applyP u x.v).2 = 0 := of_decide_eq_true hr
        have HEQ := Lib.hid he
        have HNX : Hid (runS t ((valsP xs).take (kk + 1)) = ((applyP u x.v).1, 0)) := by
          show _ = _
          obtain ⟨hi, hxi⟩ := List.getElem?_eq_some_iff.1 HATV.out
          rw [List.take_succ_eq_append_getElem hi, hxi, runS_snoc hran.out, Prod.ext_iff]
          exact ⟨rfl, he⟩
        clear hr he
        go_wp2_with fail
        refine HC.out.mono ?_
        rintro e w2 ⟨rfl, htw, htu2⟩
        obtain ⟨es1, em1, hm1⟩ := (htr.out.later HLB.out).files.map
        have HBX := Lib.hid ((hb2.out.later HLB.out).turnS htu2 hm1)
        have HTU := Lib.hid ((htu.out.trans (HLB.out.turned B)).trans htu2); have HTW := Lib.hid htw
        clear HC c2 g0 g1 g2 g3 g4 g5 htw htu2 hm1
        rw [HEQ.out]
        generalize (applyP u x.v).1 = u' at HTW HNX
        clear HEQ
        go_wp2
        go_roundg (n - (kk + 1))
        case measure => omega
        case rel => exact ⟨kk + 1, _, by omega, Nat.le_refl _, by go_num, HNX, HTW, HTU, HBX⟩
    · obtain rfl : kk = n := by omega
      have HE : Hid (applyS t (valsP xs) = (u, 0)) := by
        have := hran.out
        rw [List.take_of_length_le (by rw [valsP_length, hlen]; omega)] at this
        exact applyS_ok.2 this
      go_wp2
      refine ⟨_, results_tmp rfl _ _ _, ?_⟩
      rw [HE.out]
      exact ⟨rfl, htr.out, htu.out⟩

end Go.Proofs.YtbhnbkcokhfopaaGreat
