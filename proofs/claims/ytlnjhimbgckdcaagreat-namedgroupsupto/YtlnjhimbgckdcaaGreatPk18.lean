import Derived.Test.YtlnjhimbgckdcaaGreatPk14
import Derived.Test.YtlnjhimbgckdcaaGreatPk17
import Derived.Deep.LoopGhost
import Derived.Deep.QuietTactic
import Derived.BigQuiet
import Derived.Lib.Hide
import Derived.Test.YtlnjhimbgckdcaaGreatPk13
import Derived.Test.YtlnjhimbgckdcaaGreatPk15
import Derived.Test.YtlnjhimbgckdcaaGreatPk9

/-
  What named's Same comes to, as a call.
-/
namespace Go.Proofs.YtlnjhimbgckdcaaGreat
open Go.RowKit Go.Maps

theorem sameN_parts (p q : Pa) : sameN p q = (decide (p.id = q.id) && (decide (p.note = q.note) && (decide (p.deps = q.deps) && sameS p.l q.l))) := by
  obtain ⟨i, n, d, l⟩ := p
  obtain ⟨i', n', d', l'⟩ := q
  rw [Bool.eq_iff_iff, sameN_iff]
  simp only [Bool.and_eq_true, decide_eq_true_eq, sameS_iff, Pa.mk.injEq]
set_option maxRecDepth 100000 in
set_option maxHeartbeats 800000 in
theorem same7_any (x y : PaC) (w : World) (hx : PaOk w x) (hy : PaOk w y) : Calls Tryz.prog 25 #[paV x, paV y] w (Says (sameN x.v y.v) w) := by
  have HS : Hid (∀ w', Later w w' → Calls Tryz.prog 41 #[.slice x.L x.nl x.cl, .slice y.L y.nl y.cl] w' (Says (sameS x.v.l y.v.l) w')) := fun w' hl => by
    rw [← hx.is, ← hy.is]
    exact seqSame_any x.L y.L x.nl x.cl y.nl y.cl x.xs y.xs w' (hx.row.later hl) (hy.row.later hl) (by have := hx.lmost; omega) (by have := hy.lmost; omega)
  have HE : Hid (∀ w', Later w w' → Calls Tryz.prog 40 #[.slice x.D x.nd x.cd, .slice y.D y.nd y.cd] w' (Says (decide (x.v.deps = y.v.deps)) w')) := fun w' hl =>
    equalI_any x.D y.D x.nd x.cd y.nd y.cd x.v.deps y.v.deps _ (RowK.later hx.deps hl) (RowK.later hy.deps hl) hx.dmost hy.dmost
  clear hx hy
  rw [sameN_parts]
  obtain ⟨⟨id, nt, deps, l⟩, D, nd, cd, L, nl, cl, xs⟩ := x
  obtain ⟨⟨id', nt', deps', l'⟩, D', nd', cd', L', nl', cl', ys⟩ := y
  dsimp only at HS HE ⊢
  unfold paV
  dsimp only
  by_cases h1 : id = id'
  · subst h1
    by_cases h2 : nt = nt'
    · subst h2
      rw [decide_eq_true (rfl : id = id), decide_eq_true (rfl : nt = nt), Bool.true_and, Bool.true_and]
      have HLB : Hid (Later w ((w.alloc (.cells #[.int .i64 id, .string nt, .slice D nd cd, .slice L nl cl] 30)).alloc (.cells #[.int .i64 id, .string nt, .slice D' nd' cd', .slice L' nl' cl'] 30))) := ((Later.refl w).alloc _).alloc _
      have HBX : Hid (BoxAt ((w.alloc (.cells #[.int .i64 id, .string nt, .slice D nd cd, .slice L nl cl] 30)).alloc (.cells #[.int .i64 id, .string nt, .slice D' nd' cd', .slice L' nl' cl'] 30)) w.heap.size #[.int .i64 id, .string nt, .slice D nd cd, .slice L nl cl] 30) := (BoxAt.made w _ _).alloc _
      have HBY : Hid (BoxAt ((w.alloc (.cells #[.int .i64 id, .string nt, .slice D nd cd, .slice L nl cl] 30)).alloc (.cells #[.int .i64 id, .string nt, .slice D' nd' cd', .slice L' nl' cl'] 30)) (w.heap.size + 1) #[.int .i64 id, .string nt, .slice D' nd' cd', .slice L' nl' cl'] 30) := by
        have := BoxAt.made (w.alloc (.cells #[.int .i64 id, .string nt, .slice D nd cd, .slice L nl cl] 30)) #[.int .i64 id, .string nt, .slice D' nd' cd', .slice L' nl' cl'] 30
        rw [World.size_alloc] at this
        exact this
      have HE1 := Lib.hid (HE.out _ HLB.out)
      generalize decide (deps = deps') = dd at HE1 ⊢
      generalize sameS l l' = b at HS ⊢
      generalize hRR : (dd && b) = r
      have HRR := Lib.hid hRR
      clear hRR HE
      go_enter Tryz.func25, Tryz.ntmps25
      go_wp2_with fail
      refine HE1.out.mono ?_
      rintro e w3 ⟨rfl, hl3⟩
      have HL3 := Lib.hid (HLB.out.trans hl3)
      have q0 : w3.cell? ⟨w.heap.size, 3, none⟩ = some (.slice L nl cl) := (HBX.out.later hl3).cell rfl
      have q1 : w3.cell? ⟨w.heap.size + 1, 3, none⟩ = some (.slice L' nl' cl') := (HBY.out.later hl3).cell rfl
      clear hl3 HE1 HBX HBY
      cases dd with
      | false =>
        go_wp2
        go_ret
        exact ⟨by rw [← HRR.out]; rfl, HL3.out⟩
      | true =>
        have HS3 := Lib.hid (HS.out w3 HL3.out)
        clear HS
        go_wp2_with fail
        refine HS3.out.mono ?_
        rintro e w4 ⟨rfl, hl4⟩
        have HL4 := Lib.hid (HL3.out.trans hl4)
        clear hl4 HS3
        go_wp2
        go_ret
        exact ⟨by rw [← HRR.out]; rfl, HL4.out⟩
    · rw [decide_eq_false h2, Bool.false_and, Bool.and_false]
      have t1 := text_ne h2
      go_enter Tryz.func25, Tryz.ntmps25
      go_wp2
      go_ret
      exact ⟨rfl, ((Later.refl w).alloc _).alloc _⟩
  · rw [decide_eq_false h1, Bool.false_and]
    go_enter Tryz.func25, Tryz.ntmps25
    go_wp2
    go_ret
    exact ⟨rfl, ((Later.refl w).alloc _).alloc _⟩

end Go.Proofs.YtlnjhimbgckdcaaGreat

/-
  What stands while a statement tells two patches into two new boxes, in whatever order; operations of such statements.
-/
namespace Go.Proofs.YtlnjhimbgckdcaaGreat
open Go.RowKit Go.Maps

def zeroNL : Array Value := #[.int .i64 0, .string ⟨#[]⟩, .slice none 0 0, .slice none 0 0]
structure TwD where
  y : PaC
  z : PaC
  t : Bool
  g8 : Nat
  g9 : Nat
structure TwS (T : TypeId) (wx : World) (r : Option (Pa × Pa)) (M : PaC → PaC → Prop) (b b' : Bool) (s : Nat) (D : TwD) (V : World) : Prop where
  later : Later wx V
  sw : 1 ≤ s → PaOk V D.y ∧ PaOk V D.z ∧ D.t = r.isSome ∧ (r = none → D.y = zeroN ∧ D.z = zeroN) ∧ ∀ c, r = some c → D.y.v = c.1 ∧ D.z.v = c.2
  b8 : b = true → wx.heap.size ≤ D.g8 ∧ ∃ cs, cs.size = 4 ∧ BoxAt V D.g8 cs T ∧ (2 ≤ s → cs = (paL D.y).toArray)
  b9 : b' = true → wx.heap.size ≤ D.g9 ∧ ∃ cs, cs.size = 4 ∧ BoxAt V D.g9 cs T ∧ (3 ≤ s → cs = (paL D.z).toArray)
  ne : b = true → b' = true → D.g8 ≠ D.g9
  a8 : 1 ≤ s → b = true → AwayN D.g8 D.y ∧ AwayN D.g8 D.z
  a9 : 1 ≤ s → b' = true → AwayN D.g9 D.y ∧ AwayN D.g9 D.z
  m : 1 ≤ s → M D.y D.z
section
variable {T : TypeId} {wx V V' : World} {r : Option (Pa × Pa)} {M : PaC → PaC → Prop} {b b' : Bool} {s : Nat} {D : TwD}
theorem TwS.start : TwS T wx r M false false 0 ⟨zeroN, zeroN, false, 0, 0⟩ { wx with drawn := wx.drawn + 1 } :=
  ⟨(Later.refl wx).drew, (fun e => by omega), (fun e => by cases e), (fun e => by cases e), (fun e => by cases e), (fun e => by omega), (fun e => by omega), (fun e => by omega)⟩
theorem TwS.on (h : TwS T wx r M b b' 0 D V) (hl : Later V V') : TwS T wx r M b b' 0 D V' :=
  ⟨h.later.trans hl, (fun e => by omega), (fun e => by obtain ⟨q1, cs, q2, q3, q4⟩ := h.b8 e; exact ⟨q1, cs, q2, q3.later hl, q4⟩), (fun e => by obtain ⟨q1, cs, q2, q3, q4⟩ := h.b9 e; exact ⟨q1, cs, q2, q3.later hl, q4⟩), h.ne, (fun e => by omega), (fun e => by omega), (fun e => by omega)⟩
theorem TwS.swap (h : TwS T wx r M b b' 0 D V) (hl : Later V V') {y z : PaC} (h1 : PaOk V' y) (h2 : PaOk V' z) (h3 : r = none → y = zeroN ∧ z = zeroN) (h4 : ∀ c, r = some c → y.v = c.1 ∧ z.v = c.2) (h5 : ∀ k, wx.heap.size ≤ k → k < V.heap.size → AwayN k y ∧ AwayN k z) (h6 : M y z) : TwS T wx r M b b' 1 { D with y := y, z := z, t := r.isSome } V' :=
  ⟨h.later.trans hl, fun _ => ⟨h1, h2, rfl, h3, h4⟩, (fun e => by obtain ⟨q1, cs, q2, q3, _⟩ := h.b8 e; exact ⟨q1, cs, q2, q3.later hl, fun e => by omega⟩), (fun e => by obtain ⟨q1, cs, q2, q3, _⟩ := h.b9 e; exact ⟨q1, cs, q2, q3.later hl, fun e => by omega⟩), h.ne, (fun _ e => by obtain ⟨q1, cs, q2, q3, _⟩ := h.b8 e; exact h5 _ q1 q3.lt), (fun _ e => by obtain ⟨q1, cs, q2, q3, _⟩ := h.b9 e; exact h5 _ q1 q3.lt), (fun _ => h6)⟩
theorem TwS.alloc8 (h : TwS T wx r M false b' s D V) (hs : s ≤ 1) : TwS T wx r M true b' s { D with g8 := V.heap.size } (V.alloc (.cells zeroNL T)) :=
  ⟨h.later.alloc _, fun e => ⟨(h.sw e).1.later4 _, (h.sw e).2.1.later4 _, (h.sw e).2.2⟩, (fun _ => ⟨h.later.le, zeroNL, rfl, BoxAt.made V zeroNL T, fun e => by omega⟩), (fun e => by obtain ⟨q1, cs, q2, q3, q4⟩ := h.b9 e; exact ⟨q1, cs, q2, q3.alloc _, q4⟩), (fun _ e => by obtain ⟨_, _, _, q3, _⟩ := h.b9 e; have := q3.lt; show V.heap.size ≠ D.g9; omega), (fun e _ => ⟨(h.sw e).1.away (Nat.le_refl _), (h.sw e).2.1.away (Nat.le_refl _)⟩), h.a9, h.m⟩
theorem TwS.alloc9 (h : TwS T wx r M b false s D V) (hs : s ≤ 1) : TwS T wx r M b true s { D with g9 := V.heap.size } (V.alloc (.cells zeroNL T)) :=
  ⟨h.later.alloc _, fun e => ⟨(h.sw e).1.later4 _, (h.sw e).2.1.later4 _, (h.sw e).2.2⟩, (fun e => by obtain ⟨q1, cs, q2, q3, q4⟩ := h.b8 e; exact ⟨q1, cs, q2, q3.alloc _, q4⟩), (fun _ => ⟨h.later.le, zeroNL, rfl, BoxAt.made V zeroNL T, fun e => by omega⟩), (fun e _ => by obtain ⟨_, _, _, q3, _⟩ := h.b8 e; have := q3.lt; show D.g8 ≠ V.heap.size; omega), h.a8, (fun e _ => ⟨(h.sw e).1.away (Nat.le_refl _), (h.sw e).2.1.away (Nat.le_refl _)⟩), h.m⟩
theorem TwS.st8 (h : TwS T wx r M true true 1 D V) (hb : BoxAt V' D.g8 (paL D.y).toArray T) (ht : Turned D.g8 V V') : TwS T wx r M true true 2 D V' :=
  ⟨h.later.turn ht (h.b8 rfl).1, fun _ => ⟨(h.sw (Nat.le_refl _)).1.off ht (h.a8 (Nat.le_refl _) rfl).1, (h.sw (Nat.le_refl _)).2.1.off ht (h.a8 (Nat.le_refl _) rfl).2, (h.sw (Nat.le_refl _)).2.2⟩, (fun _ => ⟨(h.b8 rfl).1, _, rfl, hb, fun _ => rfl⟩), (fun _ => by obtain ⟨q1, cs, q2, q3, q4⟩ := h.b9 rfl; exact ⟨q1, cs, q2, q3.other ht (Ne.symm (h.ne rfl rfl)), fun e => by omega⟩), h.ne, (fun _ => h.a8 (Nat.le_refl _)), (fun _ => h.a9 (Nat.le_refl _)), (fun _ => h.m (Nat.le_refl _))⟩
theorem TwS.st9 (h : TwS T wx r M true true 2 D V) (hb : BoxAt V' D.g9 (paL D.z).toArray T) (ht : Turned D.g9 V V') : TwS T wx r M true true 3 D V' :=
  ⟨h.later.turn ht (h.b9 rfl).1, fun _ => ⟨(h.sw (by omega)).1.off ht (h.a9 (by omega) rfl).1, (h.sw (by omega)).2.1.off ht (h.a9 (by omega) rfl).2, (h.sw (by omega)).2.2⟩, (fun _ => by obtain ⟨q1, cs, q2, q3, q4⟩ := h.b8 rfl; exact ⟨q1, cs, q2, q3.other ht (h.ne rfl rfl), fun _ => q4 (Nat.le_refl _)⟩), (fun _ => ⟨(h.b9 rfl).1, _, rfl, hb, fun _ => rfl⟩), h.ne, (fun _ => h.a8 (by omega)), (fun _ => h.a9 (by omega)), (fun _ => h.m (by omega))⟩
theorem TwS.boxes (h : TwS T wx r M true true 3 D V) : BoxAt V D.g8 (paL D.y).toArray T ∧ BoxAt V D.g9 (paL D.z).toArray T := by
  obtain ⟨_, cs, _, h1, h2⟩ := h.b8 rfl
  obtain ⟨_, ds, _, k1, k2⟩ := h.b9 rfl
  rw [h2 (by omega)] at h1
  rw [k2 (by omega)] at k1
  exact ⟨h1, k1⟩
end
section
variable {ops : Array Oper} {Q : Exit → Act → World → Prop} {K : Act → World → Prop} {i : Nat} {dst : Option Tmp} {js : List Nat} {a : Act} {w w0 : World}
theorem OpIs.allocN (h : OpIs ops i (.alloc 30) dst js) (hk : K (a.put dst (.pointer (some ⟨w.heap.size, 0, none⟩))) (w.alloc (.cells zeroNL 30))) : wpOp Tryz.prog ops Q i K a w :=
  h.go fun o h1 h2 => by
    have hr : (execOp a.eval o).run Tryz.prog w = .ok (.value (.pointer (some ⟨w.heap.size, 0, none⟩))) (w.alloc (.cells zeroNL 30)) := by
      unfold execOp
      rw [h1]
      go_simp
      rfl
    unfold Oper.wp
    rw [hr]
    show K _ _
    rw [h2]
    exact hk
theorem OpIs.allocRN (h : OpIs ops i (.alloc 25) dst js) (hk : K (a.put dst (.pointer (some ⟨w.heap.size, 0, none⟩))) (w.alloc (.cells zeroNL 25))) : wpOp Tryz.prog ops Q i K a w :=
  h.go fun o h1 h2 => by
    have hr : (execOp a.eval o).run Tryz.prog w = .ok (.value (.pointer (some ⟨w.heap.size, 0, none⟩))) (w.alloc (.cells zeroNL 25)) := by
      unfold execOp
      rw [h1]
      go_simp
      rfl
    unfold Oper.wp
    rw [hr]
    show K _ _
    rw [h2]
    exact hk
theorem OpIs.indexNC {j : Tmp} {z : Int} {g o n c m : Nat} (h : OpIs ops i (.indexAddr 40 (.tmp j) (.const (.int .i64 z))) dst js) (hz : z = (m : Nat)) (hj : a.eval (.tmp j) = .slice (some ⟨g, o, none⟩) n c) (hm : m < n) (hk : K (a.put dst (.pointer (some ⟨g, o + m * 4, none⟩))) w) : wpOp Tryz.prog ops Q i K a w :=
  h.go fun op h1 h2 => by
    subst hz
    have hr : (execOp a.eval op).run Tryz.prog w = .ok (.value (.pointer (some ⟨g, o + m * 4, none⟩))) w := by
      unfold execOp
      rw [h1]
      dsimp only
      rw [hj]
      go_simp
    unfold Oper.wp
    rw [hr]
    show K _ _
    rw [h2]
    exact hk
theorem OpIs.indexRN {j k : Tmp} {g o n c m : Nat} (h : OpIs ops i (.indexAddr 39 (.tmp j) (.tmp k)) dst js) (hj : a.eval (.tmp j) = .slice (some ⟨g, o, none⟩) n c) (hk' : a.eval (.tmp k) = .int .i64 (m : Nat)) (hm : m < n) (hk : K (a.put dst (.pointer (some ⟨g, o + m * 4, none⟩))) w) : wpOp Tryz.prog ops Q i K a w :=
  h.go fun op h1 h2 => by
    have hr : (execOp a.eval op).run Tryz.prog w = .ok (.value (.pointer (some ⟨g, o + m * 4, none⟩))) w := by
      unfold execOp
      rw [h1]
      dsimp only
      rw [hj, hk']
      go_simp
    unfold Oper.wp
    rw [hr]
    show K _ _
    rw [h2]
    exact hk
theorem OpIs.loadNs {k : Tmp} {g o m n : Nat} {x : PaC} {xs : List PaC} (h : OpIs ops i (.load 30 (.tmp k)) dst js) (he : a.eval (.tmp k) = .pointer (some ⟨g, o + m * 4, none⟩)) (hr : RowK 4 w (some ⟨g, o, none⟩) n (xs.map paL)) (hx : xs[m]? = some x) (hk : K (a.put dst (paV x)) w) : wpOp Tryz.prog ops Q i K a w :=
  h.go fun op h1 h2 => by
    have hm : m < n := by
      have := hr.len
      simp only [List.length_map] at this
      have := (List.getElem?_eq_some_iff.1 hx).1
      omega
    obtain ⟨b', o', q, hA, hz, g0, g1, g2, g3⟩ := hr.getN hm
    cases hA
    rw [hx] at hz
    cases hz
    have hrun : (execOp a.eval op).run Tryz.prog w = .ok (.value (paV x)) w := by
      clear hr hk hx
      unfold paV execOp
      rw [h1]
      dsimp only
      rw [he]
      go_simp
    unfold Oper.wp
    rw [hrun]
    show K _ _
    rw [h2]
    exact hk
theorem OpIs.loadRNs {k : Tmp} {g o m n : Nat} {x : PaC} {xs : List PaC} (h : OpIs ops i (.load 25 (.tmp k)) dst js) (he : a.eval (.tmp k) = .pointer (some ⟨g, o + m * 4, none⟩)) (hr : RowK 4 w (some ⟨g, o, none⟩) n (xs.map paL)) (hx : xs[m]? = some x) (hk : K (a.put dst (paV x)) w) : wpOp Tryz.prog ops Q i K a w :=
  h.go fun op h1 h2 => by
    have hm : m < n := by
      have := hr.len
      simp only [List.length_map] at this
      have := (List.getElem?_eq_some_iff.1 hx).1
      omega
    obtain ⟨b', o', q, hA, hz, g0, g1, g2, g3⟩ := hr.getN hm
    cases hA
    rw [hx] at hz
    cases hz
    have hrun : (execOp a.eval op).run Tryz.prog w = .ok (.value (paV x)) w := by
      clear hr hk hx
      unfold paV execOp
      rw [h1]
      dsimp only
      rw [he]
      go_simp
    unfold Oper.wp
    rw [hrun]
    show K _ _
    rw [h2]
    exact hk
end
theorem Tryz.rpatchSize : (Tryz.prog.info? 25).map (·.size) = some 4 := by kernel_rfl

end Go.Proofs.YtlnjhimbgckdcaaGreat

/-
  Operations of a region that are guarded by one that yields true; functions as values.
-/
namespace Go.Proofs.YtlnjhimbgckdcaaGreat
open Go.RowKit Go.Maps

def OpG (ops : Array Oper) (i : Nat) (op : Op) (dst : Option Tmp) (js : List Nat) (g : Nat) (d : Tmp) : Prop := ∃ o, ops[i]? = some o ∧ o.op = op ∧ o.dst = dst ∧ o.guard = some (g, true) ∧ needs o js = true ∧ (ops[g]?).bind (·.dst) = some d
def unguard (ops : Array Oper) (i : Nat) : Array Oper := ops.modify i fun o => { o with guard := none }
theorem OpG.waits {ops : Array Oper} {i g : Nat} {d : Tmp} {op : Op} {dst : Option Tmp} {js : List Nat} (h : OpG ops i op dst js g d) {o : Oper} (ho : ops[i]? = some o) {l : Nat → Bool} (hl : ∀ e ∈ o.after, Region.binds .any e = true → l e.on = true) : ∀ j ∈ js, l j = true := by
  obtain ⟨o', h1, -, -, -, h5, -⟩ := h
  rw [ho] at h1
  cases h1
  intro j hj
  have := List.all_eq_true.1 h5 j hj
  simp only [Array.any_eq_true, Bool.and_eq_true, decide_eq_true_eq] at this
  obtain ⟨k, hk, e1, e2⟩ := this
  rw [← e1]
  exact hl _ (Array.getElem_mem hk) e2
theorem OpG.un {ops : Array Oper} {i g : Nat} {d : Tmp} {op : Op} {dst : Option Tmp} {js : List Nat} (h : OpG ops i op dst js g d) : OpIs (unguard ops i) i op dst [] := by
  obtain ⟨o, h1, h2, h3, -, -, -⟩ := h
  exact ⟨{ o with guard := none }, by simp [unguard, Array.getElem?_modify, h1], h2, h3, rfl, rfl⟩
theorem OpG.via {P : Program} {ops : Array Oper} {Q : Exit → Act → World → Prop} {K : Act → World → Prop} {i g : Nat} {d : Tmp} {op : Op} {dst : Option Tmp} {js : List Nat} {a : Act} {w : World} (h : OpG ops i op dst js g d) (hv : a.eval (.tmp d) = .bool true) (hd : d < a.tmps.size)
    (hk : wpOp P (unguard ops i) Q i K a w) : wpOp P ops Q i K a w := by
  obtain ⟨o, h1, -, -, h4, -, h6⟩ := h
  unfold wpOp at hk ⊢
  rw [h1]
  have e1 : (unguard ops i)[i]? = some { o with guard := none } := by simp [unguard, Array.getElem?_modify, h1]
  rw [e1] at hk
  have e2 : Region.wanted o (yielded ops a.tmps) = true := by
    have ht : a.tmps[d]? = some (.bool true) := by
      rw [Array.getElem?_eq_getElem hd]
      have := hv
      simp only [Act.eval, Array.getD, hd, dif_pos] at this
      exact congrArg some this
    simp only [Region.wanted, h4, yielded]
    rw [h6]
    simp [ht]
  dsimp only at hk ⊢
  rw [if_pos e2]
  rw [if_pos (by rfl)] at hk
  exact hk

section
variable {ops : Array Oper} {Q : Exit → Act → World → Prop} {K : Act → World → Prop} {i : Nat} {dst : Option Tmp} {js : List Nat} {a : Act} {w w0 : World}
theorem OpIs.pick {j k : Tmp} {v : Value} (h : OpIs ops i (.pick (.tmp j) (.tmp k) (.const (.bool false))) dst js) (hj : a.eval (.tmp j) = .bool true) (hv : a.eval (.tmp k) = v) (hk : K (a.put dst v) w) : wpOp Tryz.prog ops Q i K a w :=
  h.go fun o h1 h2 => by
    have hr : (execOp a.eval o).run Tryz.prog w = .ok (.value v) w := by
      clear hk
      unfold execOp
      rw [h1]
      dsimp only
      rw [hj, hv]
      go_simp
    unfold Oper.wp
    rw [hr]
    show K _ _
    rw [h2]
    exact hk
end

end Go.Proofs.YtlnjhimbgckdcaaGreat
