import Derived.Test.YtlnjhimbgckdcaaGreatPk17
import Derived.Test.YtlnjhimbgckdcaaGreatPk23
import Derived.Test.YtlnjhimbgckdcaaGreatPk28
import Derived.Test.YtlnjhimbgckdcaaGreatPk29
import Derived.Test.YtlnjhimbgckdcaaGreatPk30
import Derived.Test.YtlnjhimbgckdcaaGreatPk31
import Derived.Test.YtlnjhimbgckdcaaGreatPk39

/-
  The statements of the law NamedSwaps that draw their order.
-/
namespace Go.Proofs.YtlnjhimbgckdcaaGreat
open Go.RowKit Go.Maps

section
variable {ops : Array Oper} {Q : Exit → Act → World → Prop} {K : Act → World → Prop} {i : Nat} {dst : Option Tmp} {js : List Nat} {a : Act} {w w0 : World}
theorem OpIs.neqB {j k : Tmp} {b : Bool} (h : OpIs ops i (.binOp .neq 4 (.tmp j) (.tmp k) 4) dst js) (he : a.eval (.tmp j) = .bool b) (he2 : a.eval (.tmp k) = .bool b) (hk : K (a.put dst (.bool false)) w) : wpOp Tryz.prog ops Q i K a w :=
  h.go fun op h1 h2 => by
    have hr : (execOp a.eval op).run Tryz.prog w = .ok (.value (.bool false)) w := by
      clear hk
      unfold execOp
      rw [h1]
      dsimp only
      rw [he, he2]
      cases b <;> go_simp
    unfold Oper.wp
    rw [hr]
    show K _ _
    rw [h2]
    exact hk
theorem OpIs.eqlNo {j k : Tmp} {b c : Bool} (h : OpIs ops i (.binOp .eql 4 (.tmp j) (.tmp k) 4) dst js) (he : a.eval (.tmp j) = .bool b) (he2 : a.eval (.tmp k) = .bool c) (hbc : b = !c) (hk : K (a.put dst (.bool false)) w) : wpOp Tryz.prog ops Q i K a w :=
  h.go fun op h1 h2 => by
    have hr : (execOp a.eval op).run Tryz.prog w = .ok (.value (.bool false)) w := by
      clear hk
      subst hbc
      unfold execOp
      rw [h1]
      dsimp only
      rw [he, he2]
      cases c <;> go_simp
    unfold Oper.wp
    rw [hr]
    show K _ _
    rw [h2]
    exact hk
end
def nmSs3_p1 (x : PaC) (v : Value) (w : World) : Prop := ∃ p : PaC, v = paV p ∧ PaOk w p ∧ p.v = x.v
def nmSs3_p3 (y : PaC) (v : Value) (w : World) : Prop := ∃ p : PaC, v = paV p ∧ PaOk w p ∧ p.v = y.v
def nmSs3_p4 (r : Option (Pa × Pa)) (G : Nat → Prop) (v : Value) (w : World) : Prop := ∃ ua ub : PaC, v = .tuple #[paV ua, paV ub, .bool r.isSome] ∧ PaOk w ua ∧ PaOk w ub ∧ (r = none → ua = zeroN ∧ ub = zeroN) ∧ (∀ c, r = some c → ua.v = c.1 ∧ ub.v = c.2) ∧ ∀ g, G g → AwayN g ua ∧ AwayN g ub
theorem nmSs3_p4_mono (r : Option (Pa × Pa)) {G : Nat → Prop} {v : Value} {w : World} {g : Nat} (h : nmSs3_p4 r G v w) (hg : w.heap.size ≤ g) : nmSs3_p4 r (fun j => G j ∨ j = g) v w := by
  obtain ⟨a, b, e, oa, ob, h1, h2, h3⟩ := h
  exact ⟨a, b, e, oa, ob, h1, h2, fun j hj => by
    rcases hj with hj | rfl
    · exact h3 j hj
    · exact ⟨oa.away hg, ob.away hg⟩⟩
def nmSs3_R (wx : World) (x y : PaC) (r : Option (Pa × Pa)) : (Nat → Prop) → Nat → Value → World → Prop
  | _, 0, v, _ => v = paV x
  | _, 1, v, w => nmSs3_p1 x v w
  | _, 2, v, _ => v = paV y
  | _, 3, v, w => nmSs3_p3 y v w
  | G, 4, v, w => nmSs3_p4 r G v w
  | G, 5, v, w => ∃ w0 t, Later w0 w ∧ nmSs3_p4 r G t w0 ∧ v = t
  | G, 6, v, w => ∃ w0 t, Later w0 w ∧ nmSs3_p4 r G t w0 ∧ ∃ vs : Array Value, t = .tuple vs ∧ vs[0]? = some v
  | G, 7, v, w => ∃ w0 t, Later w0 w ∧ nmSs3_p4 r G t w0 ∧ ∃ vs : Array Value, t = .tuple vs ∧ vs[1]? = some v
  | G, 8, v, w => ∃ w0 t, Later w0 w ∧ nmSs3_p4 r G t w0 ∧ ∃ vs : Array Value, t = .tuple vs ∧ vs[2]? = some v
  | _, 9, v, w => ∃ g, v = .pointer (some ⟨g, 0, none⟩) ∧ wx.heap.size ≤ g ∧ BoxAt w g zeroNL 30
  | _, 10, v, w => ∃ g, v = .pointer (some ⟨g, 0, none⟩) ∧ wx.heap.size ≤ g ∧ BoxAt w g zeroNL 30
  | _, 11, _, _ => True
  | _, 12, _, _ => True
  | G, 13, v, w => ∃ w0 t, Later w0 w ∧ nmSs3_p4 r G t w0 ∧ ∃ vs : Array Value, t = .tuple vs ∧ vs[2]? = some v
  | _, _, _, _ => True
set_option maxRecDepth 100000 in
theorem nmSs3_mono (wx : World) (x y : PaC) (r : Option (Pa × Pa)) (G : Nat → Prop) (k : Nat) (v : Value) (w : World) (g : Nat) (hk : k < 14) (h : nmSs3_R wx x y r G k v w) (hg : w.heap.size ≤ g) : nmSs3_R wx x y r (fun j => G j ∨ j = g) k v w := by
  have hc : k = 0 ∨ k = 1 ∨ k = 2 ∨ k = 3 ∨ k = 4 ∨ k = 5 ∨ k = 6 ∨ k = 7 ∨ k = 8 ∨ k = 9 ∨ k = 10 ∨ k = 11 ∨ k = 12 ∨ k = 13 := by omega
  rcases hc with rfl | rfl | rfl | rfl | rfl | rfl | rfl | rfl | rfl | rfl | rfl | rfl | rfl | rfl
  · exact h
  · exact h
  · exact h
  · exact h
  · exact nmSs3_p4_mono r (G := G) h (hg)
  · exact by obtain ⟨q0, qt, q1, q2, q3⟩ := h; exact ⟨q0, qt, q1, nmSs3_p4_mono r (G := G) q2 (Nat.le_trans q1.le hg), q3⟩
  · exact by obtain ⟨q0, qt, q1, q2, q3⟩ := h; exact ⟨q0, qt, q1, nmSs3_p4_mono r (G := G) q2 (Nat.le_trans q1.le hg), q3⟩
  · exact by obtain ⟨q0, qt, q1, q2, q3⟩ := h; exact ⟨q0, qt, q1, nmSs3_p4_mono r (G := G) q2 (Nat.le_trans q1.le hg), q3⟩
  · exact by obtain ⟨q0, qt, q1, q2, q3⟩ := h; exact ⟨q0, qt, q1, nmSs3_p4_mono r (G := G) q2 (Nat.le_trans q1.le hg), q3⟩
  · exact h
  · exact h
  · exact trivial
  · exact trivial
  · exact by obtain ⟨q0, qt, q1, q2, q3⟩ := h; exact ⟨q0, qt, q1, nmSs3_p4_mono r (G := G) q2 (Nat.le_trans q1.le hg), q3⟩
set_option maxRecDepth 100000 in
set_option maxHeartbeats 1600000 in
theorem nmSs3 {ops : Array Oper} (hn : ops.size = 14) (hg : goesBack ops = true)
    (o0 : OpIs ops 0 (.load 25 (.tmp 2)) (some 21) [])
    (o1 : OpIs ops 1 (.call { callee := .value (.func 10), args := #[.tmp 21], argTypes := #[25] }) (some 22) [0])
    (o2 : OpIs ops 2 (.load 25 (.tmp 3)) (some 23) [])
    (o3 : OpIs ops 3 (.call { callee := .value (.func 10), args := #[.tmp 23], argTypes := #[25] }) (some 24) [1, 2])
    (o4 : OpIs ops 4 (.call { callee := .value (.func 9), args := #[.tmp 22, .tmp 24], argTypes := #[30, 30] }) (some 25) [1, 3])
    (o5 : OpIs ops 5 (.move (.tmp 25)) (some 20) [4])
    (o6 : OpIs ops 6 (.extract (.tmp 20) 0) (some 26) [5])
    (o7 : OpIs ops 7 (.extract (.tmp 20) 1) (some 27) [5])
    (o8 : OpIs ops 8 (.extract (.tmp 20) 2) (some 28) [5])
    (o9 : OpIs ops 9 (.alloc 30) (some 5) [])
    (o10 : OpIs ops 10 (.alloc 30) (some 6) [])
    (o11 : OpIs ops 11 (.store 30 (.tmp 5) (.tmp 26)) none [0, 1, 2, 3, 4, 5, 6, 9, 10])
    (o12 : OpIs ops 12 (.store 30 (.tmp 6) (.tmp 27)) none [0, 1, 2, 3, 4, 5, 6, 7, 9, 10, 11])
    (o13 : OpIs ops 13 (.assign (.tmp 28)) (some 7) [0, 1, 2, 3, 4, 5, 6, 7, 8, 9, 10, 11, 12])
    {a1 : Act} (hs : 88 ≤ a1.tmps.size) {wx : World} {x y : PaC} {r : Option (Pa × Pa)} {g2 g3 : Nat} (e2 : a1.eval (.tmp 2) = .pointer (some ⟨g2, 0, none⟩)) (e3 : a1.eval (.tmp 3) = .pointer (some ⟨g3, 0, none⟩)) (okx : PaOk wx x) (oky : PaOk wx y) (hb2 : BoxAt wx g2 (paL x).toArray 25) (hb3 : BoxAt wx g3 (paL y).toArray 25) (hr : swapN x.v y.v = r)
    {Q : Exit → Act → World → Prop} {id : Nat} (hend : ∀ (G : Nat → Prop) (a : Act) (w1 w : World), SameOut a1 a [21, 22, 23, 24, 25, 20, 26, 27, 28, 5, 6, 7] → Later wx w1 → (∀ g, G g → wx.heap.size ≤ g ∧ g < w1.heap.size) → (∃ (w0 : World) (ua : PaC) (ub : PaC), Later w0 w1 ∧ a.eval (.tmp 7) = .bool r.isSome ∧ PaOk w0 ua ∧ PaOk w0 ub ∧ (r = none → ua = zeroN ∧ ub = zeroN) ∧ (∀ c, r = some c → ua.v = c.1 ∧ ub.v = c.2) ∧ ∀ g, G g → AwayN g ua ∧ AwayN g ub) → (∃ (w0 : World) (ua : PaC) (ub : PaC), Later w0 w1 ∧ a.eval (.tmp 26) = paV ua ∧ PaOk w0 ua ∧ PaOk w0 ub ∧ (r = none → ua = zeroN ∧ ub = zeroN) ∧ (∀ c, r = some c → ua.v = c.1 ∧ ub.v = c.2) ∧ ∀ g, G g → AwayN g ua ∧ AwayN g ub) → (∃ (w0 : World) (ua : PaC) (ub : PaC), Later w0 w1 ∧ a.eval (.tmp 27) = paV ub ∧ PaOk w0 ua ∧ PaOk w0 ub ∧ (r = none → ua = zeroN ∧ ub = zeroN) ∧ (∀ c, r = some c → ua.v = c.1 ∧ ub.v = c.2) ∧ ∀ g, G g → AwayN g ua ∧ AwayN g ub) → ∀ (g g2 : Nat) (wm : World), a.eval (.tmp 5) = .pointer (some ⟨g, 0, none⟩) → a.eval (.tmp 6) = .pointer (some ⟨g2, 0, none⟩) → G g → G g2 → g ≠ g2 → Turned g w1 wm → Turned g2 wm w → BoxAt w g (a.eval (.tmp 26)).cells 30 → BoxAt w g2 (a.eval (.tmp 27)).cells 30 → Q .normal a w) :
    (Code.region id ops true).wp Tryz.prog Q a1 wx := by
  refine region_calls (n := 14) (by kernel_rfl) hg hn [21, 22, 23, 24, 25, 20, 26, 27, 28, 5, 6, 1011, 1012, 7] (by decide +kernel) rfl [21, 22, 23, 24, 25, 20, 26, 27, 28, 5, 6, 7] [⟨9, 11, 6, 30, zeroNL⟩, ⟨10, 12, 7, 30, zeroNL⟩] (fun i => decide (i = 9) || decide (i = 10)) (fun i => decide (i = 11) || decide (i = 12)) (fun i => decide (i = 5) || decide (i = 6) || decide (i = 7) || decide (i = 8) || decide (i = 13)) ?_ ?_ (nmSs3_R wx x y r) (nmSs3_mono wx x y r) ?_ ?_ ?_ ?_ ?_ ?_ ?_ ?_ ?_ ?_ ?_ ?_ ?_ ?_
  · intro i hi hs'
    have hc : i = 0 ∨ i = 1 ∨ i = 2 ∨ i = 3 ∨ i = 4 ∨ i = 5 ∨ i = 6 ∨ i = 7 ∨ i = 8 ∨ i = 9 ∨ i = 10 ∨ i = 11 ∨ i = 12 ∨ i = 13 := by omega
    rcases hc with rfl | rfl | rfl | rfl | rfl | rfl | rfl | rfl | rfl | rfl | rfl | rfl | rfl | rfl
    · decide
    · decide
    · decide
    · decide
    · decide
    · decide
    · decide
    · decide
    · decide
    · decide
    · decide
    · cases hs'
    · cases hs'
    · decide
  · intro i hi hs'
    have hc : i = 0 ∨ i = 1 ∨ i = 2 ∨ i = 3 ∨ i = 4 ∨ i = 5 ∨ i = 6 ∨ i = 7 ∨ i = 8 ∨ i = 9 ∨ i = 10 ∨ i = 11 ∨ i = 12 ∨ i = 13 := by omega
    rcases hc with rfl | rfl | rfl | rfl | rfl | rfl | rfl | rfl | rfl | rfl | rfl | rfl | rfl | rfl
    · show (21 : Nat) < _; omega
    · show (22 : Nat) < _; omega
    · show (23 : Nat) < _; omega
    · show (24 : Nat) < _; omega
    · show (25 : Nat) < _; omega
    · show (20 : Nat) < _; omega
    · show (26 : Nat) < _; omega
    · show (27 : Nat) < _; omega
    · show (28 : Nat) < _; omega
    · show (5 : Nat) < _; omega
    · show (6 : Nat) < _; omega
    · cases hs'
    · cases hs'
    · show (7 : Nat) < _; omega
  · intro i hi
    simp only [Bool.or_eq_true, decide_eq_true_eq] at hi
    rcases hi with rfl | rfl
    · exact ⟨_, List.mem_of_getElem? (i := 0) rfl, rfl⟩
    · exact ⟨_, List.mem_of_getElem? (i := 1) rfl, rfl⟩
  · intro i hi
    simp only [Bool.or_eq_true, decide_eq_true_eq] at hi
    rcases hi with rfl | rfl
    · exact ⟨_, List.mem_of_getElem? (i := 0) rfl, rfl⟩
    · exact ⟨_, List.mem_of_getElem? (i := 1) rfl, rfl⟩
  · intro b hb
    simp only [List.mem_cons, List.not_mem_nil, or_false] at hb
    rcases hb with rfl | rfl
    · decide
    · decide
  · intro l dn b hb h i hi hp hs'
    simp only [List.mem_cons, List.not_mem_nil, or_false] at hb
    rcases hb with rfl | rfl
    · have c0 := o11.back dn h 0 (by simp)
      have c1 := o11.back dn h 1 (by simp)
      have c2 := o11.back dn h 2 (by simp)
      have c3 := o11.back dn h 3 (by simp)
      have c4 := o11.back dn h 4 (by simp)
      have c5 := o11.back dn h 5 (by simp)
      have c6 := o11.back dn h 6 (by simp)
      have c9 := o11.back dn h 9 (by simp)
      have c10 := o11.back dn h 10 (by simp)
      have hc : i = 0 ∨ i = 1 ∨ i = 2 ∨ i = 3 ∨ i = 4 ∨ i = 5 ∨ i = 6 ∨ i = 7 ∨ i = 8 ∨ i = 9 ∨ i = 10 ∨ i = 11 ∨ i = 12 ∨ i = 13 := by omega
      rcases hc with rfl | rfl | rfl | rfl | rfl | rfl | rfl | rfl | rfl | rfl | rfl | rfl | rfl | rfl
      · exact c0
      · exact c1
      · exact c2
      · exact c3
      · exact c4
      · cases hp
      · cases hp
      · cases hp
      · cases hp
      · exact c9
      · exact c10
      · cases hs'
      · cases hs'
      · cases hp
    · have c0 := o12.back dn h 0 (by simp)
      have c1 := o12.back dn h 1 (by simp)
      have c2 := o12.back dn h 2 (by simp)
      have c3 := o12.back dn h 3 (by simp)
      have c4 := o12.back dn h 4 (by simp)
      have c5 := o12.back dn h 5 (by simp)
      have c6 := o12.back dn h 6 (by simp)
      have c7 := o12.back dn h 7 (by simp)
      have c9 := o12.back dn h 9 (by simp)
      have c10 := o12.back dn h 10 (by simp)
      have c11 := o12.back dn h 11 (by simp)
      have hc : i = 0 ∨ i = 1 ∨ i = 2 ∨ i = 3 ∨ i = 4 ∨ i = 5 ∨ i = 6 ∨ i = 7 ∨ i = 8 ∨ i = 9 ∨ i = 10 ∨ i = 11 ∨ i = 12 ∨ i = 13 := by omega
      rcases hc with rfl | rfl | rfl | rfl | rfl | rfl | rfl | rfl | rfl | rfl | rfl | rfl | rfl | rfl
      · exact c0
      · exact c1
      · exact c2
      · exact c3
      · exact c4
      · cases hp
      · cases hp
      · cases hp
      · cases hp
      · exact c9
      · exact c10
      · cases hs'
      · cases hs'
      · cases hp
  · intro l dn b hb h
    simp only [List.mem_cons, List.not_mem_nil, or_false] at hb
    rcases hb with rfl | rfl
    · exact ⟨o11.back dn h 9 (by simp), o11.back dn h 6 (by simp)⟩
    · exact ⟨o12.back dn h 10 (by simp), o12.back dn h 7 (by simp)⟩
  · intro l dn t b b' h1 h2 h
    match t, h1, h2 with
    | 0, h1, h2 => cases h1; cases h2; exact o12.back dn h 11 (by simp)
    | t + 1, h1, h2 => simp at h2
  · intro t t' b b' h1 h2 h
    match t, t', h1, h2 with
    | 0, 0, _, _ => rfl
    | 1, 1, _, _ => rfl
    | 0, 1, h1, h2 => cases h1; cases h2; simp at h
    | 1, 0, h1, h2 => cases h1; cases h2; simp at h
    | t + 2, _, h1, _ => simp at h1
    | 0, t' + 2, _, h2 => simp at h2
    | 1, t' + 2, _, h2 => simp at h2
  · intro b hb a w K hk
    simp only [List.mem_cons, List.not_mem_nil, or_false] at hb
    rcases hb with rfl | rfl
    · exact o9.allocN hk
    · exact o10.allocN hk
  · intro b hb a w w0 G g v K e1 e2 hr hbx hk
    simp only [List.mem_cons, List.not_mem_nil, or_false] at hb
    rcases hb with rfl | rfl
    · obtain ⟨q0, qt, q1, q2, us, q3, q4⟩ := hr
      obtain ⟨ua, ub, e, hf⟩ := q2
      rw [e] at q3
      cases q3
      have q5 := (Option.some.inj q4).symm
      subst q5
      exact o11.storeA Tryz.patchSize e1 e2 hbx rfl (fun w' h1 h2 => hk w' h1 h2)
    · obtain ⟨q0, qt, q1, q2, us, q3, q4⟩ := hr
      obtain ⟨ua, ub, e, hf⟩ := q2
      rw [e] at q3
      cases q3
      have q5 := (Option.some.inj q4).symm
      subst q5
      exact o12.storeA Tryz.patchSize e1 e2 hbx rfl (fun w' h1 h2 => hk w' h1 h2)
  · intro G l a w i o K ho hi hp hA' hS' hwait so hl0 hG F hK
    have hc : i = 0 ∨ i = 1 ∨ i = 2 ∨ i = 3 ∨ i = 4 ∨ i = 5 ∨ i = 6 ∨ i = 7 ∨ i = 8 ∨ i = 9 ∨ i = 10 ∨ i = 11 ∨ i = 12 ∨ i = 13 := by omega
    rcases hc with rfl | rfl | rfl | rfl | rfl | rfl | rfl | rfl | rfl | rfl | rfl | rfl | rfl | rfl
    · refine o0.loadA Tryz.underlying25 Tryz.rpatchSize ((show _ = a1.eval _ from by simp only [Act.eval, Array.getD_eq_getD_getElem?, so.out 2 (by decide)]).trans e2) (hb2.later hl0) ?_
      exact hK _ _ (Later.refl w) rfl
    · have ws := o1.waits ho hwait
      have f0 : a.eval (.tmp 21) = paV x := by obtain ⟨_, _, _, h⟩ := F 0 (ws 0 (by simp)) (by decide); exact h
      refine o1.call1 (enters_of Tryz.func10 (by kernel_rfl) rfl) f0 (new7_any x w (okx.later hl0)) ?_
      rintro e w' ⟨p, rfl, ev', ok', -, hl'⟩
      exact ⟨_, rfl, hK _ _ hl' ⟨p, rfl, ok', ev'⟩⟩
    · refine o2.loadA Tryz.underlying25 Tryz.rpatchSize ((show _ = a1.eval _ from by simp only [Act.eval, Array.getD_eq_getD_getElem?, so.out 3 (by decide)]).trans e3) (hb3.later hl0) ?_
      exact hK _ _ (Later.refl w) rfl
    · have ws := o3.waits ho hwait
      have f2 : a.eval (.tmp 23) = paV y := by obtain ⟨_, _, _, h⟩ := F 2 (ws 2 (by simp)) (by decide); exact h
      refine o3.call1 (enters_of Tryz.func10 (by kernel_rfl) rfl) f2 (new7_any y w (oky.later hl0)) ?_
      rintro e w' ⟨p, rfl, ev', ok', -, hl'⟩
      exact ⟨_, rfl, hK _ _ hl' ⟨p, rfl, ok', ev'⟩⟩
    · have ws := o4.waits ho hwait
      obtain ⟨x1, y1, z1, f1⟩ := F 1 (ws 1 (by simp)) (by decide)
      obtain ⟨x3, y3, z3, f3⟩ := F 3 (ws 3 (by simp)) (by decide)
      obtain ⟨p, fe, ok1, ev1⟩ := f1
      obtain ⟨q, ge, ok2, ev2⟩ := f3
      refine o4.call2 (enters_of Tryz.func9 (by kernel_rfl) rfl) fe ge (swap7_any p q w (ok1.later z1) (ok2.later z3)) ?_
      rw [ev1, ev2, hr]
      rintro e w' ⟨a', b', rfl, oa, ob, fa, fb, hl', hno, hv'⟩
      exact ⟨_, rfl, hK _ _ hl' ⟨a', b', rfl, oa, ob, hno, hv', fun g hg => ⟨fa.away (hG g hg).2, fb.away (hG g hg).2⟩⟩⟩
    · cases hp
    · cases hp
    · cases hp
    · cases hp
    · cases hA'
    · cases hA'
    · cases hS'
    · cases hS'
    · cases hp
  · intro G l a w w1 i o K ho hi hp hwait so hl0 F hK
    have hc : i = 0 ∨ i = 1 ∨ i = 2 ∨ i = 3 ∨ i = 4 ∨ i = 5 ∨ i = 6 ∨ i = 7 ∨ i = 8 ∨ i = 9 ∨ i = 10 ∨ i = 11 ∨ i = 12 ∨ i = 13 := by omega
    rcases hc with rfl | rfl | rfl | rfl | rfl | rfl | rfl | rfl | rfl | rfl | rfl | rfl | rfl | rfl
    · cases hp
    · cases hp
    · cases hp
    · cases hp
    · cases hp
    · have ws := o5.waits ho hwait
      obtain ⟨x, y_, z, f⟩ := F 4 (ws 4 (by simp)) (by decide)
      refine o5.move ?_
      exact hK _ ⟨x, _, z, f, rfl⟩
    · have ws := o6.waits ho hwait
      obtain ⟨x, y_, z, f⟩ := F 5 (ws 5 (by simp)) (by decide)
      obtain ⟨q0, qt, q1, q2, q3⟩ := f
      have q2k := q2
      obtain ⟨ua, ub, e, hf⟩ := q2k
      refine o6.extract (q3.trans e) rfl (hK _ ⟨q0, qt, q1.trans z, q2, _, e, rfl⟩)
    · have ws := o7.waits ho hwait
      obtain ⟨x, y_, z, f⟩ := F 5 (ws 5 (by simp)) (by decide)
      obtain ⟨q0, qt, q1, q2, q3⟩ := f
      have q2k := q2
      obtain ⟨ua, ub, e, hf⟩ := q2k
      refine o7.extract (q3.trans e) rfl (hK _ ⟨q0, qt, q1.trans z, q2, _, e, rfl⟩)
    · have ws := o8.waits ho hwait
      obtain ⟨x, y_, z, f⟩ := F 5 (ws 5 (by simp)) (by decide)
      obtain ⟨q0, qt, q1, q2, q3⟩ := f
      have q2k := q2
      obtain ⟨ua, ub, e, hf⟩ := q2k
      refine o8.extract (q3.trans e) rfl (hK _ ⟨q0, qt, q1.trans z, q2, _, e, rfl⟩)
    · cases hp
    · cases hp
    · cases hp
    · cases hp
    · have ws := o13.waits ho hwait
      obtain ⟨x, y_, z, f⟩ := F 8 (ws 8 (by simp)) (by decide)
      refine o13.assign ?_
      obtain ⟨q0, qt, q1, q2, q3⟩ := f
      exact hK _ ⟨q0, qt, q1.trans z, q2, q3⟩
  · intro b hb G v w
    simp only [List.mem_cons, List.not_mem_nil, or_false] at hb
    rcases hb with rfl | rfl
    · exact Iff.rfl
    · exact Iff.rfl
  · intro i hi G v w
    simp only [Bool.or_eq_true, decide_eq_true_eq] at hi
    rcases hi with rfl | rfl
    · trivial
    · trivial
  · intro G a w1 w rs so hl F hGr hG hne hrec hwr
    obtain ⟨g, g2, wm, h1, h2, ⟨r, hr, rfl⟩, ⟨r2, hr2, rfl⟩, h3, h4, h5, h6, h7⟩ := wrote2 hrec hne hwr
    exact hend G a w1 w so hl hG (by obtain ⟨x, _, z, q0, qt, q1, q2, us, q3, q4⟩ := F 13 rfl (by decide); obtain ⟨ua, ub, e, hf⟩ := q2; rw [e] at q3; cases q3; exact ⟨q0, ua, ub, q1.trans z, (Option.some.inj q4).symm, hf⟩) (by obtain ⟨x, _, z, q0, qt, q1, q2, us, q3, q4⟩ := F 6 rfl (by decide); obtain ⟨ua, ub, e, hf⟩ := q2; rw [e] at q3; cases q3; exact ⟨q0, ua, ub, q1.trans z, (Option.some.inj q4).symm, hf⟩) (by obtain ⟨x, _, z, q0, qt, q1, q2, us, q3, q4⟩ := F 7 rfl (by decide); obtain ⟨ua, ub, e, hf⟩ := q2; rw [e] at q3; cases q3; exact ⟨q0, ua, ub, q1.trans z, (Option.some.inj q4).symm, hf⟩) r.1 r2.1 wm h1 h2 (hGr r hr) (hGr r2 hr2) h3 h4 h5 h6 h7
def nmSs5_R (x y ua ub uc ud : PaC) (r : Option (Pa × Pa)) : Nat → Value → World → Prop
  | 0, v, _ => v = .bool r.isSome
  | 1, v, _ => v = .bool r.isSome
  | 2, v, _ => v = .bool false
  | 3, v, _ => v = .bool false
  | 4, v, _ => v = paV ua
  | 5, v, w => ∃ p : PaC, v = paV p ∧ PaOk w p ∧ p.v = ua.v
  | 6, v, _ => v = paV uc
  | 7, v, _ => v = .bool true
  | 8, v, _ => v = .bool false
  | 9, v, _ => v = .bool false
  | 10, v, _ => v = .bool false
  | 11, v, _ => v = paV ub
  | 12, v, w => ∃ p : PaC, v = paV p ∧ PaOk w p ∧ p.v = ub.v
  | 13, v, _ => v = paV ud
  | 14, v, _ => v = .bool true
  | 15, v, _ => v = .bool false
  | 16, v, _ => v = .bool false
  | 17, v, _ => v = .bool false
  | 18, v, _ => v = paV x
  | 19, v, w => ∃ p : PaC, v = paV p ∧ PaOk w p ∧ p.v = x.v
  | 20, v, _ => v = paV y
  | 21, v, w => ∃ p : PaC, v = paV p ∧ PaOk w p ∧ p.v = y.v
  | 22, v, _ => v = .bool r.isNone
  | 23, v, _ => v = .bool r.isSome
  | 24, v, _ => v = .bool false
  | 25, v, _ => v = .bool false
  | _, _, _ => True
set_option maxRecDepth 100000 in
set_option maxHeartbeats 1600000 in
theorem nmSs5 {ops : Array Oper} (hn : ops.size = 26) (hg : goesBack ops = true)
    (o0 : OpIs ops 0 (.move (.tmp 7)) (some 36) [])
    (o1 : OpIs ops 1 (.move (.tmp 10)) (some 37) [])
    (o2 : OpIs ops 2 (.binOp .neq 4 (.tmp 36) (.tmp 37) 4) (some 38) [0, 1])
    (o3 : OpIs ops 3 (.move (.tmp 38)) (some 39) [2])
    (o4 : OpN ops 4 (.load 30 (.tmp 5)) (some 40) [3] 3 39)
    (o5 : OpN ops 5 (.call { callee := .value (.func 13), args := #[.tmp 40], argTypes := #[30] }) (some 41) [3, 4] 3 39)
    (o6 : OpN ops 6 (.load 25 (.tmp 8)) (some 42) [3] 3 39)
    (o7 : OpN ops 7 (.call { callee := .value (.func 12), args := #[.tmp 41, .tmp 42], argTypes := #[25, 25] }) (some 43) [3, 5, 6] 3 39)
    (o8 : OpN ops 8 (.unOp .not 4 (.tmp 43)) (some 44) [3, 7] 3 39)
    (o9 : OpIs ops 9 (.pick (.tmp 39) (.const (.bool true)) (.tmp 44)) (some 45) [3, 8])
    (o10 : OpIs ops 10 (.move (.tmp 45)) (some 46) [9])
    (o11 : OpN ops 11 (.load 30 (.tmp 6)) (some 47) [10] 10 46)
    (o12 : OpN ops 12 (.call { callee := .value (.func 13), args := #[.tmp 47], argTypes := #[30] }) (some 48) [10, 11] 10 46)
    (o13 : OpN ops 13 (.load 25 (.tmp 9)) (some 49) [10] 10 46)
    (o14 : OpN ops 14 (.call { callee := .value (.func 12), args := #[.tmp 48, .tmp 49], argTypes := #[25, 25] }) (some 50) [10, 12, 13] 10 46)
    (o15 : OpN ops 15 (.unOp .not 4 (.tmp 50)) (some 51) [10, 14] 10 46)
    (o16 : OpIs ops 16 (.pick (.tmp 46) (.const (.bool true)) (.tmp 51)) (some 52) [10, 15])
    (o17 : OpIs ops 17 (.move (.tmp 52)) (some 53) [16])
    (o18 : OpN ops 18 (.load 25 (.tmp 2)) (some 54) [17] 17 53)
    (o19 : OpN ops 19 (.call { callee := .value (.func 10), args := #[.tmp 54], argTypes := #[25] }) (some 55) [17, 18] 17 53)
    (o20 : OpN ops 20 (.load 25 (.tmp 3)) (some 56) [17] 17 53)
    (o21 : OpN ops 21 (.call { callee := .value (.func 10), args := #[.tmp 56], argTypes := #[25] }) (some 57) [17, 20] 17 53)
    (o22 : OpN ops 22 (.call { callee := .value (.func 14), args := #[.tmp 55, .tmp 57], argTypes := #[30, 30] }) (some 58) [17, 19, 21] 17 53)
    (o23 : OpN ops 23 (.move (.tmp 7)) (some 59) [17] 17 53)
    (o24 : OpN ops 24 (.binOp .eql 4 (.tmp 58) (.tmp 59) 4) (some 60) [17, 22, 23] 17 53)
    (o25 : OpIs ops 25 (.pick (.tmp 53) (.const (.bool true)) (.tmp 60)) (some 61) [17, 24])
    {a1 : Act} (hs : 88 ≤ a1.tmps.size) {wx : World} {x y ua ub uc ud : PaC} {r : Option (Pa × Pa)} {g2 g3 g5 g6 g8 g9 : Nat} (e2 : a1.eval (.tmp 2) = .pointer (some ⟨g2, 0, none⟩)) (e3 : a1.eval (.tmp 3) = .pointer (some ⟨g3, 0, none⟩)) (okx : PaOk wx x) (oky : PaOk wx y) (hb2 : BoxAt wx g2 (paL x).toArray 25) (hb3 : BoxAt wx g3 (paL y).toArray 25) (e5 : a1.eval (.tmp 5) = .pointer (some ⟨g5, 0, none⟩)) (e6 : a1.eval (.tmp 6) = .pointer (some ⟨g6, 0, none⟩)) (e7 : a1.eval (.tmp 7) = .bool r.isSome) (e8 : a1.eval (.tmp 8) = .pointer (some ⟨g8, 0, none⟩)) (e9 : a1.eval (.tmp 9) = .pointer (some ⟨g9, 0, none⟩)) (e10 : a1.eval (.tmp 10) = .bool r.isSome) (okua : PaOk wx ua) (okub : PaOk wx ub) (okuc : PaOk wx uc) (okud : PaOk wx ud) (hb5 : BoxAt wx g5 (paL ua).toArray 30) (hb6 : BoxAt wx g6 (paL ub).toArray 30) (hb8 : BoxAt wx g8 (paL uc).toArray 25) (hb9 : BoxAt wx g9 (paL ud).toArray 25) (hac : ua.v = uc.v) (hbd : ub.v = ud.v) (hr : swapN x.v y.v = r)
    {Q : Exit → Act → World → Prop} {id : Nat} (hend : ∀ (a : Act) (w : World), SameOut a1 a [36, 37, 38, 39, 40, 41, 42, 43, 44, 45, 46, 47, 48, 49, 50, 51, 52, 53, 54, 55, 56, 57, 58, 59, 60, 61] → Later wx w → a.eval (.tmp 61) = .bool false → Q .normal a w) :
    (Code.region id ops true).wp Tryz.prog Q a1 wx := by
  refine region_reads (n := 26) (by kernel_rfl) hg hn [36, 37, 38, 39, 40, 41, 42, 43, 44, 45, 46, 47, 48, 49, 50, 51, 52, 53, 54, 55, 56, 57, 58, 59, 60, 61] (by decide +kernel) rfl (fun d hd => ?_) (nmSs5_R x y ua ub uc ud r) ?_ ?_
  · have : d < 88 := by
      have h : ∀ d ∈ ([36, 37, 38, 39, 40, 41, 42, 43, 44, 45, 46, 47, 48, 49, 50, 51, 52, 53, 54, 55, 56, 57, 58, 59, 60, 61] : List Nat), d < 88 := by decide +kernel
      exact h d hd
    omega
  · intro l a w i o K ho hi hwait so hl0 F hK
    have hc : i = 0 ∨ i = 1 ∨ i = 2 ∨ i = 3 ∨ i = 4 ∨ i = 5 ∨ i = 6 ∨ i = 7 ∨ i = 8 ∨ i = 9 ∨ i = 10 ∨ i = 11 ∨ i = 12 ∨ i = 13 ∨ i = 14 ∨ i = 15 ∨ i = 16 ∨ i = 17 ∨ i = 18 ∨ i = 19 ∨ i = 20 ∨ i = 21 ∨ i = 22 ∨ i = 23 ∨ i = 24 ∨ i = 25 := by omega
    rcases hc with rfl | rfl | rfl | rfl | rfl | rfl | rfl | rfl | rfl | rfl | rfl | rfl | rfl | rfl | rfl | rfl | rfl | rfl | rfl | rfl | rfl | rfl | rfl | rfl | rfl | rfl
    · refine o0.move ?_
      rw [show a.eval (.tmp 7) = .bool r.isSome from ((show _ = a1.eval _ from by simp only [Act.eval, Array.getD_eq_getD_getElem?, so.out 7 (by decide)]).trans e7)]
      exact hK _ _ (Later.refl w) rfl
    · refine o1.move ?_
      rw [show a.eval (.tmp 10) = .bool r.isSome from ((show _ = a1.eval _ from by simp only [Act.eval, Array.getD_eq_getD_getElem?, so.out 10 (by decide)]).trans e10)]
      exact hK _ _ (Later.refl w) rfl
    · have ws := o2.waits ho hwait
      have f0 : a.eval (.tmp 36) = .bool r.isSome := by obtain ⟨_, _, _, h⟩ := F 0 (ws 0 (by simp)) (by decide); exact h
      have f1 : a.eval (.tmp 37) = .bool r.isSome := by obtain ⟨_, _, _, h⟩ := F 1 (ws 1 (by simp)) (by decide); exact h
      refine o2.neqB f0 f1 ?_
      exact hK _ _ (Later.refl w) rfl
    · have ws := o3.waits ho hwait
      have f2 : a.eval (.tmp 38) = .bool false := by obtain ⟨_, _, _, h⟩ := F 2 (ws 2 (by simp)) (by decide); exact h
      refine o3.move ?_
      rw [show a.eval (.tmp 38) = .bool false from f2]
      exact hK _ _ (Later.refl w) rfl
    · have ws := o4.waits ho hwait
      have f3 : a.eval (.tmp 39) = .bool false := by obtain ⟨_, _, _, h⟩ := F 3 (ws 3 (by simp)) (by decide); exact h
      refine o4.via f3 (by rw [so.size]; show (39 : Nat) < _; omega) ?_
      refine o4.un.loadA Tryz.underlying30 Tryz.patchSize ((show _ = a1.eval _ from by simp only [Act.eval, Array.getD_eq_getD_getElem?, so.out 5 (by decide)]).trans e5) (hb5.later hl0) ?_
      exact hK _ _ (Later.refl w) rfl
    · have ws := o5.waits ho hwait
      have f3 : a.eval (.tmp 39) = .bool false := by obtain ⟨_, _, _, h⟩ := F 3 (ws 3 (by simp)) (by decide); exact h
      have f4 : a.eval (.tmp 40) = paV ua := by obtain ⟨_, _, _, h⟩ := F 4 (ws 4 (by simp)) (by decide); exact h
      refine o5.via f3 (by rw [so.size]; show (39 : Nat) < _; omega) ?_
      refine o5.un.call1 (enters_of Tryz.func13 (by kernel_rfl) rfl) f4 (old7_any ua w (okua.later hl0)) ?_
      rintro e w' ⟨p, rfl, ev', ok', -, hl'⟩
      exact ⟨_, rfl, hK _ _ hl' ⟨p, rfl, ok', ev'⟩⟩
    · have ws := o6.waits ho hwait
      have f3 : a.eval (.tmp 39) = .bool false := by obtain ⟨_, _, _, h⟩ := F 3 (ws 3 (by simp)) (by decide); exact h
      refine o6.via f3 (by rw [so.size]; show (39 : Nat) < _; omega) ?_
      refine o6.un.loadA Tryz.underlying25 Tryz.rpatchSize ((show _ = a1.eval _ from by simp only [Act.eval, Array.getD_eq_getD_getElem?, so.out 8 (by decide)]).trans e8) (hb8.later hl0) ?_
      exact hK _ _ (Later.refl w) rfl
    · have ws := o7.waits ho hwait
      have f3 : a.eval (.tmp 39) = .bool false := by obtain ⟨_, _, _, h⟩ := F 3 (ws 3 (by simp)) (by decide); exact h
      obtain ⟨x5, y5, z5, f5⟩ := F 5 (ws 5 (by simp)) (by decide)
      have f6 : a.eval (.tmp 42) = paV uc := by obtain ⟨_, _, _, h⟩ := F 6 (ws 6 (by simp)) (by decide); exact h
      refine o7.via f3 (by rw [so.size]; show (39 : Nat) < _; omega) ?_
      obtain ⟨p, fe, ok1, ev1⟩ := f5
      refine o7.un.call2 (enters_of Tryz.func12 (by kernel_rfl) rfl) fe f6 (refSame7_any p uc w (ok1.later z5) (okuc.later hl0)) ?_
      rintro e w' ⟨rfl, hl'⟩
      exact ⟨_, rfl, hK _ _ hl' (by show Value.bool _ = _; rw [ev1, hac, sameN_iff.2 rfl])⟩
    · have ws := o8.waits ho hwait
      have f3 : a.eval (.tmp 39) = .bool false := by obtain ⟨_, _, _, h⟩ := F 3 (ws 3 (by simp)) (by decide); exact h
      have f7 : a.eval (.tmp 43) = .bool true := by obtain ⟨_, _, _, h⟩ := F 7 (ws 7 (by simp)) (by decide); exact h
      refine o8.via f3 (by rw [so.size]; show (39 : Nat) < _; omega) ?_
      refine o8.un.notB f7 ?_
      exact hK _ _ (Later.refl w) rfl
    · have ws := o9.waits ho hwait
      have f3 : a.eval (.tmp 39) = .bool false := by obtain ⟨_, _, _, h⟩ := F 3 (ws 3 (by simp)) (by decide); exact h
      have f8 : a.eval (.tmp 44) = .bool false := by obtain ⟨_, _, _, h⟩ := F 8 (ws 8 (by simp)) (by decide); exact h
      refine o9.pickF f3 f8 ?_
      exact hK _ _ (Later.refl w) rfl
    · have ws := o10.waits ho hwait
      have f9 : a.eval (.tmp 45) = .bool false := by obtain ⟨_, _, _, h⟩ := F 9 (ws 9 (by simp)) (by decide); exact h
      refine o10.move ?_
      rw [show a.eval (.tmp 45) = .bool false from f9]
      exact hK _ _ (Later.refl w) rfl
    · have ws := o11.waits ho hwait
      have f10 : a.eval (.tmp 46) = .bool false := by obtain ⟨_, _, _, h⟩ := F 10 (ws 10 (by simp)) (by decide); exact h
      refine o11.via f10 (by rw [so.size]; show (46 : Nat) < _; omega) ?_
      refine o11.un.loadA Tryz.underlying30 Tryz.patchSize ((show _ = a1.eval _ from by simp only [Act.eval, Array.getD_eq_getD_getElem?, so.out 6 (by decide)]).trans e6) (hb6.later hl0) ?_
      exact hK _ _ (Later.refl w) rfl
    · have ws := o12.waits ho hwait
      have f10 : a.eval (.tmp 46) = .bool false := by obtain ⟨_, _, _, h⟩ := F 10 (ws 10 (by simp)) (by decide); exact h
      have f11 : a.eval (.tmp 47) = paV ub := by obtain ⟨_, _, _, h⟩ := F 11 (ws 11 (by simp)) (by decide); exact h
      refine o12.via f10 (by rw [so.size]; show (46 : Nat) < _; omega) ?_
      refine o12.un.call1 (enters_of Tryz.func13 (by kernel_rfl) rfl) f11 (old7_any ub w (okub.later hl0)) ?_
      rintro e w' ⟨p, rfl, ev', ok', -, hl'⟩
      exact ⟨_, rfl, hK _ _ hl' ⟨p, rfl, ok', ev'⟩⟩
    · have ws := o13.waits ho hwait
      have f10 : a.eval (.tmp 46) = .bool false := by obtain ⟨_, _, _, h⟩ := F 10 (ws 10 (by simp)) (by decide); exact h
      refine o13.via f10 (by rw [so.size]; show (46 : Nat) < _; omega) ?_
      refine o13.un.loadA Tryz.underlying25 Tryz.rpatchSize ((show _ = a1.eval _ from by simp only [Act.eval, Array.getD_eq_getD_getElem?, so.out 9 (by decide)]).trans e9) (hb9.later hl0) ?_
      exact hK _ _ (Later.refl w) rfl
    · have ws := o14.waits ho hwait
      have f10 : a.eval (.tmp 46) = .bool false := by obtain ⟨_, _, _, h⟩ := F 10 (ws 10 (by simp)) (by decide); exact h
      obtain ⟨x12, y12, z12, f12⟩ := F 12 (ws 12 (by simp)) (by decide)
      have f13 : a.eval (.tmp 49) = paV ud := by obtain ⟨_, _, _, h⟩ := F 13 (ws 13 (by simp)) (by decide); exact h
      refine o14.via f10 (by rw [so.size]; show (46 : Nat) < _; omega) ?_
      obtain ⟨p, fe, ok1, ev1⟩ := f12
      refine o14.un.call2 (enters_of Tryz.func12 (by kernel_rfl) rfl) fe f13 (refSame7_any p ud w (ok1.later z12) (okud.later hl0)) ?_
      rintro e w' ⟨rfl, hl'⟩
      exact ⟨_, rfl, hK _ _ hl' (by show Value.bool _ = _; rw [ev1, hbd, sameN_iff.2 rfl])⟩
    · have ws := o15.waits ho hwait
      have f10 : a.eval (.tmp 46) = .bool false := by obtain ⟨_, _, _, h⟩ := F 10 (ws 10 (by simp)) (by decide); exact h
      have f14 : a.eval (.tmp 50) = .bool true := by obtain ⟨_, _, _, h⟩ := F 14 (ws 14 (by simp)) (by decide); exact h
      refine o15.via f10 (by rw [so.size]; show (46 : Nat) < _; omega) ?_
      refine o15.un.notB f14 ?_
      exact hK _ _ (Later.refl w) rfl
    · have ws := o16.waits ho hwait
      have f10 : a.eval (.tmp 46) = .bool false := by obtain ⟨_, _, _, h⟩ := F 10 (ws 10 (by simp)) (by decide); exact h
      have f15 : a.eval (.tmp 51) = .bool false := by obtain ⟨_, _, _, h⟩ := F 15 (ws 15 (by simp)) (by decide); exact h
      refine o16.pickF f10 f15 ?_
      exact hK _ _ (Later.refl w) rfl
    · have ws := o17.waits ho hwait
      have f16 : a.eval (.tmp 52) = .bool false := by obtain ⟨_, _, _, h⟩ := F 16 (ws 16 (by simp)) (by decide); exact h
      refine o17.move ?_
      rw [show a.eval (.tmp 52) = .bool false from f16]
      exact hK _ _ (Later.refl w) rfl
    · have ws := o18.waits ho hwait
      have f17 : a.eval (.tmp 53) = .bool false := by obtain ⟨_, _, _, h⟩ := F 17 (ws 17 (by simp)) (by decide); exact h
      refine o18.via f17 (by rw [so.size]; show (53 : Nat) < _; omega) ?_
      refine o18.un.loadA Tryz.underlying25 Tryz.rpatchSize ((show _ = a1.eval _ from by simp only [Act.eval, Array.getD_eq_getD_getElem?, so.out 2 (by decide)]).trans e2) (hb2.later hl0) ?_
      exact hK _ _ (Later.refl w) rfl
    · have ws := o19.waits ho hwait
      have f17 : a.eval (.tmp 53) = .bool false := by obtain ⟨_, _, _, h⟩ := F 17 (ws 17 (by simp)) (by decide); exact h
      have f18 : a.eval (.tmp 54) = paV x := by obtain ⟨_, _, _, h⟩ := F 18 (ws 18 (by simp)) (by decide); exact h
      refine o19.via f17 (by rw [so.size]; show (53 : Nat) < _; omega) ?_
      refine o19.un.call1 (enters_of Tryz.func10 (by kernel_rfl) rfl) f18 (new7_any x w (okx.later hl0)) ?_
      rintro e w' ⟨p, rfl, ev', ok', -, hl'⟩
      exact ⟨_, rfl, hK _ _ hl' ⟨p, rfl, ok', ev'⟩⟩
    · have ws := o20.waits ho hwait
      have f17 : a.eval (.tmp 53) = .bool false := by obtain ⟨_, _, _, h⟩ := F 17 (ws 17 (by simp)) (by decide); exact h
      refine o20.via f17 (by rw [so.size]; show (53 : Nat) < _; omega) ?_
      refine o20.un.loadA Tryz.underlying25 Tryz.rpatchSize ((show _ = a1.eval _ from by simp only [Act.eval, Array.getD_eq_getD_getElem?, so.out 3 (by decide)]).trans e3) (hb3.later hl0) ?_
      exact hK _ _ (Later.refl w) rfl
    · have ws := o21.waits ho hwait
      have f17 : a.eval (.tmp 53) = .bool false := by obtain ⟨_, _, _, h⟩ := F 17 (ws 17 (by simp)) (by decide); exact h
      have f20 : a.eval (.tmp 56) = paV y := by obtain ⟨_, _, _, h⟩ := F 20 (ws 20 (by simp)) (by decide); exact h
      refine o21.via f17 (by rw [so.size]; show (53 : Nat) < _; omega) ?_
      refine o21.un.call1 (enters_of Tryz.func10 (by kernel_rfl) rfl) f20 (new7_any y w (oky.later hl0)) ?_
      rintro e w' ⟨p, rfl, ev', ok', -, hl'⟩
      exact ⟨_, rfl, hK _ _ hl' ⟨p, rfl, ok', ev'⟩⟩
    · have ws := o22.waits ho hwait
      have f17 : a.eval (.tmp 53) = .bool false := by obtain ⟨_, _, _, h⟩ := F 17 (ws 17 (by simp)) (by decide); exact h
      obtain ⟨x19, y19, z19, f19⟩ := F 19 (ws 19 (by simp)) (by decide)
      obtain ⟨x21, y21, z21, f21⟩ := F 21 (ws 21 (by simp)) (by decide)
      refine o22.via f17 (by rw [so.size]; show (53 : Nat) < _; omega) ?_
      obtain ⟨p, fe, ok1, ev1⟩ := f19
      obtain ⟨q, ge, ok2, ev2⟩ := f21
      refine o22.un.call2 (enters_of Tryz.func14 (by kernel_rfl) rfl) fe ge (needs7_any p q w (ok1.later z19) (ok2.later z21)) ?_
      rintro e w' ⟨rfl, hl'⟩
      exact ⟨_, rfl, hK _ _ hl' (by show Value.bool _ = _; rw [ev1, ev2, hr])⟩
    · have ws := o23.waits ho hwait
      have f17 : a.eval (.tmp 53) = .bool false := by obtain ⟨_, _, _, h⟩ := F 17 (ws 17 (by simp)) (by decide); exact h
      refine o23.via f17 (by rw [so.size]; show (53 : Nat) < _; omega) ?_
      refine o23.un.move ?_
      rw [show a.eval (.tmp 7) = .bool r.isSome from ((show _ = a1.eval _ from by simp only [Act.eval, Array.getD_eq_getD_getElem?, so.out 7 (by decide)]).trans e7)]
      exact hK _ _ (Later.refl w) rfl
    · have ws := o24.waits ho hwait
      have f17 : a.eval (.tmp 53) = .bool false := by obtain ⟨_, _, _, h⟩ := F 17 (ws 17 (by simp)) (by decide); exact h
      have f22 : a.eval (.tmp 58) = .bool r.isNone := by obtain ⟨_, _, _, h⟩ := F 22 (ws 22 (by simp)) (by decide); exact h
      have f23 : a.eval (.tmp 59) = .bool r.isSome := by obtain ⟨_, _, _, h⟩ := F 23 (ws 23 (by simp)) (by decide); exact h
      refine o24.via f17 (by rw [so.size]; show (53 : Nat) < _; omega) ?_
      refine o24.un.eqlNo f22 f23 (by cases r <;> rfl) ?_
      exact hK _ _ (Later.refl w) rfl
    · have ws := o25.waits ho hwait
      have f17 : a.eval (.tmp 53) = .bool false := by obtain ⟨_, _, _, h⟩ := F 17 (ws 17 (by simp)) (by decide); exact h
      have f24 : a.eval (.tmp 60) = .bool false := by obtain ⟨_, _, _, h⟩ := F 24 (ws 24 (by simp)) (by decide); exact h
      refine o25.pickF f17 f24 ?_
      exact hK _ _ (Later.refl w) rfl
  · intro a w so hl F
    exact hend a w so hl (by obtain ⟨_, _, _, h⟩ := F 25 rfl (by decide); exact h)
def nmSs10_R (x y ua ub : PaC) : Nat → Value → World → Prop
  | 0, v, _ => v = .bool true
  | 1, v, _ => v = .bool true
  | 2, v, _ => v = .bool true
  | 3, v, _ => v = .bool true
  | 4, v, _ => v = .bool true
  | 5, v, _ => v = paV ua
  | 6, v, w => ∃ p : PaC, v = paV p ∧ PaOk w p ∧ p.v = ua.v
  | 7, v, _ => v = paV x
  | 8, v, _ => v = .bool true
  | 9, v, _ => v = .bool true
  | 10, v, _ => v = .bool true
  | 11, v, _ => v = paV ub
  | 12, v, w => ∃ p : PaC, v = paV p ∧ PaOk w p ∧ p.v = ub.v
  | 13, v, _ => v = paV y
  | 14, v, _ => v = .bool true
  | 15, v, _ => v = .bool true
  | 16, v, _ => v = .bool true
  | _, _, _ => True
set_option maxRecDepth 100000 in
set_option maxHeartbeats 1600000 in
theorem nmSs10 {ops : Array Oper} (hn : ops.size = 17) (hg : goesBack ops = true)
    (o0 : OpIs ops 0 (.call { callee := .value (.func 8), args := #[], argTypes := #[] }) (some 72) [])
    (o1 : OpIs ops 1 (.move (.tmp 72)) (some 73) [0])
    (o2 : OpG ops 2 (.move (.tmp 13)) (some 74) [1] 1 73)
    (o3 : OpIs ops 3 (.pick (.tmp 73) (.tmp 74) (.const (.bool false))) (some 75) [1, 2])
    (o4 : OpIs ops 4 (.move (.tmp 75)) (some 76) [3])
    (o5 : OpG ops 5 (.load 30 (.tmp 11)) (some 77) [4] 4 76)
    (o6 : OpG ops 6 (.call { callee := .value (.func 13), args := #[.tmp 77], argTypes := #[30] }) (some 78) [4, 5] 4 76)
    (o7 : OpG ops 7 (.load 25 (.tmp 2)) (some 79) [4] 4 76)
    (o8 : OpG ops 8 (.call { callee := .value (.func 12), args := #[.tmp 78, .tmp 79], argTypes := #[25, 25] }) (some 80) [4, 6, 7] 4 76)
    (o9 : OpIs ops 9 (.pick (.tmp 76) (.tmp 80) (.const (.bool false))) (some 81) [4, 8])
    (o10 : OpIs ops 10 (.move (.tmp 81)) (some 82) [9])
    (o11 : OpG ops 11 (.load 30 (.tmp 12)) (some 83) [10] 10 82)
    (o12 : OpG ops 12 (.call { callee := .value (.func 13), args := #[.tmp 83], argTypes := #[30] }) (some 84) [10, 11] 10 82)
    (o13 : OpG ops 13 (.load 25 (.tmp 3)) (some 85) [10] 10 82)
    (o14 : OpG ops 14 (.call { callee := .value (.func 12), args := #[.tmp 84, .tmp 85], argTypes := #[25, 25] }) (some 86) [10, 12, 13] 10 82)
    (o15 : OpIs ops 15 (.pick (.tmp 82) (.tmp 86) (.const (.bool false))) (some 87) [10, 14])
    (o16 : OpIs ops 16 (.assign (.tmp 87)) (some 4) [15])
    {a1 : Act} (hs : 88 ≤ a1.tmps.size) {wx : World} {x y ua ub : PaC} {g2 g3 g11 g12 : Nat} (e2 : a1.eval (.tmp 2) = .pointer (some ⟨g2, 0, none⟩)) (e3 : a1.eval (.tmp 3) = .pointer (some ⟨g3, 0, none⟩)) (okx : PaOk wx x) (oky : PaOk wx y) (hb2 : BoxAt wx g2 (paL x).toArray 25) (hb3 : BoxAt wx g3 (paL y).toArray 25) (e11 : a1.eval (.tmp 11) = .pointer (some ⟨g11, 0, none⟩)) (e12 : a1.eval (.tmp 12) = .pointer (some ⟨g12, 0, none⟩)) (e13 : a1.eval (.tmp 13) = .bool true) (okua : PaOk wx ua) (okub : PaOk wx ub) (hb5 : BoxAt wx g11 (paL ua).toArray 30) (hb6 : BoxAt wx g12 (paL ub).toArray 30) (hax : ua.v = x.v) (hby : ub.v = y.v)
    {Q : Exit → Act → World → Prop} {id : Nat} (hend : ∀ (a : Act) (w : World), SameOut a1 a [72, 73, 74, 75, 76, 77, 78, 79, 80, 81, 82, 83, 84, 85, 86, 87, 4] → Later wx w → a.eval (.tmp 4) = .bool true → Q .normal a w) :
    (Code.region id ops true).wp Tryz.prog Q a1 wx := by
  refine region_reads (n := 17) (by kernel_rfl) hg hn [72, 73, 74, 75, 76, 77, 78, 79, 80, 81, 82, 83, 84, 85, 86, 87, 4] (by decide +kernel) rfl (fun d hd => ?_) (nmSs10_R x y ua ub) ?_ ?_
  · have : d < 88 := by
      have h : ∀ d ∈ ([72, 73, 74, 75, 76, 77, 78, 79, 80, 81, 82, 83, 84, 85, 86, 87, 4] : List Nat), d < 88 := by decide +kernel
      exact h d hd
    omega
  · intro l a w i o K ho hi hwait so hl0 F hK
    have hc : i = 0 ∨ i = 1 ∨ i = 2 ∨ i = 3 ∨ i = 4 ∨ i = 5 ∨ i = 6 ∨ i = 7 ∨ i = 8 ∨ i = 9 ∨ i = 10 ∨ i = 11 ∨ i = 12 ∨ i = 13 ∨ i = 14 ∨ i = 15 ∨ i = 16 := by omega
    rcases hc with rfl | rfl | rfl | rfl | rfl | rfl | rfl | rfl | rfl | rfl | rfl | rfl | rfl | rfl | rfl | rfl | rfl
    · refine o0.call0 (enters_of Tryz.func8 (by kernel_rfl) rfl) (alive7_any w) ?_
      rintro e w' ⟨rfl, hl'⟩
      exact ⟨_, rfl, hK _ _ hl' rfl⟩
    · have ws := o1.waits ho hwait
      have f0 : a.eval (.tmp 72) = .bool true := by obtain ⟨_, _, _, h⟩ := F 0 (ws 0 (by simp)) (by decide); exact h
      refine o1.move ?_
      rw [show a.eval (.tmp 72) = .bool true from f0]
      exact hK _ _ (Later.refl w) rfl
    · have ws := o2.waits ho hwait
      have f1 : a.eval (.tmp 73) = .bool true := by obtain ⟨_, _, _, h⟩ := F 1 (ws 1 (by simp)) (by decide); exact h
      refine o2.via f1 (by rw [so.size]; show (73 : Nat) < _; omega) ?_
      refine o2.un.move ?_
      rw [show a.eval (.tmp 13) = .bool true from ((show _ = a1.eval _ from by simp only [Act.eval, Array.getD_eq_getD_getElem?, so.out 13 (by decide)]).trans e13)]
      exact hK _ _ (Later.refl w) rfl
    · have ws := o3.waits ho hwait
      have f1 : a.eval (.tmp 73) = .bool true := by obtain ⟨_, _, _, h⟩ := F 1 (ws 1 (by simp)) (by decide); exact h
      have f2 : a.eval (.tmp 74) = .bool true := by obtain ⟨_, _, _, h⟩ := F 2 (ws 2 (by simp)) (by decide); exact h
      refine o3.pick f1 f2 ?_
      exact hK _ _ (Later.refl w) rfl
    · have ws := o4.waits ho hwait
      have f3 : a.eval (.tmp 75) = .bool true := by obtain ⟨_, _, _, h⟩ := F 3 (ws 3 (by simp)) (by decide); exact h
      refine o4.move ?_
      rw [show a.eval (.tmp 75) = .bool true from f3]
      exact hK _ _ (Later.refl w) rfl
    · have ws := o5.waits ho hwait
      have f4 : a.eval (.tmp 76) = .bool true := by obtain ⟨_, _, _, h⟩ := F 4 (ws 4 (by simp)) (by decide); exact h
      refine o5.via f4 (by rw [so.size]; show (76 : Nat) < _; omega) ?_
      refine o5.un.loadA Tryz.underlying30 Tryz.patchSize ((show _ = a1.eval _ from by simp only [Act.eval, Array.getD_eq_getD_getElem?, so.out 11 (by decide)]).trans e11) (hb5.later hl0) ?_
      exact hK _ _ (Later.refl w) rfl
    · have ws := o6.waits ho hwait
      have f4 : a.eval (.tmp 76) = .bool true := by obtain ⟨_, _, _, h⟩ := F 4 (ws 4 (by simp)) (by decide); exact h
      have f5 : a.eval (.tmp 77) = paV ua := by obtain ⟨_, _, _, h⟩ := F 5 (ws 5 (by simp)) (by decide); exact h
      refine o6.via f4 (by rw [so.size]; show (76 : Nat) < _; omega) ?_
      refine o6.un.call1 (enters_of Tryz.func13 (by kernel_rfl) rfl) f5 (old7_any ua w (okua.later hl0)) ?_
      rintro e w' ⟨p, rfl, ev', ok', -, hl'⟩
      exact ⟨_, rfl, hK _ _ hl' ⟨p, rfl, ok', ev'⟩⟩
    · have ws := o7.waits ho hwait
      have f4 : a.eval (.tmp 76) = .bool true := by obtain ⟨_, _, _, h⟩ := F 4 (ws 4 (by simp)) (by decide); exact h
      refine o7.via f4 (by rw [so.size]; show (76 : Nat) < _; omega) ?_
      refine o7.un.loadA Tryz.underlying25 Tryz.rpatchSize ((show _ = a1.eval _ from by simp only [Act.eval, Array.getD_eq_getD_getElem?, so.out 2 (by decide)]).trans e2) (hb2.later hl0) ?_
      exact hK _ _ (Later.refl w) rfl
    · have ws := o8.waits ho hwait
      have f4 : a.eval (.tmp 76) = .bool true := by obtain ⟨_, _, _, h⟩ := F 4 (ws 4 (by simp)) (by decide); exact h
      obtain ⟨x6, y6, z6, f6⟩ := F 6 (ws 6 (by simp)) (by decide)
      have f7 : a.eval (.tmp 79) = paV x := by obtain ⟨_, _, _, h⟩ := F 7 (ws 7 (by simp)) (by decide); exact h
      refine o8.via f4 (by rw [so.size]; show (76 : Nat) < _; omega) ?_
      obtain ⟨p, fe, ok1, ev1⟩ := f6
      refine o8.un.call2 (enters_of Tryz.func12 (by kernel_rfl) rfl) fe f7 (refSame7_any p x w (ok1.later z6) (okx.later hl0)) ?_
      rintro e w' ⟨rfl, hl'⟩
      exact ⟨_, rfl, hK _ _ hl' (by show Value.bool _ = _; rw [ev1, hax, sameN_iff.2 rfl])⟩
    · have ws := o9.waits ho hwait
      have f4 : a.eval (.tmp 76) = .bool true := by obtain ⟨_, _, _, h⟩ := F 4 (ws 4 (by simp)) (by decide); exact h
      have f8 : a.eval (.tmp 80) = .bool true := by obtain ⟨_, _, _, h⟩ := F 8 (ws 8 (by simp)) (by decide); exact h
      refine o9.pick f4 f8 ?_
      exact hK _ _ (Later.refl w) rfl
    · have ws := o10.waits ho hwait
      have f9 : a.eval (.tmp 81) = .bool true := by obtain ⟨_, _, _, h⟩ := F 9 (ws 9 (by simp)) (by decide); exact h
      refine o10.move ?_
      rw [show a.eval (.tmp 81) = .bool true from f9]
      exact hK _ _ (Later.refl w) rfl
    · have ws := o11.waits ho hwait
      have f10 : a.eval (.tmp 82) = .bool true := by obtain ⟨_, _, _, h⟩ := F 10 (ws 10 (by simp)) (by decide); exact h
      refine o11.via f10 (by rw [so.size]; show (82 : Nat) < _; omega) ?_
      refine o11.un.loadA Tryz.underlying30 Tryz.patchSize ((show _ = a1.eval _ from by simp only [Act.eval, Array.getD_eq_getD_getElem?, so.out 12 (by decide)]).trans e12) (hb6.later hl0) ?_
      exact hK _ _ (Later.refl w) rfl
    · have ws := o12.waits ho hwait
      have f10 : a.eval (.tmp 82) = .bool true := by obtain ⟨_, _, _, h⟩ := F 10 (ws 10 (by simp)) (by decide); exact h
      have f11 : a.eval (.tmp 83) = paV ub := by obtain ⟨_, _, _, h⟩ := F 11 (ws 11 (by simp)) (by decide); exact h
      refine o12.via f10 (by rw [so.size]; show (82 : Nat) < _; omega) ?_
      refine o12.un.call1 (enters_of Tryz.func13 (by kernel_rfl) rfl) f11 (old7_any ub w (okub.later hl0)) ?_
      rintro e w' ⟨p, rfl, ev', ok', -, hl'⟩
      exact ⟨_, rfl, hK _ _ hl' ⟨p, rfl, ok', ev'⟩⟩
    · have ws := o13.waits ho hwait
      have f10 : a.eval (.tmp 82) = .bool true := by obtain ⟨_, _, _, h⟩ := F 10 (ws 10 (by simp)) (by decide); exact h
      refine o13.via f10 (by rw [so.size]; show (82 : Nat) < _; omega) ?_
      refine o13.un.loadA Tryz.underlying25 Tryz.rpatchSize ((show _ = a1.eval _ from by simp only [Act.eval, Array.getD_eq_getD_getElem?, so.out 3 (by decide)]).trans e3) (hb3.later hl0) ?_
      exact hK _ _ (Later.refl w) rfl
    · have ws := o14.waits ho hwait
      have f10 : a.eval (.tmp 82) = .bool true := by obtain ⟨_, _, _, h⟩ := F 10 (ws 10 (by simp)) (by decide); exact h
      obtain ⟨x12, y12, z12, f12⟩ := F 12 (ws 12 (by simp)) (by decide)
      have f13 : a.eval (.tmp 85) = paV y := by obtain ⟨_, _, _, h⟩ := F 13 (ws 13 (by simp)) (by decide); exact h
      refine o14.via f10 (by rw [so.size]; show (82 : Nat) < _; omega) ?_
      obtain ⟨p, fe, ok1, ev1⟩ := f12
      refine o14.un.call2 (enters_of Tryz.func12 (by kernel_rfl) rfl) fe f13 (refSame7_any p y w (ok1.later z12) (oky.later hl0)) ?_
      rintro e w' ⟨rfl, hl'⟩
      exact ⟨_, rfl, hK _ _ hl' (by show Value.bool _ = _; rw [ev1, hby, sameN_iff.2 rfl])⟩
    · have ws := o15.waits ho hwait
      have f10 : a.eval (.tmp 82) = .bool true := by obtain ⟨_, _, _, h⟩ := F 10 (ws 10 (by simp)) (by decide); exact h
      have f14 : a.eval (.tmp 86) = .bool true := by obtain ⟨_, _, _, h⟩ := F 14 (ws 14 (by simp)) (by decide); exact h
      refine o15.pick f10 f14 ?_
      exact hK _ _ (Later.refl w) rfl
    · have ws := o16.waits ho hwait
      have f15 : a.eval (.tmp 87) = .bool true := by obtain ⟨_, _, _, h⟩ := F 15 (ws 15 (by simp)) (by decide); exact h
      refine o16.assign ?_
      rw [show a.eval (.tmp 87) = .bool true from f15]
      exact hK _ _ (Later.refl w) rfl
  · intro a w so hl F
    exact hend a w so hl (by obtain ⟨_, _, _, h⟩ := F 16 rfl (by decide); exact h)

end Go.Proofs.YtlnjhimbgckdcaaGreat
