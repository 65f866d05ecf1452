import Derived.Test.YtomboeiaajggoaaGreatDoorPk18
import Derived.Test.YtomboeiaajggoaaGreatDoorPk15

/-
  The closure that Split asks by: in whatever order its operations come.
-/
namespace Go.Proofs.YtomboeiaajggoaaGreatDoor
open Go.RowKit Go.Maps

/-- What stands behind the clone, and behind the asking. -/
def AskSt (V0 : World) (x : PrC) : Nat → PrC → World → Prop
  | 0, _, V => Later V0 V
  | 1, y, V => Later V0 V ∧ y.v = x.v ∧ PrOk V y
  | _, _, V => Later V0 V

set_option maxHeartbeats 1600000 in
theorem ask_region {ops : Array Oper} (hn : ops.size = 13) (hg : goesBack ops = true)
    (o0 : OpIs ops 0 (.load 68 (.tmp 1)) (some 5) [])
    (o1 : OpIs ops 1 (.binOp .neq 68 (.tmp 5) (.const .nilFunc) 68) (some 6) [0])
    (o2 : OpIs ops 2 (.move (.tmp 6)) (some 7) [1])
    (o3 : OpG ops 3 (.load 68 (.tmp 1)) (some 8) [2] 2 7)
    (o4 : OpG ops 4 (.move (.tmp 0)) (some 9) [2] 2 7)
    (o5 : OpG ops 5 (.load 25 (.tmp 2)) (some 10) [2] 2 7)
    (o6 : OpG ops 6 (.move (.tmp 0)) (some 11) [2] 2 7)
    (o7 : OpG ops 7 (.indexAddr 25 (.tmp 10) (.tmp 11)) (some 12) [5, 6, 2] 2 7)
    (o8 : OpG ops 8 (.load 48 (.tmp 12)) (some 13) [7, 2] 2 7)
    (o9 : OpG ops 9 (.call { callee := .value (.func 55), args := #[.tmp 13], argTypes := #[48] }) (some 14) [8, 2] 2 7)
    (o10 : OpG ops 10 (.call { callee := .value (.tmp 8), args := #[.tmp 9, .tmp 14], argTypes := #[3, 48] }) (some 15) [3, 4, 9, 2] 2 7)
    (o11 : OpIs ops 11 (.pick (.tmp 7) (.tmp 15) (.const (.bool false))) (some 16) [2, 10])
    (o12 : OpIs ops 12 (.assign (.tmp 16)) (some 4) [11])
    {a1 : Act} (hs : 17 ≤ a1.tmps.size) {wx : World} {b1 b2 k b o_ n c : Nat} {fi : FuncId} {lb : Array Value} {x : PrC} {xs : List PrC} {bk : Bool} (e0 : a1.eval (.tmp 0) = .int .i64 (k : Nat)) (e1 : a1.eval (.tmp 1) = .pointer (some ⟨b1, 0, none⟩)) (e2 : a1.eval (.tmp 2) = .pointer (some ⟨b2, 0, none⟩)) (hb1 : BoxAt wx b1 #[.func (.func fi) #[] lb] 68) (hb2 : BoxAt wx b2 #[.slice (some ⟨b, o_, none⟩) n c] 25) (hrow : RowK 6 wx (some ⟨b, o_, none⟩) n (xs.map prL)) (hat : xs[k]? = some x) (hk : k < n) (hx : PrOk wx x) (ef : ∀ args w, (callFunc fi args).run Tryz.prog w = .ok (.enter fi args) w) (hask : ∀ (y : PrC) (W : World), Later wx W → PrOk W y → y.v = x.v → Calls Tryz.prog fi (#[.int .i64 (k : Nat), prV y] ++ lb) W (Says bk W))
    {Q : Exit → Act → World → Prop} {id : Nat} (hend : ∀ (D : PrC) (a : Act) (w : World), SameOut a1 a [5, 6, 7, 8, 9, 10, 11, 12, 13, 14, 15, 16, 4] → a.eval (.tmp 4) = .bool bk → AskSt wx x (2) D w → Q .normal a w) :
    (Code.region id ops true).wp Tryz.prog Q a1 wx := by
  refine region_inv (by kernel_rfl) hg (fun l a w => ∃ D : PrC, SameOut a1 a [5, 6, 7, 8, 9, 10, 11, 12, 13, 14, 15, 16, 4] ∧ AskSt wx x (if l 10 = true then 2 else (if l 9 = true then 1 else 0)) D w ∧ (l 0 = true → a.eval (.tmp 5) = .func (.func fi) #[] lb) ∧ (l 1 = true → a.eval (.tmp 6) = .bool true) ∧ (l 2 = true → a.eval (.tmp 7) = .bool true) ∧ (l 3 = true → a.eval (.tmp 8) = .func (.func fi) #[] lb) ∧ (l 4 = true → a.eval (.tmp 9) = .int .i64 (k : Nat)) ∧ (l 5 = true → a.eval (.tmp 10) = .slice (some ⟨b, o_, none⟩) n c) ∧ (l 6 = true → a.eval (.tmp 11) = .int .i64 (k : Nat)) ∧ (l 7 = true → a.eval (.tmp 12) = .pointer (some ⟨b, o_ + k * 6, none⟩)) ∧ (l 8 = true → a.eval (.tmp 13) = prV x) ∧ (l 9 = true → a.eval (.tmp 14) = prV D) ∧ (l 10 = true → a.eval (.tmp 15) = .bool bk) ∧ (l 11 = true → a.eval (.tmp 16) = .bool bk) ∧ (l 12 = true → a.eval (.tmp 4) = .bool bk) ∧ (l 10 = true → l 9 = true) ∧ (l 1 = true → l 0 = true) ∧ (l 2 = true → l 1 = true) ∧ (l 3 = true → l 2 = true) ∧ (l 5 = true → l 2 = true) ∧ (l 7 = true → l 5 = true) ∧ (l 8 = true → l 7 = true) ∧ (l 9 = true → l 8 = true) ∧ (l 10 = true → l 3 = true)) ?_ ?_ ?_
  · intro l a w i o ho hl hwait ⟨D, so, st, f0, f1, f2, f3, f4, f5, f6, f7, f8, f9, f10, f11, f12, d10_9, d1_0, d2_1, d3_2, d5_2, d7_5, d8_7, d9_8, d10_3⟩
    have hi : i < 13 := by rw [← hn]; exact (Array.getElem?_eq_some_iff.1 ho).1
    have hc : i = 0 ∨ i = 1 ∨ i = 2 ∨ i = 3 ∨ i = 4 ∨ i = 5 ∨ i = 6 ∨ i = 7 ∨ i = 8 ∨ i = 9 ∨ i = 10 ∨ i = 11 ∨ i = 12 := by omega
    rcases hc with rfl | rfl | rfl | rfl | rfl | rfl | rfl | rfl | rfl | rfl | rfl | rfl | rfl
    · have n1 : l 1 = false := by cases hx : l 1 with | false => rfl | true => have := d1_0 hx; rw [hl] at this; cases this
      have n2 : l 2 = false := by cases hx : l 2 with | false => rfl | true => have := d2_1 hx; rw [n1] at this; cases this
      have n3 : l 3 = false := by cases hx : l 3 with | false => rfl | true => have := d3_2 hx; rw [n2] at this; cases this
      have n5 : l 5 = false := by cases hx : l 5 with | false => rfl | true => have := d5_2 hx; rw [n2] at this; cases this
      have n7 : l 7 = false := by cases hx : l 7 with | false => rfl | true => have := d7_5 hx; rw [n5] at this; cases this
      have n8 : l 8 = false := by cases hx : l 8 with | false => rfl | true => have := d8_7 hx; rw [n7] at this; cases this
      have n9 : l 9 = false := by cases hx : l 9 with | false => rfl | true => have := d9_8 hx; rw [n8] at this; cases this
      have n10 : l 10 = false := by cases hx : l 10 with | false => rfl | true => have := d10_3 hx; rw [n3] at this; cases this
      have st0 := st
      have hl0 : Later wx w := by
        have hst := st
        simp only [n9, n10, Bool.false_eq_true, if_false] at hst
        exact hst
      refine o0.loadF ((show _ = a1.eval _ from by simp only [Act.eval, Array.getD_eq_getD_getElem?, so.out 1 (by decide)]).trans e1) (hb1.later hl0) ?_
      exact ⟨D, (so.put (by decide) _), st, (fun _ => eval_put_same' _ _ _ (by rw [so.size]; show (5 : Nat) < _; omega)), (fun e => by rw [show more l 0 1 = l 1 from rfl, n1] at e; cases e), (fun e => by rw [show more l 0 2 = l 2 from rfl, n2] at e; cases e), (fun e => by rw [show more l 0 3 = l 3 from rfl, n3] at e; cases e), (fun e => (eval_put_other' _ _ (by decide)).trans (f4 e)), (fun e => by rw [show more l 0 5 = l 5 from rfl, n5] at e; cases e), (fun e => (eval_put_other' _ _ (by decide)).trans (f6 e)), (fun e => by rw [show more l 0 7 = l 7 from rfl, n7] at e; cases e), (fun e => by rw [show more l 0 8 = l 8 from rfl, n8] at e; cases e), (fun e => by rw [show more l 0 9 = l 9 from rfl, n9] at e; cases e), (fun e => by rw [show more l 0 10 = l 10 from rfl, n10] at e; cases e), (fun e => (eval_put_other' _ _ (by decide)).trans (f11 e)), (fun e => (eval_put_other' _ _ (by decide)).trans (f12 e)), d10_9, (fun _ => rfl), d2_1, d3_2, d5_2, d7_5, d8_7, d9_8, d10_3⟩
    · have ws := o1.waits ho hwait
      have w0 := ws 0 (by simp)
      have n2 : l 2 = false := by cases hx : l 2 with | false => rfl | true => have := d2_1 hx; rw [hl] at this; cases this
      have n3 : l 3 = false := by cases hx : l 3 with | false => rfl | true => have := d3_2 hx; rw [n2] at this; cases this
      have n5 : l 5 = false := by cases hx : l 5 with | false => rfl | true => have := d5_2 hx; rw [n2] at this; cases this
      have n7 : l 7 = false := by cases hx : l 7 with | false => rfl | true => have := d7_5 hx; rw [n5] at this; cases this
      have n8 : l 8 = false := by cases hx : l 8 with | false => rfl | true => have := d8_7 hx; rw [n7] at this; cases this
      have n9 : l 9 = false := by cases hx : l 9 with | false => rfl | true => have := d9_8 hx; rw [n8] at this; cases this
      have n10 : l 10 = false := by cases hx : l 10 with | false => rfl | true => have := d10_3 hx; rw [n3] at this; cases this
      have st0 := st
      refine o1.notNil (f0 w0) ?_
      exact ⟨D, (so.put (by decide) _), st, (fun e => (eval_put_other' _ _ (by decide)).trans (f0 e)), (fun _ => eval_put_same' _ _ _ (by rw [so.size]; show (6 : Nat) < _; omega)), (fun e => by rw [show more l 1 2 = l 2 from rfl, n2] at e; cases e), (fun e => by rw [show more l 1 3 = l 3 from rfl, n3] at e; cases e), (fun e => (eval_put_other' _ _ (by decide)).trans (f4 e)), (fun e => by rw [show more l 1 5 = l 5 from rfl, n5] at e; cases e), (fun e => (eval_put_other' _ _ (by decide)).trans (f6 e)), (fun e => by rw [show more l 1 7 = l 7 from rfl, n7] at e; cases e), (fun e => by rw [show more l 1 8 = l 8 from rfl, n8] at e; cases e), (fun e => by rw [show more l 1 9 = l 9 from rfl, n9] at e; cases e), (fun e => by rw [show more l 1 10 = l 10 from rfl, n10] at e; cases e), (fun e => (eval_put_other' _ _ (by decide)).trans (f11 e)), (fun e => (eval_put_other' _ _ (by decide)).trans (f12 e)), d10_9, (fun _ => w0), (fun _ => rfl), d3_2, d5_2, d7_5, d8_7, d9_8, d10_3⟩
    · have ws := o2.waits ho hwait
      have w1 := ws 1 (by simp)
      have w0 := d1_0 w1
      have n3 : l 3 = false := by cases hx : l 3 with | false => rfl | true => have := d3_2 hx; rw [hl] at this; cases this
      have n5 : l 5 = false := by cases hx : l 5 with | false => rfl | true => have := d5_2 hx; rw [hl] at this; cases this
      have n7 : l 7 = false := by cases hx : l 7 with | false => rfl | true => have := d7_5 hx; rw [n5] at this; cases this
      have n8 : l 8 = false := by cases hx : l 8 with | false => rfl | true => have := d8_7 hx; rw [n7] at this; cases this
      have n9 : l 9 = false := by cases hx : l 9 with | false => rfl | true => have := d9_8 hx; rw [n8] at this; cases this
      have n10 : l 10 = false := by cases hx : l 10 with | false => rfl | true => have := d10_3 hx; rw [n3] at this; cases this
      have st0 := st
      refine o2.move ?_
      rw [f1 w1]
      exact ⟨D, (so.put (by decide) _), st, (fun e => (eval_put_other' _ _ (by decide)).trans (f0 e)), (fun e => (eval_put_other' _ _ (by decide)).trans (f1 e)), (fun _ => eval_put_same' _ _ _ (by rw [so.size]; show (7 : Nat) < _; omega)), (fun e => by rw [show more l 2 3 = l 3 from rfl, n3] at e; cases e), (fun e => (eval_put_other' _ _ (by decide)).trans (f4 e)), (fun e => by rw [show more l 2 5 = l 5 from rfl, n5] at e; cases e), (fun e => (eval_put_other' _ _ (by decide)).trans (f6 e)), (fun e => by rw [show more l 2 7 = l 7 from rfl, n7] at e; cases e), (fun e => by rw [show more l 2 8 = l 8 from rfl, n8] at e; cases e), (fun e => by rw [show more l 2 9 = l 9 from rfl, n9] at e; cases e), (fun e => by rw [show more l 2 10 = l 10 from rfl, n10] at e; cases e), (fun e => (eval_put_other' _ _ (by decide)).trans (f11 e)), (fun e => (eval_put_other' _ _ (by decide)).trans (f12 e)), d10_9, d1_0, (fun _ => w1), (fun _ => rfl), (fun _ => rfl), d7_5, d8_7, d9_8, d10_3⟩
    · have ws := o3.waits ho hwait
      have w2 := ws 2 (by simp)
      have w1 := d2_1 w2
      have w0 := d1_0 w1
      have n10 : l 10 = false := by cases hx : l 10 with | false => rfl | true => have := d10_3 hx; rw [hl] at this; cases this
      have st0 := st
      refine o3.via (f2 w2) (by rw [so.size]; show (7 : Nat) < _; omega) ?_
      have hl0 : Later wx w := by
        have hst := st
        simp only [n10, Bool.false_eq_true, if_false] at hst
        split at hst
        · exact hst.1
        · exact hst
      refine o3.un.loadF ((show _ = a1.eval _ from by simp only [Act.eval, Array.getD_eq_getD_getElem?, so.out 1 (by decide)]).trans e1) (hb1.later hl0) ?_
      exact ⟨D, (so.put (by decide) _), st, (fun e => (eval_put_other' _ _ (by decide)).trans (f0 e)), (fun e => (eval_put_other' _ _ (by decide)).trans (f1 e)), (fun e => (eval_put_other' _ _ (by decide)).trans (f2 e)), (fun _ => eval_put_same' _ _ _ (by rw [so.size]; show (8 : Nat) < _; omega)), (fun e => (eval_put_other' _ _ (by decide)).trans (f4 e)), (fun e => (eval_put_other' _ _ (by decide)).trans (f5 e)), (fun e => (eval_put_other' _ _ (by decide)).trans (f6 e)), (fun e => (eval_put_other' _ _ (by decide)).trans (f7 e)), (fun e => (eval_put_other' _ _ (by decide)).trans (f8 e)), (fun e => (eval_put_other' _ _ (by decide)).trans (f9 e)), (fun e => by rw [show more l 3 10 = l 10 from rfl, n10] at e; cases e), (fun e => (eval_put_other' _ _ (by decide)).trans (f11 e)), (fun e => (eval_put_other' _ _ (by decide)).trans (f12 e)), d10_9, d1_0, d2_1, (fun _ => w2), d5_2, d7_5, d8_7, d9_8, (fun _ => rfl)⟩
    · have ws := o4.waits ho hwait
      have w2 := ws 2 (by simp)
      have w1 := d2_1 w2
      have w0 := d1_0 w1
      have st0 := st
      refine o4.via (f2 w2) (by rw [so.size]; show (7 : Nat) < _; omega) ?_
      have ev : a.eval (.tmp 0) = .int .i64 (k : Nat) := ((show _ = a1.eval _ from by simp only [Act.eval, Array.getD_eq_getD_getElem?, so.out 0 (by decide)]).trans e0)
      refine o4.un.move ?_
      rw [ev]
      exact ⟨D, (so.put (by decide) _), st, (fun e => (eval_put_other' _ _ (by decide)).trans (f0 e)), (fun e => (eval_put_other' _ _ (by decide)).trans (f1 e)), (fun e => (eval_put_other' _ _ (by decide)).trans (f2 e)), (fun e => (eval_put_other' _ _ (by decide)).trans (f3 e)), (fun _ => eval_put_same' _ _ _ (by rw [so.size]; show (9 : Nat) < _; omega)), (fun e => (eval_put_other' _ _ (by decide)).trans (f5 e)), (fun e => (eval_put_other' _ _ (by decide)).trans (f6 e)), (fun e => (eval_put_other' _ _ (by decide)).trans (f7 e)), (fun e => (eval_put_other' _ _ (by decide)).trans (f8 e)), (fun e => (eval_put_other' _ _ (by decide)).trans (f9 e)), (fun e => (eval_put_other' _ _ (by decide)).trans (f10 e)), (fun e => (eval_put_other' _ _ (by decide)).trans (f11 e)), (fun e => (eval_put_other' _ _ (by decide)).trans (f12 e)), d10_9, d1_0, d2_1, d3_2, d5_2, d7_5, d8_7, d9_8, d10_3⟩
    · have ws := o5.waits ho hwait
      have w2 := ws 2 (by simp)
      have w1 := d2_1 w2
      have w0 := d1_0 w1
      have n7 : l 7 = false := by cases hx : l 7 with | false => rfl | true => have := d7_5 hx; rw [hl] at this; cases this
      have n8 : l 8 = false := by cases hx : l 8 with | false => rfl | true => have := d8_7 hx; rw [n7] at this; cases this
      have n9 : l 9 = false := by cases hx : l 9 with | false => rfl | true => have := d9_8 hx; rw [n8] at this; cases this
      have n10 : l 10 = false := by cases hx : l 10 with | false => rfl | true => have := d10_9 hx; rw [n9] at this; cases this
      have st0 := st
      refine o5.via (f2 w2) (by rw [so.size]; show (7 : Nat) < _; omega) ?_
      have hl0 : Later wx w := by
        have hst := st
        simp only [n9, n10, Bool.false_eq_true, if_false] at hst
        exact hst
      refine o5.un.loadS ((show _ = a1.eval _ from by simp only [Act.eval, Array.getD_eq_getD_getElem?, so.out 2 (by decide)]).trans e2) (hb2.later hl0) ?_
      exact ⟨D, (so.put (by decide) _), st, (fun e => (eval_put_other' _ _ (by decide)).trans (f0 e)), (fun e => (eval_put_other' _ _ (by decide)).trans (f1 e)), (fun e => (eval_put_other' _ _ (by decide)).trans (f2 e)), (fun e => (eval_put_other' _ _ (by decide)).trans (f3 e)), (fun e => (eval_put_other' _ _ (by decide)).trans (f4 e)), (fun _ => eval_put_same' _ _ _ (by rw [so.size]; show (10 : Nat) < _; omega)), (fun e => (eval_put_other' _ _ (by decide)).trans (f6 e)), (fun e => by rw [show more l 5 7 = l 7 from rfl, n7] at e; cases e), (fun e => by rw [show more l 5 8 = l 8 from rfl, n8] at e; cases e), (fun e => by rw [show more l 5 9 = l 9 from rfl, n9] at e; cases e), (fun e => by rw [show more l 5 10 = l 10 from rfl, n10] at e; cases e), (fun e => (eval_put_other' _ _ (by decide)).trans (f11 e)), (fun e => (eval_put_other' _ _ (by decide)).trans (f12 e)), d10_9, d1_0, d2_1, d3_2, (fun _ => w2), (fun _ => rfl), d8_7, d9_8, d10_3⟩
    · have ws := o6.waits ho hwait
      have w2 := ws 2 (by simp)
      have w1 := d2_1 w2
      have w0 := d1_0 w1
      have st0 := st
      refine o6.via (f2 w2) (by rw [so.size]; show (7 : Nat) < _; omega) ?_
      have ev : a.eval (.tmp 0) = .int .i64 (k : Nat) := ((show _ = a1.eval _ from by simp only [Act.eval, Array.getD_eq_getD_getElem?, so.out 0 (by decide)]).trans e0)
      refine o6.un.move ?_
      rw [ev]
      exact ⟨D, (so.put (by decide) _), st, (fun e => (eval_put_other' _ _ (by decide)).trans (f0 e)), (fun e => (eval_put_other' _ _ (by decide)).trans (f1 e)), (fun e => (eval_put_other' _ _ (by decide)).trans (f2 e)), (fun e => (eval_put_other' _ _ (by decide)).trans (f3 e)), (fun e => (eval_put_other' _ _ (by decide)).trans (f4 e)), (fun e => (eval_put_other' _ _ (by decide)).trans (f5 e)), (fun _ => eval_put_same' _ _ _ (by rw [so.size]; show (11 : Nat) < _; omega)), (fun e => (eval_put_other' _ _ (by decide)).trans (f7 e)), (fun e => (eval_put_other' _ _ (by decide)).trans (f8 e)), (fun e => (eval_put_other' _ _ (by decide)).trans (f9 e)), (fun e => (eval_put_other' _ _ (by decide)).trans (f10 e)), (fun e => (eval_put_other' _ _ (by decide)).trans (f11 e)), (fun e => (eval_put_other' _ _ (by decide)).trans (f12 e)), d10_9, d1_0, d2_1, d3_2, d5_2, d7_5, d8_7, d9_8, d10_3⟩
    · have ws := o7.waits ho hwait
      have w5 := ws 5 (by simp)
      have w6 := ws 6 (by simp)
      have w2 := ws 2 (by simp)
      have w1 := d2_1 w2
      have w0 := d1_0 w1
      have n8 : l 8 = false := by cases hx : l 8 with | false => rfl | true => have := d8_7 hx; rw [hl] at this; cases this
      have n9 : l 9 = false := by cases hx : l 9 with | false => rfl | true => have := d9_8 hx; rw [n8] at this; cases this
      have n10 : l 10 = false := by cases hx : l 10 with | false => rfl | true => have := d10_9 hx; rw [n9] at this; cases this
      have st0 := st
      refine o7.via (f2 w2) (by rw [so.size]; show (7 : Nat) < _; omega) ?_
      refine o7.un.index (f5 w5) (f6 w6) hk ?_
      exact ⟨D, (so.put (by decide) _), st, (fun e => (eval_put_other' _ _ (by decide)).trans (f0 e)), (fun e => (eval_put_other' _ _ (by decide)).trans (f1 e)), (fun e => (eval_put_other' _ _ (by decide)).trans (f2 e)), (fun e => (eval_put_other' _ _ (by decide)).trans (f3 e)), (fun e => (eval_put_other' _ _ (by decide)).trans (f4 e)), (fun e => (eval_put_other' _ _ (by decide)).trans (f5 e)), (fun e => (eval_put_other' _ _ (by decide)).trans (f6 e)), (fun _ => eval_put_same' _ _ _ (by rw [so.size]; show (12 : Nat) < _; omega)), (fun e => by rw [show more l 7 8 = l 8 from rfl, n8] at e; cases e), (fun e => by rw [show more l 7 9 = l 9 from rfl, n9] at e; cases e), (fun e => by rw [show more l 7 10 = l 10 from rfl, n10] at e; cases e), (fun e => (eval_put_other' _ _ (by decide)).trans (f11 e)), (fun e => (eval_put_other' _ _ (by decide)).trans (f12 e)), d10_9, d1_0, d2_1, d3_2, d5_2, (fun _ => w5), (fun _ => rfl), d9_8, d10_3⟩
    · have ws := o8.waits ho hwait
      have w7 := ws 7 (by simp)
      have w2 := ws 2 (by simp)
      have w1 := d2_1 w2
      have w5 := d7_5 w7
      have w0 := d1_0 w1
      have n9 : l 9 = false := by cases hx : l 9 with | false => rfl | true => have := d9_8 hx; rw [hl] at this; cases this
      have n10 : l 10 = false := by cases hx : l 10 with | false => rfl | true => have := d10_9 hx; rw [n9] at this; cases this
      have st0 := st
      refine o8.via (f2 w2) (by rw [so.size]; show (7 : Nat) < _; omega) ?_
      have hl0 : Later wx w := by
        have hst := st
        simp only [n9, n10, Bool.false_eq_true, if_false] at hst
        exact hst
      refine o8.un.loadP (f7 w7) (hrow.later hl0) hat ?_
      exact ⟨D, (so.put (by decide) _), st, (fun e => (eval_put_other' _ _ (by decide)).trans (f0 e)), (fun e => (eval_put_other' _ _ (by decide)).trans (f1 e)), (fun e => (eval_put_other' _ _ (by decide)).trans (f2 e)), (fun e => (eval_put_other' _ _ (by decide)).trans (f3 e)), (fun e => (eval_put_other' _ _ (by decide)).trans (f4 e)), (fun e => (eval_put_other' _ _ (by decide)).trans (f5 e)), (fun e => (eval_put_other' _ _ (by decide)).trans (f6 e)), (fun e => (eval_put_other' _ _ (by decide)).trans (f7 e)), (fun _ => eval_put_same' _ _ _ (by rw [so.size]; show (13 : Nat) < _; omega)), (fun e => by rw [show more l 8 9 = l 9 from rfl, n9] at e; cases e), (fun e => by rw [show more l 8 10 = l 10 from rfl, n10] at e; cases e), (fun e => (eval_put_other' _ _ (by decide)).trans (f11 e)), (fun e => (eval_put_other' _ _ (by decide)).trans (f12 e)), d10_9, d1_0, d2_1, d3_2, d5_2, d7_5, (fun _ => w7), (fun _ => rfl), d10_3⟩
    · have ws := o9.waits ho hwait
      have w8 := ws 8 (by simp)
      have w2 := ws 2 (by simp)
      have w1 := d2_1 w2
      have w7 := d8_7 w8
      have w0 := d1_0 w1
      have w5 := d7_5 w7
      have n10 : l 10 = false := by cases hx : l 10 with | false => rfl | true => have := d10_9 hx; rw [hl] at this; cases this
      have st0 : AskSt wx x 0 D w := by
        have hst := st
        simp only [hl, n10, Bool.false_eq_true, if_false] at hst
        exact hst
      refine o9.via (f2 w2) (by rw [so.size]; show (7 : Nat) < _; omega) ?_
      refine o9.un.call1 (enters_of Tryz.func55 (by kernel_rfl) rfl) (f8 w8) (cloneP_any x w (hx.later st0)) ?_
      rintro e w' ⟨y, rfl, hy, oky, fry, hl'⟩
      have st1 : AskSt wx x 1 y w' := ⟨Later.trans st0 hl', hy, oky⟩
      have st2 : AskSt wx x (if (more l 9) 10 = true then 2 else (if (more l 9) 9 = true then 1 else 0)) (y) w' := by
        rw [if_neg (show ¬ (more l 9 10 = true) from by rw [show more l 9 10 = l 10 from rfl, n10]; simp), if_pos (show more l 9 9 = true from rfl)]
        exact st1
      exact ⟨_, rfl, ⟨y, (so.put (by decide) _), st2, (fun e => (eval_put_other' _ _ (by decide)).trans (f0 e)), (fun e => (eval_put_other' _ _ (by decide)).trans (f1 e)), (fun e => (eval_put_other' _ _ (by decide)).trans (f2 e)), (fun e => (eval_put_other' _ _ (by decide)).trans (f3 e)), (fun e => (eval_put_other' _ _ (by decide)).trans (f4 e)), (fun e => (eval_put_other' _ _ (by decide)).trans (f5 e)), (fun e => (eval_put_other' _ _ (by decide)).trans (f6 e)), (fun e => (eval_put_other' _ _ (by decide)).trans (f7 e)), (fun e => (eval_put_other' _ _ (by decide)).trans (f8 e)), (fun _ => eval_put_same' _ _ _ (by rw [so.size]; show (14 : Nat) < _; omega)), (fun e => by rw [show more l 9 10 = l 10 from rfl, n10] at e; cases e), (fun e => (eval_put_other' _ _ (by decide)).trans (f11 e)), (fun e => (eval_put_other' _ _ (by decide)).trans (f12 e)), (fun _ => rfl), d1_0, d2_1, d3_2, d5_2, d7_5, d8_7, (fun _ => w8), d10_3⟩⟩
    · have ws := o10.waits ho hwait
      have w3 := ws 3 (by simp)
      have w4 := ws 4 (by simp)
      have w9 := ws 9 (by simp)
      have w2 := ws 2 (by simp)
      have w1 := d2_1 w2
      have w8 := d9_8 w9
      have w0 := d1_0 w1
      have w7 := d8_7 w8
      have w5 := d7_5 w7
      have st0 : AskSt wx x 1 D w := by
        have hst := st
        simp only [hl, Bool.false_eq_true, if_false, if_true, w9] at hst
        exact hst
      refine o10.via (f2 w2) (by rw [so.size]; show (7 : Nat) < _; omega) ?_
      refine o10.un.callF ef (f3 w3) (f4 w4) (f9 w9) (hask D w st0.1 st0.2.2 st0.2.1) ?_
      rintro e w' ⟨rfl, hl'⟩
      have st1 : AskSt wx x 2 D w' := st0.1.trans hl'
      have st2 : AskSt wx x (if (more l 10) 10 = true then 2 else (if (more l 10) 9 = true then 1 else 0)) (D) w' := by
        rw [if_pos (show more l 10 10 = true from rfl)]
        exact st1
      exact ⟨_, rfl, ⟨D, (so.put (by decide) _), st2, (fun e => (eval_put_other' _ _ (by decide)).trans (f0 e)), (fun e => (eval_put_other' _ _ (by decide)).trans (f1 e)), (fun e => (eval_put_other' _ _ (by decide)).trans (f2 e)), (fun e => (eval_put_other' _ _ (by decide)).trans (f3 e)), (fun e => (eval_put_other' _ _ (by decide)).trans (f4 e)), (fun e => (eval_put_other' _ _ (by decide)).trans (f5 e)), (fun e => (eval_put_other' _ _ (by decide)).trans (f6 e)), (fun e => (eval_put_other' _ _ (by decide)).trans (f7 e)), (fun e => (eval_put_other' _ _ (by decide)).trans (f8 e)), (fun e => (eval_put_other' _ _ (by decide)).trans (f9 e)), (fun _ => eval_put_same' _ _ _ (by rw [so.size]; show (15 : Nat) < _; omega)), (fun e => (eval_put_other' _ _ (by decide)).trans (f11 e)), (fun e => (eval_put_other' _ _ (by decide)).trans (f12 e)), (fun _ => w9), d1_0, d2_1, d3_2, d5_2, d7_5, d8_7, d9_8, (fun _ => w3)⟩⟩
    · have ws := o11.waits ho hwait
      have w2 := ws 2 (by simp)
      have w10 := ws 10 (by simp)
      have w9 := d10_9 w10
      have w1 := d2_1 w2
      have w8 := d9_8 w9
      have w3 := d10_3 w10
      have w0 := d1_0 w1
      have w7 := d8_7 w8
      have w5 := d7_5 w7
      have st0 := st
      refine o11.pick (f2 w2) (f10 w10) ?_
      exact ⟨D, (so.put (by decide) _), st, (fun e => (eval_put_other' _ _ (by decide)).trans (f0 e)), (fun e => (eval_put_other' _ _ (by decide)).trans (f1 e)), (fun e => (eval_put_other' _ _ (by decide)).trans (f2 e)), (fun e => (eval_put_other' _ _ (by decide)).trans (f3 e)), (fun e => (eval_put_other' _ _ (by decide)).trans (f4 e)), (fun e => (eval_put_other' _ _ (by decide)).trans (f5 e)), (fun e => (eval_put_other' _ _ (by decide)).trans (f6 e)), (fun e => (eval_put_other' _ _ (by decide)).trans (f7 e)), (fun e => (eval_put_other' _ _ (by decide)).trans (f8 e)), (fun e => (eval_put_other' _ _ (by decide)).trans (f9 e)), (fun e => (eval_put_other' _ _ (by decide)).trans (f10 e)), (fun _ => eval_put_same' _ _ _ (by rw [so.size]; show (16 : Nat) < _; omega)), (fun e => (eval_put_other' _ _ (by decide)).trans (f12 e)), d10_9, d1_0, d2_1, d3_2, d5_2, d7_5, d8_7, d9_8, d10_3⟩
    · have ws := o12.waits ho hwait
      have w11 := ws 11 (by simp)
      have st0 := st
      refine o12.assign ?_
      rw [f11 w11]
      exact ⟨D, (so.put (by decide) _), st, (fun e => (eval_put_other' _ _ (by decide)).trans (f0 e)), (fun e => (eval_put_other' _ _ (by decide)).trans (f1 e)), (fun e => (eval_put_other' _ _ (by decide)).trans (f2 e)), (fun e => (eval_put_other' _ _ (by decide)).trans (f3 e)), (fun e => (eval_put_other' _ _ (by decide)).trans (f4 e)), (fun e => (eval_put_other' _ _ (by decide)).trans (f5 e)), (fun e => (eval_put_other' _ _ (by decide)).trans (f6 e)), (fun e => (eval_put_other' _ _ (by decide)).trans (f7 e)), (fun e => (eval_put_other' _ _ (by decide)).trans (f8 e)), (fun e => (eval_put_other' _ _ (by decide)).trans (f9 e)), (fun e => (eval_put_other' _ _ (by decide)).trans (f10 e)), (fun e => (eval_put_other' _ _ (by decide)).trans (f11 e)), (fun _ => eval_put_same' _ _ _ (by rw [so.size]; show (4 : Nat) < _; omega)), d10_9, d1_0, d2_1, d3_2, d5_2, d7_5, d8_7, d9_8, d10_3⟩
  · intro l a w hall ⟨D, so, st, f0, f1, f2, f3, f4, f5, f6, f7, f8, f9, f10, f11, f12, d10_9, d1_0, d2_1, d3_2, d5_2, d7_5, d8_7, d9_8, d10_3⟩
    rw [hn] at hall
    have hst : AskSt wx x 2 D w := by
      have hst := st
      simp only [hall 10 (by decide), if_true] at hst
      exact hst
    exact hend D a w so (f12 (hall 12 (by decide))) hst
  · have h0 : AskSt wx x 0 x { wx with drawn := wx.drawn + 1 } := (Later.refl wx).drew
    exact ⟨x, SameOut.refl _ _, h0, (fun e => by cases e), (fun e => by cases e), (fun e => by cases e), (fun e => by cases e), (fun e => by cases e), (fun e => by cases e), (fun e => by cases e), (fun e => by cases e), (fun e => by cases e), (fun e => by cases e), (fun e => by cases e), (fun e => by cases e), (fun e => by cases e), (fun e => by cases e), (fun e => by cases e), (fun e => by cases e), (fun e => by cases e), (fun e => by cases e), (fun e => by cases e), (fun e => by cases e), (fun e => by cases e), (fun e => by cases e)⟩

set_option maxRecDepth 100000 in
set_option maxHeartbeats 400000 in
theorem splitAsk_any (b1 b2 k b o_ n c : Nat) (fi : FuncId) (lb : Array Value) (x : PrC) (xs : List PrC) (bk : Bool) (w : World) (hb1 : BoxAt w b1 #[.func (.func fi) #[] lb] 68) (hb2 : BoxAt w b2 #[.slice (some ⟨b, o_, none⟩) n c] 25) (hrow : RowK 6 w (some ⟨b, o_, none⟩) n (xs.map prL)) (hat : xs[k]? = some x) (hk : k < n) (hx : PrOk w x) (ef : ∀ args w, (callFunc fi args).run Tryz.prog w = .ok (.enter fi args) w) (hask : ∀ (y : PrC) (W : World), Later w W → PrOk W y → y.v = x.v → Calls Tryz.prog fi (#[.int .i64 (k : Nat), prV y] ++ lb) W (Says bk W)) :
    Calls Tryz.prog 61 #[.int .i64 (k : Nat), .pointer (some ⟨b1, 0, none⟩), .pointer (some ⟨b2, 0, none⟩)] w (Says bk w) := by
  go_enter Tryz.func61, Tryz.ntmps61
  go_upto_region 1 with fail
  refine ask_region rfl (by kernel_rfl) ⟨_, rfl, rfl, rfl, rfl, by kernel_rfl⟩ ⟨_, rfl, rfl, rfl, rfl, by kernel_rfl⟩ ⟨_, rfl, rfl, rfl, rfl, by kernel_rfl⟩ ⟨_, rfl, rfl, rfl, rfl, by kernel_rfl, by kernel_rfl⟩ ⟨_, rfl, rfl, rfl, rfl, by kernel_rfl, by kernel_rfl⟩ ⟨_, rfl, rfl, rfl, rfl, by kernel_rfl, by kernel_rfl⟩ ⟨_, rfl, rfl, rfl, rfl, by kernel_rfl, by kernel_rfl⟩ ⟨_, rfl, rfl, rfl, rfl, by kernel_rfl, by kernel_rfl⟩ ⟨_, rfl, rfl, rfl, rfl, by kernel_rfl, by kernel_rfl⟩ ⟨_, rfl, rfl, rfl, rfl, by kernel_rfl, by kernel_rfl⟩ ⟨_, rfl, rfl, rfl, rfl, by kernel_rfl, by kernel_rfl⟩ ⟨_, rfl, rfl, rfl, rfl, by kernel_rfl⟩ ⟨_, rfl, rfl, rfl, rfl, by kernel_rfl⟩ (of_decide_eq_true rfl) rfl rfl rfl hb1 hb2 hrow hat hk hx ef hask (fun D a V so e4 st => ?_)
  have hl : Later w V := st
  have ha := so.is
  simp only [List.foldl_cons, List.foldl_nil] at ha
  rw [e4] at ha
  generalize a.eval (.tmp 5) = y5 at ha
  generalize a.eval (.tmp 6) = y6 at ha
  generalize a.eval (.tmp 7) = y7 at ha
  generalize a.eval (.tmp 8) = y8 at ha
  generalize a.eval (.tmp 9) = y9 at ha
  generalize a.eval (.tmp 10) = y10 at ha
  generalize a.eval (.tmp 11) = y11 at ha
  generalize a.eval (.tmp 12) = y12 at ha
  generalize a.eval (.tmp 13) = y13 at ha
  generalize a.eval (.tmp 14) = y14 at ha
  generalize a.eval (.tmp 15) = y15 at ha
  generalize a.eval (.tmp 16) = y16 at ha
  clear so e4 st hb1 hb2 hrow hat hx hask ef
  subst ha
  simp only [Act.put, List.setIfInBounds_toArray, List.set_cons_zero, List.set_cons_succ]
  go_wp2
  go_ret
  exact ⟨rfl, hl⟩

end Go.Proofs.YtomboeiaajggoaaGreatDoor
