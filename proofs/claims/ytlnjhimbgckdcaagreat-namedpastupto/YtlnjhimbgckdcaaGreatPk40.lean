import Derived.Test.YtlnjhimbgckdcaaGreatPk15
import Derived.Test.YtlnjhimbgckdcaaGreatPk38
import Derived.Test.YtlnjhimbgckdcaaGreatPk39
import Derived.Test.YtlnjhimbgckdcaaGreatPk16
import Derived.Deep.LoopGhost
import Derived.Deep.QuietTactic
import Derived.BigQuiet
import Derived.Lib.Hide
import Derived.Test.YtlnjhimbgckdcaaGreatPk22
import Derived.Test.YtlnjhimbgckdcaaGreatPk28

/-
  The statement of the document's own Past that swaps two patches: in whatever order its operations come.
-/
namespace Go.Proofs.YtlnjhimbgckdcaaGreat
open Go.RowKit Go.Maps

set_option maxHeartbeats 1600000 in
theorem rpast_region {ops : Array Oper} (hn : ops.size = 15) (hg : goesBack ops = true)
    (o0 : OpIs ops 0 (.move (.tmp 0)) (some 20) [])
    (o1 : OpIs ops 1 (.move (.tmp 8)) (some 21) [])
    (o2 : OpIs ops 2 (.indexAddr 39 (.tmp 20) (.tmp 21)) (some 22) [0, 1])
    (o3 : OpIs ops 3 (.load 25 (.tmp 22)) (some 23) [2])
    (o4 : OpIs ops 4 (.load 25 (.tmp 3)) (some 24) [])
    (o5 : OpIs ops 5 (.call { callee := .value (.func 11), args := #[.tmp 23, .tmp 24], argTypes := #[25, 25] }) (some 25) [3, 4])
    (o6 : OpIs ops 6 (.move (.tmp 25)) (some 19) [5])
    (o7 : OpIs ops 7 (.extract (.tmp 19) 0) (some 26) [6])
    (o8 : OpIs ops 8 (.extract (.tmp 19) 1) (some 27) [6])
    (o9 : OpIs ops 9 (.extract (.tmp 19) 2) (some 28) [6])
    (o10 : OpIs ops 10 (.alloc 25) (some 9) [])
    (o11 : OpIs ops 11 (.alloc 25) (some 10) [])
    (o12 : OpIs ops 12 (.store 25 (.tmp 9) (.tmp 26)) none [10, 7, 5, 11])
    (o13 : OpIs ops 13 (.store 25 (.tmp 10) (.tmp 27)) none [11, 8, 12, 10])
    (o14 : OpIs ops 14 (.assign (.tmp 28)) (some 11) [9])
    {a1 : Act} (hs : 39 <= a1.tmps.size) {wx : World} {ba oa n ca k g3 : Nat} {xs : List PaC} {x q : PaC} {r : Option (Pa × Pa)} (e0 : a1.eval (.tmp 0) = .slice (some ⟨ba, oa, none⟩) n ca) (e8 : a1.eval (.tmp 8) = .int .i64 (k : Nat)) (e3 : a1.eval (.tmp 3) = .pointer (some ⟨g3, 0, none⟩)) (hrow : RowK 4 wx (some ⟨ba, oa, none⟩) n (xs.map paL)) (hkn : k < n) (hx : xs[k]? = some x) (hq3 : BoxAt wx g3 (paL q).toArray 25) (okx : PaOk wx x) (okq : PaOk wx q) (hr : swapN x.v q.v = r)
    {Q : Exit -> Act -> World -> Prop} {id : Nat} (hend : ∀ (D : TwD) (a : Act) (w : World), SameOut a1 a [20, 21, 22, 23, 24, 25, 19, 26, 27, 28, 9, 10, 11] -> a.eval (.tmp 9) = .pointer (some ⟨D.g8, 0, none⟩) -> a.eval (.tmp 10) = .pointer (some ⟨D.g9, 0, none⟩) -> a.eval (.tmp 11) = .bool D.t -> TwS 25 wx r (fun y z => ∀ k, k < wx.heap.size -> AwayN k x -> AwayN k q -> AwayN k y /\ AwayN k z) true true (3) D w -> Q .normal a w) :
    (Code.region id ops true).wp Tryz.prog Q a1 wx := by
  refine region_inv (by kernel_rfl) hg (fun l a w => ∃ D : TwD, SameOut a1 a [20, 21, 22, 23, 24, 25, 19, 26, 27, 28, 9, 10, 11] /\ TwS 25 wx r (fun y z => ∀ k, k < wx.heap.size -> AwayN k x -> AwayN k q -> AwayN k y /\ AwayN k z) (l 10) (l 11) (if l 13 = true then 3 else (if l 12 = true then 2 else (if l 5 = true then 1 else 0))) D w /\ (l 0 = true -> a.eval (.tmp 20) = .slice (some ⟨ba, oa, none⟩) n ca) /\ (l 1 = true -> a.eval (.tmp 21) = .int .i64 (k : Nat)) /\ (l 2 = true -> a.eval (.tmp 22) = .pointer (some ⟨ba, oa + k * 4, none⟩)) /\ (l 3 = true -> a.eval (.tmp 23) = paV x) /\ (l 4 = true -> a.eval (.tmp 24) = paV q) /\ (l 5 = true -> a.eval (.tmp 25) = .tuple #[paV D.y, paV D.z, .bool D.t]) /\ (l 6 = true -> a.eval (.tmp 19) = .tuple #[paV D.y, paV D.z, .bool D.t]) /\ (l 7 = true -> a.eval (.tmp 26) = paV D.y) /\ (l 8 = true -> a.eval (.tmp 27) = paV D.z) /\ (l 9 = true -> a.eval (.tmp 28) = .bool D.t) /\ (l 10 = true -> a.eval (.tmp 9) = .pointer (some ⟨D.g8, 0, none⟩)) /\ (l 11 = true -> a.eval (.tmp 10) = .pointer (some ⟨D.g9, 0, none⟩)) /\ (l 14 = true -> a.eval (.tmp 11) = .bool D.t) /\ (l 12 = true -> l 5 = true) /\ (l 13 = true -> l 12 = true) /\ (l 12 = true -> l 11 = true) /\ (l 12 = true -> l 10 = true) /\ (l 13 = true -> l 11 = true) /\ (l 13 = true -> l 10 = true) /\ (l 6 = true -> l 5 = true) /\ (l 7 = true -> l 5 = true) /\ (l 8 = true -> l 5 = true) /\ (l 9 = true -> l 5 = true) /\ (l 14 = true -> l 5 = true)) ?_ ?_ ?_
  · intro l a w i o ho hl hwait ⟨D, so, st, f0, f1, f2, f3, f4, f5, f6, f7, f8, f9, f10, f11, f14, d12_5, d13_12, d12_11, d12_10, d13_11, d13_10, d6_5, d7_5, d8_5, d9_5, d14_5⟩
    have hi : i < 15 := by rw [← hn]; exact (Array.getElem?_eq_some_iff.1 ho).1
    have hc : i = 0 ∨ i = 1 ∨ i = 2 ∨ i = 3 ∨ i = 4 ∨ i = 5 ∨ i = 6 ∨ i = 7 ∨ i = 8 ∨ i = 9 ∨ i = 10 ∨ i = 11 ∨ i = 12 ∨ i = 13 ∨ i = 14 := by omega
    rcases hc with rfl | rfl | rfl | rfl | rfl | rfl | rfl | rfl | rfl | rfl | rfl | rfl | rfl | rfl | rfl
    · have st0 := st
      have ev : a.eval (.tmp 0) = .slice (some ⟨ba, oa, none⟩) n ca := ((show _ = a1.eval _ from by simp only [Act.eval, Array.getD_eq_getD_getElem?, so.out 0 (by decide)]).trans e0)
      refine o0.move ?_
      rw [ev]
      exact ⟨D, (so.put (by decide) _), st, (fun _ => eval_put_same' _ _ _ (by rw [so.size]; show (20 : Nat) < _; omega)), (fun e => (eval_put_other' _ _ (by decide)).trans (f1 e)), (fun e => (eval_put_other' _ _ (by decide)).trans (f2 e)), (fun e => (eval_put_other' _ _ (by decide)).trans (f3 e)), (fun e => (eval_put_other' _ _ (by decide)).trans (f4 e)), (fun e => (eval_put_other' _ _ (by decide)).trans (f5 e)), (fun e => (eval_put_other' _ _ (by decide)).trans (f6 e)), (fun e => (eval_put_other' _ _ (by decide)).trans (f7 e)), (fun e => (eval_put_other' _ _ (by decide)).trans (f8 e)), (fun e => (eval_put_other' _ _ (by decide)).trans (f9 e)), (fun e => (eval_put_other' _ _ (by decide)).trans (f10 e)), (fun e => (eval_put_other' _ _ (by decide)).trans (f11 e)), (fun e => (eval_put_other' _ _ (by decide)).trans (f14 e)), d12_5, d13_12, d12_11, d12_10, d13_11, d13_10, d6_5, d7_5, d8_5, d9_5, d14_5⟩
    · have st0 := st
      have ev : a.eval (.tmp 8) = .int .i64 (k : Nat) := ((show _ = a1.eval _ from by simp only [Act.eval, Array.getD_eq_getD_getElem?, so.out 8 (by decide)]).trans e8)
      refine o1.move ?_
      rw [ev]
      exact ⟨D, (so.put (by decide) _), st, (fun e => (eval_put_other' _ _ (by decide)).trans (f0 e)), (fun _ => eval_put_same' _ _ _ (by rw [so.size]; show (21 : Nat) < _; omega)), (fun e => (eval_put_other' _ _ (by decide)).trans (f2 e)), (fun e => (eval_put_other' _ _ (by decide)).trans (f3 e)), (fun e => (eval_put_other' _ _ (by decide)).trans (f4 e)), (fun e => (eval_put_other' _ _ (by decide)).trans (f5 e)), (fun e => (eval_put_other' _ _ (by decide)).trans (f6 e)), (fun e => (eval_put_other' _ _ (by decide)).trans (f7 e)), (fun e => (eval_put_other' _ _ (by decide)).trans (f8 e)), (fun e => (eval_put_other' _ _ (by decide)).trans (f9 e)), (fun e => (eval_put_other' _ _ (by decide)).trans (f10 e)), (fun e => (eval_put_other' _ _ (by decide)).trans (f11 e)), (fun e => (eval_put_other' _ _ (by decide)).trans (f14 e)), d12_5, d13_12, d12_11, d12_10, d13_11, d13_10, d6_5, d7_5, d8_5, d9_5, d14_5⟩
    · have ws := o2.waits ho hwait
      have w0 := ws 0 (by simp)
      have w1 := ws 1 (by simp)
      have st0 := st
      refine o2.indexRN (f0 w0) (f1 w1) hkn ?_
      exact ⟨D, (so.put (by decide) _), st, (fun e => (eval_put_other' _ _ (by decide)).trans (f0 e)), (fun e => (eval_put_other' _ _ (by decide)).trans (f1 e)), (fun _ => eval_put_same' _ _ _ (by rw [so.size]; show (22 : Nat) < _; omega)), (fun e => (eval_put_other' _ _ (by decide)).trans (f3 e)), (fun e => (eval_put_other' _ _ (by decide)).trans (f4 e)), (fun e => (eval_put_other' _ _ (by decide)).trans (f5 e)), (fun e => (eval_put_other' _ _ (by decide)).trans (f6 e)), (fun e => (eval_put_other' _ _ (by decide)).trans (f7 e)), (fun e => (eval_put_other' _ _ (by decide)).trans (f8 e)), (fun e => (eval_put_other' _ _ (by decide)).trans (f9 e)), (fun e => (eval_put_other' _ _ (by decide)).trans (f10 e)), (fun e => (eval_put_other' _ _ (by decide)).trans (f11 e)), (fun e => (eval_put_other' _ _ (by decide)).trans (f14 e)), d12_5, d13_12, d12_11, d12_10, d13_11, d13_10, d6_5, d7_5, d8_5, d9_5, d14_5⟩
    · have ws := o3.waits ho hwait
      have w2 := ws 2 (by simp)
      have st0 := st
      refine o3.loadRNs (f2 w2) (hrow.later st.later) hx ?_
      exact ⟨D, (so.put (by decide) _), st, (fun e => (eval_put_other' _ _ (by decide)).trans (f0 e)), (fun e => (eval_put_other' _ _ (by decide)).trans (f1 e)), (fun e => (eval_put_other' _ _ (by decide)).trans (f2 e)), (fun _ => eval_put_same' _ _ _ (by rw [so.size]; show (23 : Nat) < _; omega)), (fun e => (eval_put_other' _ _ (by decide)).trans (f4 e)), (fun e => (eval_put_other' _ _ (by decide)).trans (f5 e)), (fun e => (eval_put_other' _ _ (by decide)).trans (f6 e)), (fun e => (eval_put_other' _ _ (by decide)).trans (f7 e)), (fun e => (eval_put_other' _ _ (by decide)).trans (f8 e)), (fun e => (eval_put_other' _ _ (by decide)).trans (f9 e)), (fun e => (eval_put_other' _ _ (by decide)).trans (f10 e)), (fun e => (eval_put_other' _ _ (by decide)).trans (f11 e)), (fun e => (eval_put_other' _ _ (by decide)).trans (f14 e)), d12_5, d13_12, d12_11, d12_10, d13_11, d13_10, d6_5, d7_5, d8_5, d9_5, d14_5⟩
    · have st0 := st
      refine o4.loadA Tryz.underlying25 Tryz.rpatchSize ((show _ = a1.eval _ from by simp only [Act.eval, Array.getD_eq_getD_getElem?, so.out 3 (by decide)]).trans e3) (hq3.later st.later) ?_
      exact ⟨D, (so.put (by decide) _), st, (fun e => (eval_put_other' _ _ (by decide)).trans (f0 e)), (fun e => (eval_put_other' _ _ (by decide)).trans (f1 e)), (fun e => (eval_put_other' _ _ (by decide)).trans (f2 e)), (fun e => (eval_put_other' _ _ (by decide)).trans (f3 e)), (fun _ => eval_put_same' _ _ _ (by rw [so.size]; show (24 : Nat) < _; omega)), (fun e => (eval_put_other' _ _ (by decide)).trans (f5 e)), (fun e => (eval_put_other' _ _ (by decide)).trans (f6 e)), (fun e => (eval_put_other' _ _ (by decide)).trans (f7 e)), (fun e => (eval_put_other' _ _ (by decide)).trans (f8 e)), (fun e => (eval_put_other' _ _ (by decide)).trans (f9 e)), (fun e => (eval_put_other' _ _ (by decide)).trans (f10 e)), (fun e => (eval_put_other' _ _ (by decide)).trans (f11 e)), (fun e => (eval_put_other' _ _ (by decide)).trans (f14 e)), d12_5, d13_12, d12_11, d12_10, d13_11, d13_10, d6_5, d7_5, d8_5, d9_5, d14_5⟩
    · have ws := o5.waits ho hwait
      have w3 := ws 3 (by simp)
      have w4 := ws 4 (by simp)
      have n12 : l 12 = false := by cases hx : l 12 with | false => rfl | true => have := d12_5 hx; rw [hl] at this; cases this
      have n13 : l 13 = false := by cases hx : l 13 with | false => rfl | true => have := d13_12 hx; rw [n12] at this; cases this
      have n6 : l 6 = false := by cases hx : l 6 with | false => rfl | true => have := d6_5 hx; rw [hl] at this; cases this
      have n7 : l 7 = false := by cases hx : l 7 with | false => rfl | true => have := d7_5 hx; rw [hl] at this; cases this
      have n8 : l 8 = false := by cases hx : l 8 with | false => rfl | true => have := d8_5 hx; rw [hl] at this; cases this
      have n9 : l 9 = false := by cases hx : l 9 with | false => rfl | true => have := d9_5 hx; rw [hl] at this; cases this
      have n14 : l 14 = false := by cases hx : l 14 with | false => rfl | true => have := d14_5 hx; rw [hl] at this; cases this
      have st0 : TwS 25 wx r (fun y z => ∀ k, k < wx.heap.size -> AwayN k x -> AwayN k q -> AwayN k y /\ AwayN k z) (l 10) (l 11) 0 D w := by
        have hst := st
        simp only [hl, n12, n13, Bool.false_eq_true, if_false] at hst
        exact hst
      refine o5.call2 (enters_of Tryz.func11 (by kernel_rfl) rfl) (f3 w3) (f4 w4) (refSwap7_any x q w (okx.later st0.later) (okq.later st0.later)) ?_
      rw [hr]
      rintro e w' ⟨y, z, rfl, oy, oz, hl', hno, hv', haw⟩
      have st1 := st0.swap hl' oy oz hno hv' (fun k h1 h2 => haw k h2 (okx.away h1) (okq.away h1)) (fun k hk => haw k (Nat.lt_of_lt_of_le hk st0.later.le))
      have st2 : TwS 25 wx r (fun y z => ∀ k, k < wx.heap.size -> AwayN k x -> AwayN k q -> AwayN k y /\ AwayN k z) ((more l 5) 10) ((more l 5) 11) (if (more l 5) 13 = true then 3 else (if (more l 5) 12 = true then 2 else (if (more l 5) 5 = true then 1 else 0))) ({ D with y := y, z := z, t := r.isSome }) w' := by
        rw [if_neg (show ¬ (more l 5 13 = true) from by rw [show more l 5 13 = l 13 from rfl, n13]; simp), if_neg (show ¬ (more l 5 12 = true) from by rw [show more l 5 12 = l 12 from rfl, n12]; simp), if_pos (show more l 5 5 = true from rfl)]
        exact st1
      exact ⟨_, rfl, ⟨{ D with y := y, z := z, t := r.isSome }, (so.put (by decide) _), st2, (fun e => (eval_put_other' _ _ (by decide)).trans (f0 e)), (fun e => (eval_put_other' _ _ (by decide)).trans (f1 e)), (fun e => (eval_put_other' _ _ (by decide)).trans (f2 e)), (fun e => (eval_put_other' _ _ (by decide)).trans (f3 e)), (fun e => (eval_put_other' _ _ (by decide)).trans (f4 e)), (fun _ => eval_put_same' _ _ _ (by rw [so.size]; show (25 : Nat) < _; omega)), (fun e => by rw [show more l 5 6 = l 6 from rfl, n6] at e; cases e), (fun e => by rw [show more l 5 7 = l 7 from rfl, n7] at e; cases e), (fun e => by rw [show more l 5 8 = l 8 from rfl, n8] at e; cases e), (fun e => by rw [show more l 5 9 = l 9 from rfl, n9] at e; cases e), (fun e => (eval_put_other' _ _ (by decide)).trans (f10 e)), (fun e => (eval_put_other' _ _ (by decide)).trans (f11 e)), (fun e => by rw [show more l 5 14 = l 14 from rfl, n14] at e; cases e), (fun _ => rfl), d13_12, d12_11, d12_10, d13_11, d13_10, (fun _ => rfl), (fun _ => rfl), (fun _ => rfl), (fun _ => rfl), (fun _ => rfl)⟩⟩
    · have ws := o6.waits ho hwait
      have w5 := ws 5 (by simp)
      have st0 := st
      refine o6.move ?_
      rw [f5 w5]
      exact ⟨D, (so.put (by decide) _), st, (fun e => (eval_put_other' _ _ (by decide)).trans (f0 e)), (fun e => (eval_put_other' _ _ (by decide)).trans (f1 e)), (fun e => (eval_put_other' _ _ (by decide)).trans (f2 e)), (fun e => (eval_put_other' _ _ (by decide)).trans (f3 e)), (fun e => (eval_put_other' _ _ (by decide)).trans (f4 e)), (fun e => (eval_put_other' _ _ (by decide)).trans (f5 e)), (fun _ => eval_put_same' _ _ _ (by rw [so.size]; show (19 : Nat) < _; omega)), (fun e => (eval_put_other' _ _ (by decide)).trans (f7 e)), (fun e => (eval_put_other' _ _ (by decide)).trans (f8 e)), (fun e => (eval_put_other' _ _ (by decide)).trans (f9 e)), (fun e => (eval_put_other' _ _ (by decide)).trans (f10 e)), (fun e => (eval_put_other' _ _ (by decide)).trans (f11 e)), (fun e => (eval_put_other' _ _ (by decide)).trans (f14 e)), d12_5, d13_12, d12_11, d12_10, d13_11, d13_10, (fun _ => w5), d7_5, d8_5, d9_5, d14_5⟩
    · have ws := o7.waits ho hwait
      have w6 := ws 6 (by simp)
      have w5 := d6_5 w6
      have st0 := st
      refine o7.extract (f6 w6) rfl ?_
      exact ⟨D, (so.put (by decide) _), st, (fun e => (eval_put_other' _ _ (by decide)).trans (f0 e)), (fun e => (eval_put_other' _ _ (by decide)).trans (f1 e)), (fun e => (eval_put_other' _ _ (by decide)).trans (f2 e)), (fun e => (eval_put_other' _ _ (by decide)).trans (f3 e)), (fun e => (eval_put_other' _ _ (by decide)).trans (f4 e)), (fun e => (eval_put_other' _ _ (by decide)).trans (f5 e)), (fun e => (eval_put_other' _ _ (by decide)).trans (f6 e)), (fun _ => eval_put_same' _ _ _ (by rw [so.size]; show (26 : Nat) < _; omega)), (fun e => (eval_put_other' _ _ (by decide)).trans (f8 e)), (fun e => (eval_put_other' _ _ (by decide)).trans (f9 e)), (fun e => (eval_put_other' _ _ (by decide)).trans (f10 e)), (fun e => (eval_put_other' _ _ (by decide)).trans (f11 e)), (fun e => (eval_put_other' _ _ (by decide)).trans (f14 e)), d12_5, d13_12, d12_11, d12_10, d13_11, d13_10, d6_5, (fun _ => w5), d8_5, d9_5, d14_5⟩
    · have ws := o8.waits ho hwait
      have w6 := ws 6 (by simp)
      have w5 := d6_5 w6
      have st0 := st
      refine o8.extract (f6 w6) rfl ?_
      exact ⟨D, (so.put (by decide) _), st, (fun e => (eval_put_other' _ _ (by decide)).trans (f0 e)), (fun e => (eval_put_other' _ _ (by decide)).trans (f1 e)), (fun e => (eval_put_other' _ _ (by decide)).trans (f2 e)), (fun e => (eval_put_other' _ _ (by decide)).trans (f3 e)), (fun e => (eval_put_other' _ _ (by decide)).trans (f4 e)), (fun e => (eval_put_other' _ _ (by decide)).trans (f5 e)), (fun e => (eval_put_other' _ _ (by decide)).trans (f6 e)), (fun e => (eval_put_other' _ _ (by decide)).trans (f7 e)), (fun _ => eval_put_same' _ _ _ (by rw [so.size]; show (27 : Nat) < _; omega)), (fun e => (eval_put_other' _ _ (by decide)).trans (f9 e)), (fun e => (eval_put_other' _ _ (by decide)).trans (f10 e)), (fun e => (eval_put_other' _ _ (by decide)).trans (f11 e)), (fun e => (eval_put_other' _ _ (by decide)).trans (f14 e)), d12_5, d13_12, d12_11, d12_10, d13_11, d13_10, d6_5, d7_5, (fun _ => w5), d9_5, d14_5⟩
    · have ws := o9.waits ho hwait
      have w6 := ws 6 (by simp)
      have w5 := d6_5 w6
      have st0 := st
      refine o9.extract (f6 w6) rfl ?_
      exact ⟨D, (so.put (by decide) _), st, (fun e => (eval_put_other' _ _ (by decide)).trans (f0 e)), (fun e => (eval_put_other' _ _ (by decide)).trans (f1 e)), (fun e => (eval_put_other' _ _ (by decide)).trans (f2 e)), (fun e => (eval_put_other' _ _ (by decide)).trans (f3 e)), (fun e => (eval_put_other' _ _ (by decide)).trans (f4 e)), (fun e => (eval_put_other' _ _ (by decide)).trans (f5 e)), (fun e => (eval_put_other' _ _ (by decide)).trans (f6 e)), (fun e => (eval_put_other' _ _ (by decide)).trans (f7 e)), (fun e => (eval_put_other' _ _ (by decide)).trans (f8 e)), (fun _ => eval_put_same' _ _ _ (by rw [so.size]; show (28 : Nat) < _; omega)), (fun e => (eval_put_other' _ _ (by decide)).trans (f10 e)), (fun e => (eval_put_other' _ _ (by decide)).trans (f11 e)), (fun e => (eval_put_other' _ _ (by decide)).trans (f14 e)), d12_5, d13_12, d12_11, d12_10, d13_11, d13_10, d6_5, d7_5, d8_5, (fun _ => w5), d14_5⟩
    · have n12 : l 12 = false := by cases hx : l 12 with | false => rfl | true => have := d12_10 hx; rw [hl] at this; cases this
      have n13 : l 13 = false := by cases hx : l 13 with | false => rfl | true => have := d13_10 hx; rw [hl] at this; cases this
      have st0 := st
      refine o10.allocRN ?_
      have st1 := TwS.alloc8 (by rw [hl] at st0; exact st0) (by
        simp only [n12, n13, Bool.false_eq_true, if_false]
        split <;> omega)
      have st2 : TwS 25 wx r (fun y z => ∀ k, k < wx.heap.size -> AwayN k x -> AwayN k q -> AwayN k y /\ AwayN k z) ((more l 10) 10) ((more l 10) 11) (if (more l 10) 13 = true then 3 else (if (more l 10) 12 = true then 2 else (if (more l 10) 5 = true then 1 else 0))) ({ D with g8 := w.heap.size }) (w.alloc (.cells zeroNL 25)) := st1
      exact ⟨{ D with g8 := w.heap.size }, (so.put (by decide) _), st2, (fun e => (eval_put_other' _ _ (by decide)).trans (f0 e)), (fun e => (eval_put_other' _ _ (by decide)).trans (f1 e)), (fun e => (eval_put_other' _ _ (by decide)).trans (f2 e)), (fun e => (eval_put_other' _ _ (by decide)).trans (f3 e)), (fun e => (eval_put_other' _ _ (by decide)).trans (f4 e)), (fun e => (eval_put_other' _ _ (by decide)).trans (f5 e)), (fun e => (eval_put_other' _ _ (by decide)).trans (f6 e)), (fun e => (eval_put_other' _ _ (by decide)).trans (f7 e)), (fun e => (eval_put_other' _ _ (by decide)).trans (f8 e)), (fun e => (eval_put_other' _ _ (by decide)).trans (f9 e)), (fun _ => eval_put_same' _ _ _ (by rw [so.size]; show (9 : Nat) < _; omega)), (fun e => (eval_put_other' _ _ (by decide)).trans (f11 e)), (fun e => (eval_put_other' _ _ (by decide)).trans (f14 e)), d12_5, d13_12, d12_11, (fun _ => rfl), d13_11, (fun _ => rfl), d6_5, d7_5, d8_5, d9_5, d14_5⟩
    · have n12 : l 12 = false := by cases hx : l 12 with | false => rfl | true => have := d12_11 hx; rw [hl] at this; cases this
      have n13 : l 13 = false := by cases hx : l 13 with | false => rfl | true => have := d13_11 hx; rw [hl] at this; cases this
      have st0 := st
      refine o11.allocRN ?_
      have st1 := TwS.alloc9 (by rw [hl] at st0; exact st0) (by
        simp only [n12, n13, Bool.false_eq_true, if_false]
        split <;> omega)
      have st2 : TwS 25 wx r (fun y z => ∀ k, k < wx.heap.size -> AwayN k x -> AwayN k q -> AwayN k y /\ AwayN k z) ((more l 11) 10) ((more l 11) 11) (if (more l 11) 13 = true then 3 else (if (more l 11) 12 = true then 2 else (if (more l 11) 5 = true then 1 else 0))) ({ D with g9 := w.heap.size }) (w.alloc (.cells zeroNL 25)) := st1
      exact ⟨{ D with g9 := w.heap.size }, (so.put (by decide) _), st2, (fun e => (eval_put_other' _ _ (by decide)).trans (f0 e)), (fun e => (eval_put_other' _ _ (by decide)).trans (f1 e)), (fun e => (eval_put_other' _ _ (by decide)).trans (f2 e)), (fun e => (eval_put_other' _ _ (by decide)).trans (f3 e)), (fun e => (eval_put_other' _ _ (by decide)).trans (f4 e)), (fun e => (eval_put_other' _ _ (by decide)).trans (f5 e)), (fun e => (eval_put_other' _ _ (by decide)).trans (f6 e)), (fun e => (eval_put_other' _ _ (by decide)).trans (f7 e)), (fun e => (eval_put_other' _ _ (by decide)).trans (f8 e)), (fun e => (eval_put_other' _ _ (by decide)).trans (f9 e)), (fun e => (eval_put_other' _ _ (by decide)).trans (f10 e)), (fun _ => eval_put_same' _ _ _ (by rw [so.size]; show (10 : Nat) < _; omega)), (fun e => (eval_put_other' _ _ (by decide)).trans (f14 e)), d12_5, d13_12, (fun _ => rfl), d12_10, (fun _ => rfl), d13_10, d6_5, d7_5, d8_5, d9_5, d14_5⟩
    · have ws := o12.waits ho hwait
      have w10 := ws 10 (by simp)
      have w7 := ws 7 (by simp)
      have w5 := ws 5 (by simp)
      have w11 := ws 11 (by simp)
      have n13 : l 13 = false := by cases hx : l 13 with | false => rfl | true => have := d13_12 hx; rw [hl] at this; cases this
      have st0 : TwS 25 wx r (fun y z => ∀ k, k < wx.heap.size -> AwayN k x -> AwayN k q -> AwayN k y /\ AwayN k z) true true 1 D w := by
        have hst := st
        rw [w10] at hst
        rw [w11] at hst
        simp only [hl, n13, Bool.false_eq_true, if_false, if_true, w5] at hst
        exact hst
      obtain ⟨_, cs, hcs, hbx, _⟩ := st0.b8 rfl
      refine o12.storeA Tryz.rpatchSize (f10 w10) (f7 w7) hbx hcs ?_
      intro w' hb' ht'
      have st1 := st0.st8 hb' ht'
      have st2 : TwS 25 wx r (fun y z => ∀ k, k < wx.heap.size -> AwayN k x -> AwayN k q -> AwayN k y /\ AwayN k z) ((more l 12) 10) ((more l 12) 11) (if (more l 12) 13 = true then 3 else (if (more l 12) 12 = true then 2 else (if (more l 12) 5 = true then 1 else 0))) (D) w' := by
        rw [show more l 12 10 = true from w10, show more l 12 11 = true from w11, if_neg (show ¬ (more l 12 13 = true) from by rw [show more l 12 13 = l 13 from rfl, n13]; simp), if_pos (show more l 12 12 = true from rfl)]
        exact st1
      exact ⟨D, so, st2, f0, f1, f2, f3, f4, f5, f6, f7, f8, f9, f10, f11, f14, (fun _ => w5), (fun _ => rfl), (fun _ => w11), (fun _ => w10), d13_11, d13_10, d6_5, d7_5, d8_5, d9_5, d14_5⟩
    · have ws := o13.waits ho hwait
      have w11 := ws 11 (by simp)
      have w8 := ws 8 (by simp)
      have w12 := ws 12 (by simp)
      have w10 := ws 10 (by simp)
      have w5 := d12_5 w12
      have st0 : TwS 25 wx r (fun y z => ∀ k, k < wx.heap.size -> AwayN k x -> AwayN k q -> AwayN k y /\ AwayN k z) true true 2 D w := by
        have hst := st
        rw [w10] at hst
        rw [w11] at hst
        simp only [hl, Bool.false_eq_true, if_false, if_true, w12] at hst
        exact hst
      obtain ⟨_, cs, hcs, hbx, _⟩ := st0.b9 rfl
      refine o13.storeA Tryz.rpatchSize (f11 w11) (f8 w8) hbx hcs ?_
      intro w' hb' ht'
      have st1 := st0.st9 hb' ht'
      have st2 : TwS 25 wx r (fun y z => ∀ k, k < wx.heap.size -> AwayN k x -> AwayN k q -> AwayN k y /\ AwayN k z) ((more l 13) 10) ((more l 13) 11) (if (more l 13) 13 = true then 3 else (if (more l 13) 12 = true then 2 else (if (more l 13) 5 = true then 1 else 0))) (D) w' := by
        rw [show more l 13 10 = true from w10, show more l 13 11 = true from w11, if_pos (show more l 13 13 = true from rfl)]
        exact st1
      exact ⟨D, so, st2, f0, f1, f2, f3, f4, f5, f6, f7, f8, f9, f10, f11, f14, d12_5, (fun _ => w12), d12_11, d12_10, (fun _ => w11), (fun _ => w10), d6_5, d7_5, d8_5, d9_5, d14_5⟩
    · have ws := o14.waits ho hwait
      have w9 := ws 9 (by simp)
      have w5 := d9_5 w9
      have st0 := st
      refine o14.assign ?_
      rw [f9 w9]
      exact ⟨D, (so.put (by decide) _), st, (fun e => (eval_put_other' _ _ (by decide)).trans (f0 e)), (fun e => (eval_put_other' _ _ (by decide)).trans (f1 e)), (fun e => (eval_put_other' _ _ (by decide)).trans (f2 e)), (fun e => (eval_put_other' _ _ (by decide)).trans (f3 e)), (fun e => (eval_put_other' _ _ (by decide)).trans (f4 e)), (fun e => (eval_put_other' _ _ (by decide)).trans (f5 e)), (fun e => (eval_put_other' _ _ (by decide)).trans (f6 e)), (fun e => (eval_put_other' _ _ (by decide)).trans (f7 e)), (fun e => (eval_put_other' _ _ (by decide)).trans (f8 e)), (fun e => (eval_put_other' _ _ (by decide)).trans (f9 e)), (fun e => (eval_put_other' _ _ (by decide)).trans (f10 e)), (fun e => (eval_put_other' _ _ (by decide)).trans (f11 e)), (fun _ => eval_put_same' _ _ _ (by rw [so.size]; show (11 : Nat) < _; omega)), d12_5, d13_12, d12_11, d12_10, d13_11, d13_10, d6_5, d7_5, d8_5, d9_5, (fun _ => w5)⟩
  · intro l a w hall ⟨D, so, st, f0, f1, f2, f3, f4, f5, f6, f7, f8, f9, f10, f11, f14, d12_5, d13_12, d12_11, d12_10, d13_11, d13_10, d6_5, d7_5, d8_5, d9_5, d14_5⟩
    rw [hn] at hall
    have hst : TwS 25 wx r (fun y z => ∀ k, k < wx.heap.size -> AwayN k x -> AwayN k q -> AwayN k y /\ AwayN k z) true true 3 D w := by
      have hst := st
      rw [hall 10 (by decide)] at hst
      rw [hall 11 (by decide)] at hst
      simp only [hall 13 (by decide), if_true] at hst
      exact hst
    exact hend D a w so (f10 (hall 10 (by decide))) (f11 (hall 11 (by decide))) (f14 (hall 14 (by decide))) hst
  · have h0 : TwS 25 wx r (fun y z => ∀ k, k < wx.heap.size -> AwayN k x -> AwayN k q -> AwayN k y /\ AwayN k z) false false 0 ⟨zeroN, zeroN, false, 0, 0⟩ { wx with drawn := wx.drawn + 1 } := TwS.start
    exact ⟨⟨zeroN, zeroN, false, 0, 0⟩, SameOut.refl _ _, h0, (fun e => by cases e), (fun e => by cases e), (fun e => by cases e), (fun e => by cases e), (fun e => by cases e), (fun e => by cases e), (fun e => by cases e), (fun e => by cases e), (fun e => by cases e), (fun e => by cases e), (fun e => by cases e), (fun e => by cases e), (fun e => by cases e), (fun e => by cases e), (fun e => by cases e), (fun e => by cases e), (fun e => by cases e), (fun e => by cases e), (fun e => by cases e), (fun e => by cases e), (fun e => by cases e), (fun e => by cases e), (fun e => by cases e), (fun e => by cases e)⟩

end Go.Proofs.YtlnjhimbgckdcaaGreat

/-
  The statement of the document's own Group that puts a patch behind a row: a new row, in whatever order its operations come.
-/
namespace Go.Proofs.YtlnjhimbgckdcaaGreat
open Go.RowKit Go.Maps

section
variable {ops : Array Oper} {Q : Exit -> Act -> World -> Prop} {K : Act -> World -> Prop} {i : Nat} {dst : Option Tmp} {js : List Nat} {a : Act} {w : World}
theorem OpIs.build1RN {k : Tmp} {x : PaC} (h : OpIs ops i (.buildSlice 39 1 #[(0, .tmp k)]) dst js) (hv : a.eval (.tmp k) = paV x) (hk : K (a.put dst (.slice (some ⟨w.heap.size, 0, none⟩) 1 1)) (w.alloc (.cells (paL x).toArray 25))) : wpOp Tryz.prog ops Q i K a w :=
  h.go fun o h1 h2 => by
    have hr : (execOp a.eval o).run Tryz.prog w = .ok (.value (.slice (some ⟨w.heap.size, 0, none⟩) 1 1)) (w.alloc (.cells (paL x).toArray 25)) := by
      unfold paV at hv
      unfold execOp
      rw [h1]
      simp only [hv, List.map_toArray, List.map_cons, List.map_nil]
      go_simp
      rfl
    unfold Oper.wp
    rw [hr]
    show K _ _
    rw [h2]
    exact hk
theorem OpIs.appendV {P : Program} {j k : Tmp} {t s : TypeId} {v u : Value} (h : OpIs ops i (.call { callee := .builtin .append, args := #[.tmp j, .tmp k], argTypes := #[t, s] }) dst js) (hj : a.eval (.tmp j) = v) (hv : a.eval (.tmp k) = u)
    (hk : ∀ ty, ∃ v' w', (Builtin.append_ #[t, s] ty #[v, u]).run P w = .ok v' w' /\ K (a.put dst v') w') : wpOp P ops Q i K a w :=
  h.go fun o h1 h2 => by
    obtain ⟨v', w', hrun, ho⟩ := hk o.type
    unfold Oper.wp execOp
    simp only [h1, resolve, invoke, builtin, Sem.run_bind, Sem.run_pure, Result.andThen_ok, List.map_toArray, List.map_cons, List.map_nil, hj, hv, hrun]
    show K _ _
    rw [h2]
    exact ho
end
theorem SameOut.ev {a1 a : Act} {ds : List Nat} (h : SameOut a1 a ds) {k : Nat} (hk : k ∉ ds) : a.eval (.tmp k) = a1.eval (.tmp k) := by
  simp only [Act.eval, Array.getD_eq_getD_getElem?, h.out k hk]
def Closed (l : Nat -> Bool) : Prop := (l 2 = true -> l 0 = true /\ l 1 = true) /\ (l 5 = true -> l 3 = true /\ l 4 = true) /\ (l 6 = true -> l 5 = true) /\ (l 7 = true -> l 6 = true) /\ (l 8 = true -> l 2 = true /\ l 7 = true) /\ (l 9 = true -> l 8 = true)
theorem Closed.all {l : Nat -> Bool} (h : Closed l) (h8 : l 8 = true) : ∀ i, i < 9 -> l i = true := by
  obtain ⟨c2, c5, c6, c7, c8, _⟩ := h
  have h2 := (c8 h8).1; have h7 := (c8 h8).2; have h6 := c7 h7; have h5 := c6 h6
  intro i hi
  match i, hi with
  | 0, _ => exact (c2 h2).1
  | 1, _ => exact (c2 h2).2
  | 2, _ => exact h2
  | 3, _ => exact (c5 h5).1
  | 4, _ => exact (c5 h5).2
  | 5, _ => exact h5
  | 6, _ => exact h6
  | 7, _ => exact h7
  | 8, _ => exact h8
theorem Closed.add {l : Nat -> Bool} {i : Nat} (h : Closed l) (h2 : i = 2 -> l 0 = true /\ l 1 = true) (h5 : i = 5 -> l 3 = true /\ l 4 = true) (h6 : i = 6 -> l 5 = true) (h7 : i = 7 -> l 6 = true) (h8 : i = 8 -> l 2 = true /\ l 7 = true) (h9 : i = 9 -> l 8 = true) : Closed (more l i) := by
  have key : ∀ j, l j = true -> more l i j = true := fun j hj => by
    by_cases e : j = i
    · subst e; exact more_same l j
    · rw [more_other l e]; exact hj
  have back : ∀ j, more l i j = true -> i = j ∨ l j = true := fun j hj => by
    by_cases e : j = i
    · exact .inl e.symm
    · rw [more_other l e] at hj; exact .inr hj
  obtain ⟨c2, c5, c6, c7, c8, c9⟩ := h
  refine ⟨fun e => ?_, fun e => ?_, fun e => ?_, fun e => ?_, fun e => ?_, fun e => ?_⟩ <;> rcases back _ e with e | e
  · exact ⟨key _ (h2 e).1, key _ (h2 e).2⟩
  · exact ⟨key _ (c2 e).1, key _ (c2 e).2⟩
  · exact ⟨key _ (h5 e).1, key _ (h5 e).2⟩
  · exact ⟨key _ (c5 e).1, key _ (c5 e).2⟩
  · exact key _ (h6 e)
  · exact key _ (c6 e)
  · exact key _ (h7 e)
  · exact key _ (c7 e)
  · exact ⟨key _ (h8 e).1, key _ (h8 e).2⟩
  · exact ⟨key _ (c8 e).1, key _ (c8 e).2⟩
  · exact key _ (h9 e)
  · exact key _ (c9 e)

end Go.Proofs.YtlnjhimbgckdcaaGreat

/-
  What the document's own All of patches comes to, as a call.
-/
namespace Go.Proofs.YtlnjhimbgckdcaaGreat
open Go.RowKit Go.Maps

def rall_region_R (x y : PaC) (ba oa bb ob n ca cb k : Nat) : Nat -> Value -> World -> Prop
  | 0, v, _ => v = .slice (some ⟨ba, oa, none⟩) n ca
  | 1, v, _ => v = .int .i64 (k : Nat)
  | 2, v, _ => v = .pointer (some ⟨ba, oa + k * 4, none⟩)
  | 3, v, _ => v = paV x
  | 4, v, _ => v = .slice (some ⟨bb, ob, none⟩) n cb
  | 5, v, _ => v = .int .i64 (k : Nat)
  | 6, v, _ => v = .pointer (some ⟨bb, ob + k * 4, none⟩)
  | 7, v, _ => v = paV y
  | 8, v, _ => v = .bool (sameN x.v y.v)
  | 9, v, _ => v = .bool (!(sameN x.v y.v))
  | _, _, _ => True
set_option maxRecDepth 100000 in
set_option maxHeartbeats 1600000 in
theorem rall_region {ops : Array Oper} (hn : ops.size = 10) (hg : goesBack ops = true)
    (o0 : OpIs ops 0 (.move (.tmp 0)) (some 17) [])
    (o1 : OpIs ops 1 (.move (.tmp 5)) (some 18) [])
    (o2 : OpIs ops 2 (.indexAddr 39 (.tmp 17) (.tmp 18)) (some 19) [0, 1])
    (o3 : OpIs ops 3 (.load 25 (.tmp 19)) (some 20) [2])
    (o4 : OpIs ops 4 (.move (.tmp 1)) (some 21) [])
    (o5 : OpIs ops 5 (.move (.tmp 5)) (some 22) [])
    (o6 : OpIs ops 6 (.indexAddr 39 (.tmp 21) (.tmp 22)) (some 23) [4, 5])
    (o7 : OpIs ops 7 (.load 25 (.tmp 23)) (some 24) [6])
    (o8 : OpIs ops 8 (.call { callee := .value (.func 12), args := #[.tmp 20, .tmp 24], argTypes := #[25, 25] }) (some 25) [3, 7])
    (o9 : OpIs ops 9 (.unOp .not 4 (.tmp 25)) (some 26) [8])
    {a1 : Act} (hs : 27 <= a1.tmps.size) {wx : World} {x y : PaC} {xs ys : List PaC} {ba oa bb ob n ca cb k : Nat} (e0 : a1.eval (.tmp 0) = .slice (some ⟨ba, oa, none⟩) n ca) (e1 : a1.eval (.tmp 1) = .slice (some ⟨bb, ob, none⟩) n cb) (e5 : a1.eval (.tmp 5) = .int .i64 (k : Nat)) (hra : RowK 4 wx (some ⟨ba, oa, none⟩) n (xs.map paL)) (hrb : RowK 4 wx (some ⟨bb, ob, none⟩) n (ys.map paL)) (hx : xs[k]? = some x) (hy : ys[k]? = some y) (okx : PaOk wx x) (oky : PaOk wx y) (hk : k < n)
    {Q : Exit -> Act -> World -> Prop} {id : Nat} (hend : ∀ (a : Act) (w : World), SameOut a1 a [17, 18, 19, 20, 21, 22, 23, 24, 25, 26] -> Later wx w -> a.eval (.tmp 26) = .bool (!(sameN x.v y.v)) -> Q .normal a w) :
    (Code.region id ops true).wp Tryz.prog Q a1 wx := by
  refine region_reads (n := 10) (by kernel_rfl) hg hn [17, 18, 19, 20, 21, 22, 23, 24, 25, 26] (by decide +kernel) rfl (fun d hd => ?_) (rall_region_R x y ba oa bb ob n ca cb k) ?_ ?_
  · have : d < 27 := by
      have h : ∀ d ∈ ([17, 18, 19, 20, 21, 22, 23, 24, 25, 26] : List Nat), d < 27 := by decide +kernel
      exact h d hd
    omega
  · intro l a w i o K ho hi hwait so hl0 F hK
    have hc : i = 0 ∨ i = 1 ∨ i = 2 ∨ i = 3 ∨ i = 4 ∨ i = 5 ∨ i = 6 ∨ i = 7 ∨ i = 8 ∨ i = 9 := by omega
    rcases hc with rfl | rfl | rfl | rfl | rfl | rfl | rfl | rfl | rfl | rfl
    · refine o0.move ?_
      rw [show a.eval (.tmp 0) = .slice (some ⟨ba, oa, none⟩) n ca from ((show _ = a1.eval _ from by simp only [Act.eval, Array.getD_eq_getD_getElem?, so.out 0 (by decide)]).trans e0)]
      exact hK _ _ (Later.refl w) rfl
    · refine o1.move ?_
      rw [show a.eval (.tmp 5) = .int .i64 (k : Nat) from ((show _ = a1.eval _ from by simp only [Act.eval, Array.getD_eq_getD_getElem?, so.out 5 (by decide)]).trans e5)]
      exact hK _ _ (Later.refl w) rfl
    · have ws := o2.waits ho hwait
      have f0 : a.eval (.tmp 17) = .slice (some ⟨ba, oa, none⟩) n ca := by obtain ⟨_, _, _, h⟩ := F 0 (ws 0 (by simp)) (by decide); exact h
      have f1 : a.eval (.tmp 18) = .int .i64 (k : Nat) := by obtain ⟨_, _, _, h⟩ := F 1 (ws 1 (by simp)) (by decide); exact h
      refine o2.indexRN f0 f1 (by omega) ?_
      exact hK _ _ (Later.refl w) rfl
    · have ws := o3.waits ho hwait
      have f2 : a.eval (.tmp 19) = .pointer (some ⟨ba, oa + k * 4, none⟩) := by obtain ⟨_, _, _, h⟩ := F 2 (ws 2 (by simp)) (by decide); exact h
      refine o3.loadRNs f2 (hra.later hl0) hx ?_
      exact hK _ _ (Later.refl w) rfl
    · refine o4.move ?_
      rw [show a.eval (.tmp 1) = .slice (some ⟨bb, ob, none⟩) n cb from ((show _ = a1.eval _ from by simp only [Act.eval, Array.getD_eq_getD_getElem?, so.out 1 (by decide)]).trans e1)]
      exact hK _ _ (Later.refl w) rfl
    · refine o5.move ?_
      rw [show a.eval (.tmp 5) = .int .i64 (k : Nat) from ((show _ = a1.eval _ from by simp only [Act.eval, Array.getD_eq_getD_getElem?, so.out 5 (by decide)]).trans e5)]
      exact hK _ _ (Later.refl w) rfl
    · have ws := o6.waits ho hwait
      have f4 : a.eval (.tmp 21) = .slice (some ⟨bb, ob, none⟩) n cb := by obtain ⟨_, _, _, h⟩ := F 4 (ws 4 (by simp)) (by decide); exact h
      have f5 : a.eval (.tmp 22) = .int .i64 (k : Nat) := by obtain ⟨_, _, _, h⟩ := F 5 (ws 5 (by simp)) (by decide); exact h
      refine o6.indexRN f4 f5 (by omega) ?_
      exact hK _ _ (Later.refl w) rfl
    · have ws := o7.waits ho hwait
      have f6 : a.eval (.tmp 23) = .pointer (some ⟨bb, ob + k * 4, none⟩) := by obtain ⟨_, _, _, h⟩ := F 6 (ws 6 (by simp)) (by decide); exact h
      refine o7.loadRNs f6 (hrb.later hl0) hy ?_
      exact hK _ _ (Later.refl w) rfl
    · have ws := o8.waits ho hwait
      have f3 : a.eval (.tmp 20) = paV x := by obtain ⟨_, _, _, h⟩ := F 3 (ws 3 (by simp)) (by decide); exact h
      have f7 : a.eval (.tmp 24) = paV y := by obtain ⟨_, _, _, h⟩ := F 7 (ws 7 (by simp)) (by decide); exact h
      refine o8.call2 (enters_of Tryz.func12 (by kernel_rfl) rfl) f3 f7 (refSame7_any x y w (okx.later hl0) (oky.later hl0)) ?_
      rintro e w' ⟨rfl, hl'⟩
      exact ⟨_, rfl, hK _ _ hl' rfl⟩
    · have ws := o9.waits ho hwait
      have f8 : a.eval (.tmp 25) = .bool (sameN x.v y.v) := by obtain ⟨_, _, _, h⟩ := F 8 (ws 8 (by simp)) (by decide); exact h
      refine o9.notB f8 ?_
      exact hK _ _ (Later.refl w) rfl
  · intro a w so hl F
    exact hend a w so hl (by obtain ⟨_, _, _, h⟩ := F 9 rfl (by decide); exact h)

theorem valsN_same {xs ys : List PaC} {k : Nat} {x y : PaC} (hx : xs[k]? = some x) (hy : ys[k]? = some y) (h : (valsN xs).take k = (valsN ys).take k) (e : x.v = y.v) : (valsN xs).take (k + 1) = (valsN ys).take (k + 1) := by
  rw [valsN_take hx, valsN_take hy, h, e]
theorem falseOf {b : Bool} {p : Prop} (h : b = true ↔ p) (hn : ¬ p) : b = false := by
  cases b with
  | false => rfl
  | true => exact absurd (h.1 rfl) hn
set_option maxRecDepth 100000 in
set_option maxHeartbeats 1600000 in
theorem refAll7_any (A B : Option Addr) (n c m d : Nat) (xs ys : List PaC) (w : World) (hx : NsOk w A n xs) (hy : NsOk w B m ys) (hn : n <= 65536) (hm : m <= 65536) (b : Bool) (hb : b = true ↔ valsN xs = valsN ys) : Calls Tryz.prog 18 #[.slice A n c, .slice B m d] w (Says b w) := by
  by_cases hnm : n = m
  · subst hnm
    have hlx := hx.len; have hly := hy.len
    have HX := Lib.hid hx; have HY := Lib.hid hy
    clear hx hy
    go_enter Tryz.func18, Tryz.ntmps18
    go_wp2
    go_loopg [5] (n + 1) (fun g s5 wr => ∃ k : Nat, k <= n /\ n - k <= g /\ s5 = .int .i64 k /\ Hid (Later w wr) /\ Hid ((valsN xs).take k = (valsN ys).take k))
    case atStart => exact ⟨0, Nat.zero_le _, by omega, rfl, Later.refl w, by simp [Hid]⟩
    case round =>
      obtain ⟨k, hk, hg, rfl, hwr, heq⟩ := hrel
      by_cases hlt : k < n
      · obtain ⟨ba, oa, x, rfl, hzx, okx, -⟩ := (HX.out.later hwr.out).get hlt
        obtain ⟨bb, ob, y, rfl, hzy, oky, -⟩ := (HY.out.later hwr.out).get hlt
        have hlt' : (k : Int) < (n : Int) := by omega
        have HZX := Lib.hid hzx; have HZY := Lib.hid hzy; have HOX := Lib.hid okx; have HOY := Lib.hid oky
        clear hzx hzy okx oky
        go_upto_region 6 with fail
        refine rall_region rfl (by kernel_rfl) ⟨_, rfl, rfl, rfl, rfl, by kernel_rfl⟩ ⟨_, rfl, rfl, rfl, rfl, by kernel_rfl⟩ ⟨_, rfl, rfl, rfl, rfl, by kernel_rfl⟩ ⟨_, rfl, rfl, rfl, rfl, by kernel_rfl⟩ ⟨_, rfl, rfl, rfl, rfl, by kernel_rfl⟩ ⟨_, rfl, rfl, rfl, rfl, by kernel_rfl⟩ ⟨_, rfl, rfl, rfl, rfl, by kernel_rfl⟩ ⟨_, rfl, rfl, rfl, rfl, by kernel_rfl⟩ ⟨_, rfl, rfl, rfl, rfl, by kernel_rfl⟩ ⟨_, rfl, rfl, rfl, rfl, by kernel_rfl⟩ (of_decide_eq_true rfl) rfl rfl rfl (HX.out.later hwr.out).row (HY.out.later hwr.out).row HZX.out HZY.out HOX.out HOY.out hlt (fun a V so hlv er => ?_)
        have HLV := Lib.hid (hwr.out.trans hlv)
        have ha := so.is
        simp only [List.foldl_cons, List.foldl_nil] at ha
        generalize a.eval (.tmp 17) = v17 at ha
        generalize a.eval (.tmp 18) = v18 at ha
        generalize a.eval (.tmp 19) = v19 at ha
        generalize a.eval (.tmp 20) = v20 at ha
        generalize a.eval (.tmp 21) = v21 at ha
        generalize a.eval (.tmp 22) = v22 at ha
        generalize a.eval (.tmp 23) = v23 at ha
        generalize a.eval (.tmp 24) = v24 at ha
        generalize a.eval (.tmp 25) = v25 at ha
        generalize a.eval (.tmp 26) = v26 at ha er
        clear so hlv HOX HOY
        subst ha
        simp only [Act.put, List.setIfInBounds_toArray, List.set_cons_zero, List.set_cons_succ]
        by_cases he : x.v = y.v
        · rw [sameN_iff.2 he] at er
          subst er
          have HN := Lib.hid (valsN_same HZX.out HZY.out heq.out he)
          simp only [Bool.not_true]
          go_wp2
          go_roundg (n - (k + 1))
          case measure => omega
          case rel => exact ⟨k + 1, by omega, Nat.le_refl _, by go_num, HLV, HN⟩
        · have hf : sameN x.v y.v = false := by
            cases h : sameN x.v y.v with
            | false => rfl
            | true => exact absurd (sameN_iff.1 h) he
          rw [hf] at er
          subst er
          have HN : Hid (¬ valsN xs = valsN ys) := by
            intro e
            have h1 := valsN_at HZX.out; have h2 := valsN_at HZY.out
            rw [e, h2] at h1
            exact he (Option.some.inj h1).symm
          simp only [Bool.not_false]
          go_wp2
          go_ret
          exact ⟨by rw [falseOf hb HN.out]; rfl, HLV.out⟩
      · have HE : Hid (valsN xs = valsN ys) := by
          have := heq.out
          rw [List.take_of_length_le (by rw [valsN_length, hlx]; omega), List.take_of_length_le (by rw [valsN_length, hly]; omega)] at this
          exact this
        go_wp2
        go_ret
        exact ⟨by rw [hb.2 HE.out]; rfl, hwr.out⟩
  · have HN : Hid (¬ valsN xs = valsN ys) := by
      intro e
      have h1 := congrArg List.length e
      rw [valsN_length, valsN_length, hx.len, hy.len] at h1
      exact hnm h1
    have hnm' : ¬ (n : Int) = (m : Int) := by omega
    clear hx hy
    go_enter Tryz.func18, Tryz.ntmps18
    go_wp2
    go_ret
    exact ⟨by rw [falseOf hb HN.out]; rfl, Later.refl w⟩

end Go.Proofs.YtlnjhimbgckdcaaGreat
