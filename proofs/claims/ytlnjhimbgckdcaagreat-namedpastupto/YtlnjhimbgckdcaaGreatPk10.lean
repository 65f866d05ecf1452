import Derived.Test.YtlnjhimbgckdcaaGreatPk9
import Derived.Test.YtlnjhimbgckdcaaGreatPk8

/-
  The statement of Swap's loop: in whatever order its operations come.
-/
namespace Go.Proofs.YtlnjhimbgckdcaaGreat
open Go.RowKit Go.Maps

structure SwBD where
  y : PrC
  t : Bool
  ys : List PrC
theorem OwnPs.grownO {e : TypeId} {w0 w w' : World} {u : Value} {zs : List PrC} {r : Option Nat} (h : OwnPs e w0 w u zs) (hg : w.grownBy w' r) (hne : ∀ g, r = some g -> u.ownBlock ≠ some g) (haw : ∀ z ∈ zs, ∀ g, r = some g -> Away g z) (hl : Later w0 w') : OwnPs e w0 w' u zs := by
  cases r with
  | none => exact h.on ⟨hg.os, hg.tape, hg.output, hg.size, fun i hi => hg.block i hi (by simp)⟩
  | some g => exact h.other hg (hne g rfl) (fun z hz => haw z hz g rfl) hl
def SwTold (wE V0 : World) (v : Value) (r : Option (List Pr × Pr)) (D : SwBD) (V : World) : Prop :=
  D.t = r.isSome /\ Fresh V0 D.y /\ ∀ p, r = some p -> D.y.v = p.2 /\ OwnPs 58 wE V v D.ys /\ valsP D.ys = p.1 /\ ∀ z ∈ D.ys, Fresh V0 z
def SwB (wE V0 : World) (v u : Value) (gu : Nat) (r : Option (List Pr × Pr)) (zs : List PrC) (j : Nat) : Nat -> SwBD -> World -> Prop
  | 0, _, V => Later V0 V
  | 1, D, V => V0.grownBy V v.ownBlock /\ PrOk V D.y /\ SwTold wE V0 v r D V
  | 2, D, V => (∃ V1, V0.grownBy V1 v.ownBlock /\ Turned gu V1 V) /\ OwnPs 58 wE V u (zs.set j D.y) /\ SwTold wE V0 v r D V
  | _, D, V => (∃ V1 V2, V0.grownBy V1 v.ownBlock /\ Turned gu V1 V2 /\ Turned (wE.heap.size + 2) V2 V) /\ OwnPs 58 wE V u (zs.set j D.y) /\ SwTold wE V0 v r D V /\ BoxAt V (wE.heap.size + 2) #[.bool D.t] 4

set_option maxHeartbeats 1600000 in
theorem swb_region {ops : Array Oper} (hn : ops.size = 11) (hg : goesBack ops = true) (hdf : noDefer ops = true)
    (o0 : OpIs ops 0 (.load 28 (.tmp 5)) (some 19) [])
    (o1 : OpIs ops 1 (.move (.tmp 7)) (some 20) [])
    (o2 : OpIs ops 2 (.load 58 (.tmp 8)) (some 21) [])
    (o3 : OpIs ops 3 (.load 28 (.tmp 4)) (some 22) [])
    (o4 : OpIs ops 4 (.call { callee := .value (.func 49), args := #[.tmp 21, .tmp 22], argTypes := #[58, 28] }) (some 23) [2, 3])
    (o5 : OpIs ops 5 (.move (.tmp 23)) (some 18) [4])
    (o6 : OpIs ops 6 (.extract (.tmp 18) 0) (some 24) [5])
    (o7 : OpIs ops 7 (.extract (.tmp 18) 1) (some 25) [5])
    (o8 : OpIs ops 8 (.indexAddr 28 (.tmp 19) (.tmp 20)) (some 26) [0, 1])
    (o9 : OpIs ops 9 (.store 58 (.tmp 26) (.tmp 24)) none [8, 6, 4])
    (o10 : OpIs ops 10 (.store 4 (.tmp 6) (.tmp 25)) none [7, 9])
    {a1 : Act} (hs : 31 <= a1.tmps.size) {wx : World} {wE : World} {A4 : Option Addr} {m4 c4 gu ou n cu j gx : Nat} {ys zs : List PrC} {x : PrC} {bv : Value} {r : Option (List Pr × Pr)} (e4 : a1.eval (.tmp 4) = .pointer (some ⟨wE.heap.size, 0, none⟩)) (e5 : a1.eval (.tmp 5) = .pointer (some ⟨wE.heap.size + 1, 0, none⟩)) (e6 : a1.eval (.tmp 6) = .pointer (some ⟨wE.heap.size + 2, 0, none⟩)) (e7 : a1.eval (.tmp 7) = .int .i64 (j : Nat)) (e8 : a1.eval (.tmp 8) = .pointer (some ⟨gx, 0, none⟩)) (hb4 : BoxAt wx wE.heap.size #[.slice A4 m4 c4] 28) (hb5 : BoxAt wx (wE.heap.size + 1) #[.slice (some ⟨gu, ou, none⟩) n cu] 28) (hb6 : BoxAt wx (wE.heap.size + 2) #[bv] 4) (hbx : BoxAt wx gx (prL x).toArray 58) (hx : PrOk wx x) (hown : OwnPs 58 wE wx (.slice A4 m4 c4) ys) (hownu : OwnPs 58 wE wx (.slice (some ⟨gu, ou, none⟩) n cu) zs) (hr : swap1 x.v (valsP ys) = r) (hxa : ∀ g, (Value.slice A4 m4 c4).ownBlock = some g -> Away g x) (hm4 : m4 <= 65536) (hj : j < n) (hgu : gu < wx.heap.size) (huv : ∀ g, (Value.slice A4 m4 c4).ownBlock = some g -> (Value.slice (some ⟨gu, ou, none⟩) n cu).ownBlock ≠ some g) (hzv : ∀ z ∈ zs, ∀ g, (Value.slice A4 m4 c4).ownBlock = some g -> Away g z) (hz6 : ∀ z ∈ zs, Away (wE.heap.size + 2) z)
    {Q : Exit -> Act -> World -> Prop} (hq : ¬ LetsOut Q) {id lp mp : Nat} (hend : ∀ (D : SwBD) (a : Act) (w : World), SameOut a1 a [19, 20, 21, 22, 23, 18, 24, 25, 26] -> SwB wE wx (.slice A4 m4 c4) (.slice (some ⟨gu, ou, none⟩) n cu) gu r zs j (3) D w -> Q .normal a w) :
    (Code.region id ops true).wpIn (Fence.wide.inRound lp) mp Tryz.prog Q a1 wx := by
  refine regionIn_inv (by kernel_rfl) hg hdf hq (fun l a w => ∃ D : SwBD, SameOut a1 a [19, 20, 21, 22, 23, 18, 24, 25, 26] /\ SwB wE wx (.slice A4 m4 c4) (.slice (some ⟨gu, ou, none⟩) n cu) gu r zs j (if l 10 = true then 3 else (if l 9 = true then 2 else (if l 4 = true then 1 else 0))) D w /\ (l 0 = true -> a.eval (.tmp 19) = .slice (some ⟨gu, ou, none⟩) n cu) /\ (l 1 = true -> a.eval (.tmp 20) = .int .i64 (j : Nat)) /\ (l 2 = true -> a.eval (.tmp 21) = prV x) /\ (l 3 = true -> a.eval (.tmp 22) = .slice A4 m4 c4) /\ (l 4 = true -> a.eval (.tmp 23) = .tuple #[prV D.y, .bool D.t]) /\ (l 5 = true -> a.eval (.tmp 18) = .tuple #[prV D.y, .bool D.t]) /\ (l 6 = true -> a.eval (.tmp 24) = prV D.y) /\ (l 7 = true -> a.eval (.tmp 25) = .bool D.t) /\ (l 8 = true -> a.eval (.tmp 26) = .pointer (some ⟨gu, ou + j * 6, none⟩)) /\ (l 9 = true -> l 4 = true) /\ (l 10 = true -> l 9 = true) /\ (l 8 = true -> l 0 = true) /\ (l 9 = true -> l 8 = true) /\ (l 4 = true -> l 2 = true) /\ (l 4 = true -> l 3 = true) /\ (l 5 = true -> l 4 = true) /\ (l 6 = true -> l 4 = true) /\ (l 7 = true -> l 4 = true)) ?_ ?_ ?_
  · intro l a w i o ho hl hwait ⟨D, so, st, f0, f1, f2, f3, f4, f5, f6, f7, f8, d9_4, d10_9, d8_0, d9_8, d4_2, d4_3, d5_4, d6_4, d7_4⟩
    have hi : i < 11 := by rw [← hn]; exact (Array.getElem?_eq_some_iff.1 ho).1
    have hc : i = 0 ∨ i = 1 ∨ i = 2 ∨ i = 3 ∨ i = 4 ∨ i = 5 ∨ i = 6 ∨ i = 7 ∨ i = 8 ∨ i = 9 ∨ i = 10 := by omega
    rcases hc with rfl | rfl | rfl | rfl | rfl | rfl | rfl | rfl | rfl | rfl | rfl
    · have n8 : l 8 = false := by cases hx : l 8 with | false => rfl | true => have := d8_0 hx; rw [hl] at this; cases this
      have n9 : l 9 = false := by cases hx : l 9 with | false => rfl | true => have := d9_8 hx; rw [n8] at this; cases this
      have n10 : l 10 = false := by cases hx : l 10 with | false => rfl | true => have := d10_9 hx; rw [n9] at this; cases this
      have st0 := st
      have hb : BoxAt w (wE.heap.size + 1) #[.slice (some ⟨gu, ou, none⟩) n cu] 28 := by
        have hst := st
        simp only [n9, n10, Bool.false_eq_true, if_false] at hst
        split at hst
        · exact hb5.grown hst.1 (fun e => hown.noBox hb5 (by decide) e.symm)
        · exact hb5.later hst
      refine o0.loadS ((show _ = a1.eval _ from by simp only [Act.eval, Array.getD_eq_getD_getElem?, so.out 5 (by decide)]).trans e5) hb ?_
      exact ⟨D, (so.put (by decide) _), st, (fun _ => eval_put_same' _ _ _ (by rw [so.size]; show (19 : Nat) < _; omega)), (fun e => (eval_put_other' _ _ (by decide)).trans (f1 e)), (fun e => (eval_put_other' _ _ (by decide)).trans (f2 e)), (fun e => (eval_put_other' _ _ (by decide)).trans (f3 e)), (fun e => (eval_put_other' _ _ (by decide)).trans (f4 e)), (fun e => (eval_put_other' _ _ (by decide)).trans (f5 e)), (fun e => (eval_put_other' _ _ (by decide)).trans (f6 e)), (fun e => (eval_put_other' _ _ (by decide)).trans (f7 e)), (fun e => by rw [show more l 0 8 = l 8 from rfl, n8] at e; cases e), d9_4, d10_9, (fun _ => rfl), d9_8, d4_2, d4_3, d5_4, d6_4, d7_4⟩
    · have st0 := st
      have ev : a.eval (.tmp 7) = .int .i64 (j : Nat) := ((show _ = a1.eval _ from by simp only [Act.eval, Array.getD_eq_getD_getElem?, so.out 7 (by decide)]).trans e7)
      refine o1.move ?_
      rw [ev]
      exact ⟨D, (so.put (by decide) _), st, (fun e => (eval_put_other' _ _ (by decide)).trans (f0 e)), (fun _ => eval_put_same' _ _ _ (by rw [so.size]; show (20 : Nat) < _; omega)), (fun e => (eval_put_other' _ _ (by decide)).trans (f2 e)), (fun e => (eval_put_other' _ _ (by decide)).trans (f3 e)), (fun e => (eval_put_other' _ _ (by decide)).trans (f4 e)), (fun e => (eval_put_other' _ _ (by decide)).trans (f5 e)), (fun e => (eval_put_other' _ _ (by decide)).trans (f6 e)), (fun e => (eval_put_other' _ _ (by decide)).trans (f7 e)), (fun e => (eval_put_other' _ _ (by decide)).trans (f8 e)), d9_4, d10_9, d8_0, d9_8, d4_2, d4_3, d5_4, d6_4, d7_4⟩
    · have n4 : l 4 = false := by cases hx : l 4 with | false => rfl | true => have := d4_2 hx; rw [hl] at this; cases this
      have n5 : l 5 = false := by cases hx : l 5 with | false => rfl | true => have := d5_4 hx; rw [n4] at this; cases this
      have n6 : l 6 = false := by cases hx : l 6 with | false => rfl | true => have := d6_4 hx; rw [n4] at this; cases this
      have n7 : l 7 = false := by cases hx : l 7 with | false => rfl | true => have := d7_4 hx; rw [n4] at this; cases this
      have n9 : l 9 = false := by cases hx : l 9 with | false => rfl | true => have := d9_4 hx; rw [n4] at this; cases this
      have n10 : l 10 = false := by cases hx : l 10 with | false => rfl | true => have := d10_9 hx; rw [n9] at this; cases this
      have st0 := st
      have hl0 : Later wx w := by
        have hst := st
        simp only [n4, n9, n10, Bool.false_eq_true, if_false] at hst
        exact hst
      refine o2.load Tryz.underlying58 Tryz.primSize ((show _ = a1.eval _ from by simp only [Act.eval, Array.getD_eq_getD_getElem?, so.out 8 (by decide)]).trans e8) (hbx.later hl0) ?_
      exact ⟨D, (so.put (by decide) _), st, (fun e => (eval_put_other' _ _ (by decide)).trans (f0 e)), (fun e => (eval_put_other' _ _ (by decide)).trans (f1 e)), (fun _ => eval_put_same' _ _ _ (by rw [so.size]; show (21 : Nat) < _; omega)), (fun e => (eval_put_other' _ _ (by decide)).trans (f3 e)), (fun e => by rw [show more l 2 4 = l 4 from rfl, n4] at e; cases e), (fun e => by rw [show more l 2 5 = l 5 from rfl, n5] at e; cases e), (fun e => by rw [show more l 2 6 = l 6 from rfl, n6] at e; cases e), (fun e => by rw [show more l 2 7 = l 7 from rfl, n7] at e; cases e), (fun e => (eval_put_other' _ _ (by decide)).trans (f8 e)), d9_4, d10_9, d8_0, d9_8, (fun _ => rfl), d4_3, d5_4, d6_4, d7_4⟩
    · have n4 : l 4 = false := by cases hx : l 4 with | false => rfl | true => have := d4_3 hx; rw [hl] at this; cases this
      have n5 : l 5 = false := by cases hx : l 5 with | false => rfl | true => have := d5_4 hx; rw [n4] at this; cases this
      have n6 : l 6 = false := by cases hx : l 6 with | false => rfl | true => have := d6_4 hx; rw [n4] at this; cases this
      have n7 : l 7 = false := by cases hx : l 7 with | false => rfl | true => have := d7_4 hx; rw [n4] at this; cases this
      have n9 : l 9 = false := by cases hx : l 9 with | false => rfl | true => have := d9_4 hx; rw [n4] at this; cases this
      have n10 : l 10 = false := by cases hx : l 10 with | false => rfl | true => have := d10_9 hx; rw [n9] at this; cases this
      have st0 := st
      have hl0 : Later wx w := by
        have hst := st
        simp only [n4, n9, n10, Bool.false_eq_true, if_false] at hst
        exact hst
      refine o3.loadS ((show _ = a1.eval _ from by simp only [Act.eval, Array.getD_eq_getD_getElem?, so.out 4 (by decide)]).trans e4) (hb4.later hl0) ?_
      exact ⟨D, (so.put (by decide) _), st, (fun e => (eval_put_other' _ _ (by decide)).trans (f0 e)), (fun e => (eval_put_other' _ _ (by decide)).trans (f1 e)), (fun e => (eval_put_other' _ _ (by decide)).trans (f2 e)), (fun _ => eval_put_same' _ _ _ (by rw [so.size]; show (22 : Nat) < _; omega)), (fun e => by rw [show more l 3 4 = l 4 from rfl, n4] at e; cases e), (fun e => by rw [show more l 3 5 = l 5 from rfl, n5] at e; cases e), (fun e => by rw [show more l 3 6 = l 6 from rfl, n6] at e; cases e), (fun e => by rw [show more l 3 7 = l 7 from rfl, n7] at e; cases e), (fun e => (eval_put_other' _ _ (by decide)).trans (f8 e)), d9_4, d10_9, d8_0, d9_8, d4_2, (fun _ => rfl), d5_4, d6_4, d7_4⟩
    · have ws := o4.waits ho hwait
      have w2 := ws 2 (by simp)
      have w3 := ws 3 (by simp)
      have n9 : l 9 = false := by cases hx : l 9 with | false => rfl | true => have := d9_4 hx; rw [hl] at this; cases this
      have n10 : l 10 = false := by cases hx : l 10 with | false => rfl | true => have := d10_9 hx; rw [n9] at this; cases this
      have n5 : l 5 = false := by cases hx : l 5 with | false => rfl | true => have := d5_4 hx; rw [hl] at this; cases this
      have n6 : l 6 = false := by cases hx : l 6 with | false => rfl | true => have := d6_4 hx; rw [hl] at this; cases this
      have n7 : l 7 = false := by cases hx : l 7 with | false => rfl | true => have := d7_4 hx; rw [hl] at this; cases this
      have st0 : SwB wE wx (.slice A4 m4 c4) (.slice (some ⟨gu, ou, none⟩) n cu) gu r zs j 0 D w := by
        have hst := st
        simp only [hl, n9, n10, Bool.false_eq_true, if_false] at hst
        exact hst
      refine o4.call2 (enters_of Tryz.func49 (by kernel_rfl) rfl) (f2 w2) (f3 w3) (pass_any x A4 m4 c4 ys wE w (hx.later st0) (hown.on st0) hxa hm4) ?_
      rintro e w' ⟨hgr, hres⟩
      rw [hr] at hres
      obtain ⟨D2, rfl, st1⟩ : ∃ D2 : SwBD, e = .returned (.tuple #[prV D2.y, .bool D2.t]) /\ SwB wE wx (.slice A4 m4 c4) (.slice (some ⟨gu, ou, none⟩) n cu) gu r zs j 1 D2 w' := by
        have hg1 := grown_trans (grown_later st0 (Value.slice A4 m4 c4).ownBlock) hgr
        cases r with
        | none => exact ⟨⟨zeroC, false, []⟩, hres, hg1, zeroC_ok _, rfl, fresh_zero _, fun p e => by cases e⟩
        | some p =>
          obtain ⟨y, ys', e1, e2, e3, e4, e5, e6, e7⟩ := hres
          exact ⟨⟨y, true, ys'⟩, e1, hg1, e3, rfl, e4.base st0, fun q e => by cases e; exact ⟨e2, e5, e6, fun z hz => (e7 z hz).base st0⟩⟩
      have st2 : SwB wE wx (.slice A4 m4 c4) (.slice (some ⟨gu, ou, none⟩) n cu) gu r zs j (if (more l 4) 10 = true then 3 else (if (more l 4) 9 = true then 2 else (if (more l 4) 4 = true then 1 else 0))) (D2) w' := by
        rw [if_neg (show ¬ (more l 4 10 = true) from by rw [show more l 4 10 = l 10 from rfl, n10]; simp), if_neg (show ¬ (more l 4 9 = true) from by rw [show more l 4 9 = l 9 from rfl, n9]; simp), if_pos (show more l 4 4 = true from rfl)]
        exact st1
      exact ⟨_, rfl, ⟨D2, (so.put (by decide) _), st2, (fun e => (eval_put_other' _ _ (by decide)).trans (f0 e)), (fun e => (eval_put_other' _ _ (by decide)).trans (f1 e)), (fun e => (eval_put_other' _ _ (by decide)).trans (f2 e)), (fun e => (eval_put_other' _ _ (by decide)).trans (f3 e)), (fun _ => eval_put_same' _ _ _ (by rw [so.size]; show (23 : Nat) < _; omega)), (fun e => by rw [show more l 4 5 = l 5 from rfl, n5] at e; cases e), (fun e => by rw [show more l 4 6 = l 6 from rfl, n6] at e; cases e), (fun e => by rw [show more l 4 7 = l 7 from rfl, n7] at e; cases e), (fun e => (eval_put_other' _ _ (by decide)).trans (f8 e)), (fun _ => rfl), d10_9, d8_0, d9_8, (fun _ => w2), (fun _ => w3), (fun _ => rfl), (fun _ => rfl), (fun _ => rfl)⟩⟩
    · have ws := o5.waits ho hwait
      have w4 := ws 4 (by simp)
      have w2 := d4_2 w4
      have w3 := d4_3 w4
      have st0 := st
      refine o5.move ?_
      rw [f4 w4]
      exact ⟨D, (so.put (by decide) _), st, (fun e => (eval_put_other' _ _ (by decide)).trans (f0 e)), (fun e => (eval_put_other' _ _ (by decide)).trans (f1 e)), (fun e => (eval_put_other' _ _ (by decide)).trans (f2 e)), (fun e => (eval_put_other' _ _ (by decide)).trans (f3 e)), (fun e => (eval_put_other' _ _ (by decide)).trans (f4 e)), (fun _ => eval_put_same' _ _ _ (by rw [so.size]; show (18 : Nat) < _; omega)), (fun e => (eval_put_other' _ _ (by decide)).trans (f6 e)), (fun e => (eval_put_other' _ _ (by decide)).trans (f7 e)), (fun e => (eval_put_other' _ _ (by decide)).trans (f8 e)), d9_4, d10_9, d8_0, d9_8, d4_2, d4_3, (fun _ => w4), d6_4, d7_4⟩
    · have ws := o6.waits ho hwait
      have w5 := ws 5 (by simp)
      have w4 := d5_4 w5
      have w2 := d4_2 w4
      have w3 := d4_3 w4
      have st0 := st
      refine o6.extract (f5 w5) rfl ?_
      exact ⟨D, (so.put (by decide) _), st, (fun e => (eval_put_other' _ _ (by decide)).trans (f0 e)), (fun e => (eval_put_other' _ _ (by decide)).trans (f1 e)), (fun e => (eval_put_other' _ _ (by decide)).trans (f2 e)), (fun e => (eval_put_other' _ _ (by decide)).trans (f3 e)), (fun e => (eval_put_other' _ _ (by decide)).trans (f4 e)), (fun e => (eval_put_other' _ _ (by decide)).trans (f5 e)), (fun _ => eval_put_same' _ _ _ (by rw [so.size]; show (24 : Nat) < _; omega)), (fun e => (eval_put_other' _ _ (by decide)).trans (f7 e)), (fun e => (eval_put_other' _ _ (by decide)).trans (f8 e)), d9_4, d10_9, d8_0, d9_8, d4_2, d4_3, d5_4, (fun _ => w4), d7_4⟩
    · have ws := o7.waits ho hwait
      have w5 := ws 5 (by simp)
      have w4 := d5_4 w5
      have w2 := d4_2 w4
      have w3 := d4_3 w4
      have st0 := st
      refine o7.extract (f5 w5) rfl ?_
      exact ⟨D, (so.put (by decide) _), st, (fun e => (eval_put_other' _ _ (by decide)).trans (f0 e)), (fun e => (eval_put_other' _ _ (by decide)).trans (f1 e)), (fun e => (eval_put_other' _ _ (by decide)).trans (f2 e)), (fun e => (eval_put_other' _ _ (by decide)).trans (f3 e)), (fun e => (eval_put_other' _ _ (by decide)).trans (f4 e)), (fun e => (eval_put_other' _ _ (by decide)).trans (f5 e)), (fun e => (eval_put_other' _ _ (by decide)).trans (f6 e)), (fun _ => eval_put_same' _ _ _ (by rw [so.size]; show (25 : Nat) < _; omega)), (fun e => (eval_put_other' _ _ (by decide)).trans (f8 e)), d9_4, d10_9, d8_0, d9_8, d4_2, d4_3, d5_4, d6_4, (fun _ => w4)⟩
    · have ws := o8.waits ho hwait
      have w0 := ws 0 (by simp)
      have w1 := ws 1 (by simp)
      have n9 : l 9 = false := by cases hx : l 9 with | false => rfl | true => have := d9_8 hx; rw [hl] at this; cases this
      have n10 : l 10 = false := by cases hx : l 10 with | false => rfl | true => have := d10_9 hx; rw [n9] at this; cases this
      have st0 := st
      refine o8.index (f0 w0) (f1 w1) hj ?_
      exact ⟨D, (so.put (by decide) _), st, (fun e => (eval_put_other' _ _ (by decide)).trans (f0 e)), (fun e => (eval_put_other' _ _ (by decide)).trans (f1 e)), (fun e => (eval_put_other' _ _ (by decide)).trans (f2 e)), (fun e => (eval_put_other' _ _ (by decide)).trans (f3 e)), (fun e => (eval_put_other' _ _ (by decide)).trans (f4 e)), (fun e => (eval_put_other' _ _ (by decide)).trans (f5 e)), (fun e => (eval_put_other' _ _ (by decide)).trans (f6 e)), (fun e => (eval_put_other' _ _ (by decide)).trans (f7 e)), (fun _ => eval_put_same' _ _ _ (by rw [so.size]; show (26 : Nat) < _; omega)), d9_4, d10_9, (fun _ => w0), (fun _ => rfl), d4_2, d4_3, d5_4, d6_4, d7_4⟩
    · have ws := o9.waits ho hwait
      have w8 := ws 8 (by simp)
      have w6 := ws 6 (by simp)
      have w4 := ws 4 (by simp)
      have w0 := d8_0 w8
      have w2 := d4_2 w4
      have w3 := d4_3 w4
      have n10 : l 10 = false := by cases hx : l 10 with | false => rfl | true => have := d10_9 hx; rw [hl] at this; cases this
      have st0 : SwB wE wx (.slice A4 m4 c4) (.slice (some ⟨gu, ou, none⟩) n cu) gu r zs j 1 D w := by
        have hst := st
        simp only [hl, n10, Bool.false_eq_true, if_false, if_true, w4] at hst
        exact hst
      have hlw := hown.later.grown st0.1 hown.block
      refine o9.storeP Tryz.primSize (f8 w8) (f6 w6) (hownu.grownO st0.1 huv hzv hlw) hj st0.2.1 (st0.2.2.2.1.away hgu) ?_
      intro w' ho' ht'
      have hlw' : Later wE w' := ho'.later
      have st1 : SwB wE wx (.slice A4 m4 c4) (.slice (some ⟨gu, ou, none⟩) n cu) gu r zs j 2 D w' := ⟨⟨w, st0.1, ht'⟩, ho', st0.2.2.1, st0.2.2.2.1, fun p e => ⟨(st0.2.2.2.2 p e).1, (st0.2.2.2.2 p e).2.1.other ht' (fun e' => huv gu e' rfl) (fun z hz => ((st0.2.2.2.2 p e).2.2.2 z hz).away hgu) hlw', (st0.2.2.2.2 p e).2.2⟩⟩
      have st2 : SwB wE wx (.slice A4 m4 c4) (.slice (some ⟨gu, ou, none⟩) n cu) gu r zs j (if (more l 9) 10 = true then 3 else (if (more l 9) 9 = true then 2 else (if (more l 9) 4 = true then 1 else 0))) (D) w' := by
        rw [if_neg (show ¬ (more l 9 10 = true) from by rw [show more l 9 10 = l 10 from rfl, n10]; simp), if_pos (show more l 9 9 = true from rfl)]
        exact st1
      exact ⟨D, so, st2, f0, f1, f2, f3, f4, f5, f6, f7, f8, (fun _ => w4), (fun _ => rfl), d8_0, (fun _ => w8), d4_2, d4_3, d5_4, d6_4, d7_4⟩
    · have ws := o10.waits ho hwait
      have w7 := ws 7 (by simp)
      have w9 := ws 9 (by simp)
      have w4 := d9_4 w9
      have w8 := d9_8 w9
      have w2 := d4_2 w4
      have w3 := d4_3 w4
      have w0 := d8_0 w8
      have st0 : SwB wE wx (.slice A4 m4 c4) (.slice (some ⟨gu, ou, none⟩) n cu) gu r zs j 2 D w := by
        have hst := st
        simp only [hl, Bool.false_eq_true, if_false, if_true, w9] at hst
        exact hst
      obtain ⟨V1, hg1, ht1⟩ := st0.1
      have hb6' : BoxAt w (wE.heap.size + 2) #[bv] 4 := (hb6.grown hg1 (fun e => hown.noBox hb6 (by decide) e.symm)).other ht1 (by have := hownu.noBox hb6 (by decide); intro e; exact this (by rw [e]; rfl))
      refine o10.storeB ((show _ = a1.eval _ from by simp only [Act.eval, Array.getD_eq_getD_getElem?, so.out 6 (by decide)]).trans e6) (f7 w7) hb6' ?_
      intro w' hb' ht'
      have hlt6 := hb6.lt
      have hlw' : Later wE w' := st0.2.1.later.turn ht' (by omega)
      have st1 : SwB wE wx (.slice A4 m4 c4) (.slice (some ⟨gu, ou, none⟩) n cu) gu r zs j 3 D w' := ⟨⟨V1, w, hg1, ht1, ht'⟩, st0.2.1.other ht' (st0.2.1.noBox hb6' (by decide)) (fun z hz => by
        rcases List.mem_or_eq_of_mem_set hz with h | rfl
        · exact hz6 z h
        · exact st0.2.2.2.1.away hlt6) hlw', ⟨st0.2.2.1, st0.2.2.2.1, fun p e => ⟨(st0.2.2.2.2 p e).1, (st0.2.2.2.2 p e).2.1.other ht' ((st0.2.2.2.2 p e).2.1.noBox hb6' (by decide)) (fun z hz => ((st0.2.2.2.2 p e).2.2.2 z hz).away hlt6) hlw', (st0.2.2.2.2 p e).2.2⟩⟩, hb'⟩
      have st2 : SwB wE wx (.slice A4 m4 c4) (.slice (some ⟨gu, ou, none⟩) n cu) gu r zs j (if (more l 10) 10 = true then 3 else (if (more l 10) 9 = true then 2 else (if (more l 10) 4 = true then 1 else 0))) (D) w' := by
        rw [if_pos (show more l 10 10 = true from rfl)]
        exact st1
      exact ⟨D, so, st2, f0, f1, f2, f3, f4, f5, f6, f7, f8, d9_4, (fun _ => w9), d8_0, d9_8, d4_2, d4_3, d5_4, d6_4, d7_4⟩
  · intro l a w hall ⟨D, so, st, f0, f1, f2, f3, f4, f5, f6, f7, f8, d9_4, d10_9, d8_0, d9_8, d4_2, d4_3, d5_4, d6_4, d7_4⟩
    rw [hn] at hall
    have hst : SwB wE wx (.slice A4 m4 c4) (.slice (some ⟨gu, ou, none⟩) n cu) gu r zs j 3 D w := by
      have hst := st
      simp only [hall 10 (by decide), if_true] at hst
      exact hst
    exact hend D a w so hst
  · have h0 : SwB wE wx (.slice A4 m4 c4) (.slice (some ⟨gu, ou, none⟩) n cu) gu r zs j 0 ⟨zeroC, false, []⟩ { wx with drawn := wx.drawn + 1 } := (Later.refl wx).drew
    exact ⟨⟨zeroC, false, []⟩, SameOut.refl _ _, h0, (fun e => by cases e), (fun e => by cases e), (fun e => by cases e), (fun e => by cases e), (fun e => by cases e), (fun e => by cases e), (fun e => by cases e), (fun e => by cases e), (fun e => by cases e), (fun e => by cases e), (fun e => by cases e), (fun e => by cases e), (fun e => by cases e), (fun e => by cases e), (fun e => by cases e), (fun e => by cases e), (fun e => by cases e), (fun e => by cases e)⟩

end Go.Proofs.YtlnjhimbgckdcaaGreat
