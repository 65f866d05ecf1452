import Derived.Test.YtlnjhimbgckdcaaGreatPk16
import Derived.Test.YtlnjhimbgckdcaaGreatPk15
import Derived.Test.YtlnjhimbgckdcaaGreatPk6

/-
  The statement of Past's loop: in whatever order its operations come.
-/
namespace Go.Proofs.YtlnjhimbgckdcaaGreat
open Go.RowKit Go.Maps

structure PaBD where
  y : PaC
  z : PaC
  t : Bool
def PaTold (V0 : World) (r : Option (Pa × Pa)) (D : PaBD) : Prop := D.t = r.isSome /\ FreshN V0 D.y /\ FreshN V0 D.z /\ ∀ p, r = some p -> D.y.v = p.1 /\ D.z.v = p.2
def PaB (wE V0 : World) (u : Value) (g gu : Nat) (r : Option (Pa × Pa)) (zs : List PaC) (j : Nat) : Nat -> PaBD -> World -> Prop
  | 0, _, V => Later V0 V
  | 1, D, V => Later V0 V /\ PaOk V D.y /\ PaOk V D.z /\ PaTold V0 r D
  | 2, D, V => (∃ V1, Later V0 V1 /\ Turned g V1 V) /\ BoxAt V g (paL D.y).toArray 30 /\ PaOk V D.y /\ PaOk V D.z /\ PaTold V0 r D
  | 3, D, V => (∃ V1 V2, Later V0 V1 /\ Turned g V1 V2 /\ Turned gu V2 V) /\ BoxAt V g (paL D.y).toArray 30 /\ OwnNs 30 wE V u (zs.set j D.z) /\ PaOk V D.y /\ PaTold V0 r D
  | _, D, V => (∃ V1 V2 V3, Later V0 V1 /\ Turned g V1 V2 /\ Turned gu V2 V3 /\ Turned (g + 2) V3 V) /\ BoxAt V g (paL D.y).toArray 30 /\ OwnNs 30 wE V u (zs.set j D.z) /\ PaOk V D.y /\ PaTold V0 r D /\ BoxAt V (g + 2) #[.bool D.t] 4

set_option maxHeartbeats 1600000 in
theorem pab_region {ops : Array Oper} (hn : ops.size = 13) (hg : goesBack ops = true) (hdf : noDefer ops = true)
    (o0 : OpIs ops 0 (.load 40 (.tmp 5)) (some 19) [])
    (o1 : OpIs ops 1 (.move (.tmp 7)) (some 20) [])
    (o2 : OpIs ops 2 (.load 30 (.tmp 8)) (some 21) [])
    (o3 : OpIs ops 3 (.load 30 (.tmp 4)) (some 22) [])
    (o4 : OpIs ops 4 (.call { callee := .value (.func 9), args := #[.tmp 21, .tmp 22], argTypes := #[30, 30] }) (some 23) [2, 3])
    (o5 : OpIs ops 5 (.move (.tmp 23)) (some 18) [4])
    (o6 : OpIs ops 6 (.extract (.tmp 18) 0) (some 24) [5])
    (o7 : OpIs ops 7 (.extract (.tmp 18) 1) (some 25) [5])
    (o8 : OpIs ops 8 (.extract (.tmp 18) 2) (some 26) [5])
    (o9 : OpIs ops 9 (.store 30 (.tmp 4) (.tmp 24)) none [6, 4])
    (o10 : OpIs ops 10 (.indexAddr 40 (.tmp 19) (.tmp 20)) (some 27) [0, 1])
    (o11 : OpIs ops 11 (.store 30 (.tmp 27) (.tmp 25)) none [10, 7, 9, 4])
    (o12 : OpIs ops 12 (.store 4 (.tmp 6) (.tmp 26)) none [8, 11])
    {a1 : Act} (hs : 33 <= a1.tmps.size) {wx : World} {wE : World} {g gu ou n cu j gx : Nat} {zs : List PaC} {x q : PaC} {bv : Value} {r : Option (Pa × Pa)} (e4 : a1.eval (.tmp 4) = .pointer (some ⟨g, 0, none⟩)) (e5 : a1.eval (.tmp 5) = .pointer (some ⟨g + 1, 0, none⟩)) (e6 : a1.eval (.tmp 6) = .pointer (some ⟨g + 2, 0, none⟩)) (e7 : a1.eval (.tmp 7) = .int .i64 (j : Nat)) (e8 : a1.eval (.tmp 8) = .pointer (some ⟨gx, 0, none⟩)) (hb4 : BoxAt wx g (paL q).toArray 30) (hb5 : BoxAt wx (g + 1) #[.slice (some ⟨gu, ou, none⟩) n cu] 40) (hb6 : BoxAt wx (g + 2) #[bv] 4) (hbx : BoxAt wx gx (paL x).toArray 30) (hx : PaOk wx x) (hqo : PaOk wx q) (hownu : OwnNs 30 wE wx (.slice (some ⟨gu, ou, none⟩) n cu) zs) (hr : swapN x.v q.v = r) (hj : j < n) (hg0 : wE.heap.size <= g) (hgx : g + 2 < wx.heap.size) (hgu : gu < wx.heap.size) (hgg : g + 2 < gu) (hzg : ∀ z ∈ zs, AwayN g z) (hz6 : ∀ z ∈ zs, AwayN (g + 2) z)
    {Q : Exit -> Act -> World -> Prop} (hq : ¬ LetsOut Q) {id lp mp : Nat} (hend : ∀ (D : PaBD) (a : Act) (w : World), SameOut a1 a [19, 20, 21, 22, 23, 18, 24, 25, 26, 27] -> PaB wE wx (.slice (some ⟨gu, ou, none⟩) n cu) g gu r zs j (4) D w -> Q .normal a w) :
    (Code.region id ops true).wpIn (Fence.wide.inRound lp) mp Tryz.prog Q a1 wx := by
  refine regionIn_inv (by kernel_rfl) hg hdf hq (fun l a w => ∃ D : PaBD, SameOut a1 a [19, 20, 21, 22, 23, 18, 24, 25, 26, 27] /\ PaB wE wx (.slice (some ⟨gu, ou, none⟩) n cu) g gu r zs j (if l 12 = true then 4 else (if l 11 = true then 3 else (if l 9 = true then 2 else (if l 4 = true then 1 else 0)))) D w /\ (l 0 = true -> a.eval (.tmp 19) = .slice (some ⟨gu, ou, none⟩) n cu) /\ (l 1 = true -> a.eval (.tmp 20) = .int .i64 (j : Nat)) /\ (l 2 = true -> a.eval (.tmp 21) = paV x) /\ (l 3 = true -> a.eval (.tmp 22) = paV q) /\ (l 4 = true -> a.eval (.tmp 23) = .tuple #[paV D.y, paV D.z, .bool D.t]) /\ (l 5 = true -> a.eval (.tmp 18) = .tuple #[paV D.y, paV D.z, .bool D.t]) /\ (l 6 = true -> a.eval (.tmp 24) = paV D.y) /\ (l 7 = true -> a.eval (.tmp 25) = paV D.z) /\ (l 8 = true -> a.eval (.tmp 26) = .bool D.t) /\ (l 10 = true -> a.eval (.tmp 27) = .pointer (some ⟨gu, ou + j * 4, none⟩)) /\ (l 9 = true -> l 4 = true) /\ (l 11 = true -> l 9 = true) /\ (l 12 = true -> l 11 = true) /\ (l 10 = true -> l 0 = true) /\ (l 11 = true -> l 10 = true) /\ (l 4 = true -> l 2 = true) /\ (l 4 = true -> l 3 = true) /\ (l 5 = true -> l 4 = true) /\ (l 6 = true -> l 4 = true) /\ (l 7 = true -> l 4 = true) /\ (l 8 = true -> l 4 = true)) ?_ ?_ ?_
  · intro l a w i o ho hl hwait ⟨D, so, st, f0, f1, f2, f3, f4, f5, f6, f7, f8, f10, d9_4, d11_9, d12_11, d10_0, d11_10, d4_2, d4_3, d5_4, d6_4, d7_4, d8_4⟩
    have hi : i < 13 := by rw [← hn]; exact (Array.getElem?_eq_some_iff.1 ho).1
    have hc : i = 0 ∨ i = 1 ∨ i = 2 ∨ i = 3 ∨ i = 4 ∨ i = 5 ∨ i = 6 ∨ i = 7 ∨ i = 8 ∨ i = 9 ∨ i = 10 ∨ i = 11 ∨ i = 12 := by omega
    rcases hc with rfl | rfl | rfl | rfl | rfl | rfl | rfl | rfl | rfl | rfl | rfl | rfl | rfl
    · have n10 : l 10 = false := by cases hx : l 10 with | false => rfl | true => have := d10_0 hx; rw [hl] at this; cases this
      have n11 : l 11 = false := by cases hx : l 11 with | false => rfl | true => have := d11_10 hx; rw [n10] at this; cases this
      have n12 : l 12 = false := by cases hx : l 12 with | false => rfl | true => have := d12_11 hx; rw [n11] at this; cases this
      have st0 := st
      have hb : BoxAt w (g + 1) #[.slice (some ⟨gu, ou, none⟩) n cu] 40 := by
        have hst := st
        simp only [n11, n12, Bool.false_eq_true, if_false] at hst
        split at hst
        · obtain ⟨⟨V1, h1, h2⟩, -⟩ := hst
          exact (hb5.later h1).other h2 (by omega)
        · split at hst
          · exact hb5.later hst.1
          · exact hb5.later hst
      refine o0.loadV1 ((show _ = a1.eval _ from by simp only [Act.eval, Array.getD_eq_getD_getElem?, so.out 5 (by decide)]).trans e5) hb ?_
      exact ⟨D, (so.put (by decide) _), st, (fun _ => eval_put_same' _ _ _ (by rw [so.size]; show (19 : Nat) < _; omega)), (fun e => (eval_put_other' _ _ (by decide)).trans (f1 e)), (fun e => (eval_put_other' _ _ (by decide)).trans (f2 e)), (fun e => (eval_put_other' _ _ (by decide)).trans (f3 e)), (fun e => (eval_put_other' _ _ (by decide)).trans (f4 e)), (fun e => (eval_put_other' _ _ (by decide)).trans (f5 e)), (fun e => (eval_put_other' _ _ (by decide)).trans (f6 e)), (fun e => (eval_put_other' _ _ (by decide)).trans (f7 e)), (fun e => (eval_put_other' _ _ (by decide)).trans (f8 e)), (fun e => by rw [show more l 0 10 = l 10 from rfl, n10] at e; cases e), d9_4, d11_9, d12_11, (fun _ => rfl), d11_10, d4_2, d4_3, d5_4, d6_4, d7_4, d8_4⟩
    · have st0 := st
      have ev : a.eval (.tmp 7) = .int .i64 (j : Nat) := ((show _ = a1.eval _ from by simp only [Act.eval, Array.getD_eq_getD_getElem?, so.out 7 (by decide)]).trans e7)
      refine o1.move ?_
      rw [ev]
      exact ⟨D, (so.put (by decide) _), st, (fun e => (eval_put_other' _ _ (by decide)).trans (f0 e)), (fun _ => eval_put_same' _ _ _ (by rw [so.size]; show (20 : Nat) < _; omega)), (fun e => (eval_put_other' _ _ (by decide)).trans (f2 e)), (fun e => (eval_put_other' _ _ (by decide)).trans (f3 e)), (fun e => (eval_put_other' _ _ (by decide)).trans (f4 e)), (fun e => (eval_put_other' _ _ (by decide)).trans (f5 e)), (fun e => (eval_put_other' _ _ (by decide)).trans (f6 e)), (fun e => (eval_put_other' _ _ (by decide)).trans (f7 e)), (fun e => (eval_put_other' _ _ (by decide)).trans (f8 e)), (fun e => (eval_put_other' _ _ (by decide)).trans (f10 e)), d9_4, d11_9, d12_11, d10_0, d11_10, d4_2, d4_3, d5_4, d6_4, d7_4, d8_4⟩
    · have n4 : l 4 = false := by cases hx : l 4 with | false => rfl | true => have := d4_2 hx; rw [hl] at this; cases this
      have n5 : l 5 = false := by cases hx : l 5 with | false => rfl | true => have := d5_4 hx; rw [n4] at this; cases this
      have n6 : l 6 = false := by cases hx : l 6 with | false => rfl | true => have := d6_4 hx; rw [n4] at this; cases this
      have n7 : l 7 = false := by cases hx : l 7 with | false => rfl | true => have := d7_4 hx; rw [n4] at this; cases this
      have n8 : l 8 = false := by cases hx : l 8 with | false => rfl | true => have := d8_4 hx; rw [n4] at this; cases this
      have n9 : l 9 = false := by cases hx : l 9 with | false => rfl | true => have := d9_4 hx; rw [n4] at this; cases this
      have n11 : l 11 = false := by cases hx : l 11 with | false => rfl | true => have := d11_9 hx; rw [n9] at this; cases this
      have n12 : l 12 = false := by cases hx : l 12 with | false => rfl | true => have := d12_11 hx; rw [n11] at this; cases this
      have st0 := st
      have hl0 : Later wx w := by
        have hst := st
        simp only [n4, n9, n11, n12, Bool.false_eq_true, if_false] at hst
        exact hst
      refine o2.loadA Tryz.underlying30 Tryz.patchSize ((show _ = a1.eval _ from by simp only [Act.eval, Array.getD_eq_getD_getElem?, so.out 8 (by decide)]).trans e8) (hbx.later hl0) ?_
      exact ⟨D, (so.put (by decide) _), st, (fun e => (eval_put_other' _ _ (by decide)).trans (f0 e)), (fun e => (eval_put_other' _ _ (by decide)).trans (f1 e)), (fun _ => eval_put_same' _ _ _ (by rw [so.size]; show (21 : Nat) < _; omega)), (fun e => (eval_put_other' _ _ (by decide)).trans (f3 e)), (fun e => by rw [show more l 2 4 = l 4 from rfl, n4] at e; cases e), (fun e => by rw [show more l 2 5 = l 5 from rfl, n5] at e; cases e), (fun e => by rw [show more l 2 6 = l 6 from rfl, n6] at e; cases e), (fun e => by rw [show more l 2 7 = l 7 from rfl, n7] at e; cases e), (fun e => by rw [show more l 2 8 = l 8 from rfl, n8] at e; cases e), (fun e => (eval_put_other' _ _ (by decide)).trans (f10 e)), d9_4, d11_9, d12_11, d10_0, d11_10, (fun _ => rfl), d4_3, d5_4, d6_4, d7_4, d8_4⟩
    · have n4 : l 4 = false := by cases hx : l 4 with | false => rfl | true => have := d4_3 hx; rw [hl] at this; cases this
      have n5 : l 5 = false := by cases hx : l 5 with | false => rfl | true => have := d5_4 hx; rw [n4] at this; cases this
      have n6 : l 6 = false := by cases hx : l 6 with | false => rfl | true => have := d6_4 hx; rw [n4] at this; cases this
      have n7 : l 7 = false := by cases hx : l 7 with | false => rfl | true => have := d7_4 hx; rw [n4] at this; cases this
      have n8 : l 8 = false := by cases hx : l 8 with | false => rfl | true => have := d8_4 hx; rw [n4] at this; cases this
      have n9 : l 9 = false := by cases hx : l 9 with | false => rfl | true => have := d9_4 hx; rw [n4] at this; cases this
      have n11 : l 11 = false := by cases hx : l 11 with | false => rfl | true => have := d11_9 hx; rw [n9] at this; cases this
      have n12 : l 12 = false := by cases hx : l 12 with | false => rfl | true => have := d12_11 hx; rw [n11] at this; cases this
      have st0 := st
      have hl0 : Later wx w := by
        have hst := st
        simp only [n4, n9, n11, n12, Bool.false_eq_true, if_false] at hst
        exact hst
      refine o3.loadA Tryz.underlying30 Tryz.patchSize ((show _ = a1.eval _ from by simp only [Act.eval, Array.getD_eq_getD_getElem?, so.out 4 (by decide)]).trans e4) (hb4.later hl0) ?_
      exact ⟨D, (so.put (by decide) _), st, (fun e => (eval_put_other' _ _ (by decide)).trans (f0 e)), (fun e => (eval_put_other' _ _ (by decide)).trans (f1 e)), (fun e => (eval_put_other' _ _ (by decide)).trans (f2 e)), (fun _ => eval_put_same' _ _ _ (by rw [so.size]; show (22 : Nat) < _; omega)), (fun e => by rw [show more l 3 4 = l 4 from rfl, n4] at e; cases e), (fun e => by rw [show more l 3 5 = l 5 from rfl, n5] at e; cases e), (fun e => by rw [show more l 3 6 = l 6 from rfl, n6] at e; cases e), (fun e => by rw [show more l 3 7 = l 7 from rfl, n7] at e; cases e), (fun e => by rw [show more l 3 8 = l 8 from rfl, n8] at e; cases e), (fun e => (eval_put_other' _ _ (by decide)).trans (f10 e)), d9_4, d11_9, d12_11, d10_0, d11_10, d4_2, (fun _ => rfl), d5_4, d6_4, d7_4, d8_4⟩
    · have ws := o4.waits ho hwait
      have w2 := ws 2 (by simp)
      have w3 := ws 3 (by simp)
      have n9 : l 9 = false := by cases hx : l 9 with | false => rfl | true => have := d9_4 hx; rw [hl] at this; cases this
      have n11 : l 11 = false := by cases hx : l 11 with | false => rfl | true => have := d11_9 hx; rw [n9] at this; cases this
      have n12 : l 12 = false := by cases hx : l 12 with | false => rfl | true => have := d12_11 hx; rw [n11] at this; cases this
      have n5 : l 5 = false := by cases hx : l 5 with | false => rfl | true => have := d5_4 hx; rw [hl] at this; cases this
      have n6 : l 6 = false := by cases hx : l 6 with | false => rfl | true => have := d6_4 hx; rw [hl] at this; cases this
      have n7 : l 7 = false := by cases hx : l 7 with | false => rfl | true => have := d7_4 hx; rw [hl] at this; cases this
      have n8 : l 8 = false := by cases hx : l 8 with | false => rfl | true => have := d8_4 hx; rw [hl] at this; cases this
      have st0 : PaB wE wx (.slice (some ⟨gu, ou, none⟩) n cu) g gu r zs j 0 D w := by
        have hst := st
        simp only [hl, n9, n11, n12, Bool.false_eq_true, if_false] at hst
        exact hst
      refine o4.call2 (enters_of Tryz.func9 (by kernel_rfl) rfl) (f2 w2) (f3 w3) (swap7_any x q w (hx.later st0) (hqo.later st0)) ?_
      rw [hr]
      rintro e w' ⟨y, z, rfl, oy, oz, fy, fz, hl', -, hv'⟩
      have st1 : PaB wE wx (.slice (some ⟨gu, ou, none⟩) n cu) g gu r zs j 1 ⟨y, z, r.isSome⟩ w' := ⟨Later.trans st0 hl', oy, oz, rfl, fy.base st0, fz.base st0, hv'⟩
      have st2 : PaB wE wx (.slice (some ⟨gu, ou, none⟩) n cu) g gu r zs j (if (more l 4) 12 = true then 4 else (if (more l 4) 11 = true then 3 else (if (more l 4) 9 = true then 2 else (if (more l 4) 4 = true then 1 else 0)))) (⟨y, z, r.isSome⟩) w' := by
        rw [if_neg (show ¬ (more l 4 12 = true) from by rw [show more l 4 12 = l 12 from rfl, n12]; simp), if_neg (show ¬ (more l 4 11 = true) from by rw [show more l 4 11 = l 11 from rfl, n11]; simp), if_neg (show ¬ (more l 4 9 = true) from by rw [show more l 4 9 = l 9 from rfl, n9]; simp), if_pos (show more l 4 4 = true from rfl)]
        exact st1
      exact ⟨_, rfl, ⟨⟨y, z, r.isSome⟩, (so.put (by decide) _), st2, (fun e => (eval_put_other' _ _ (by decide)).trans (f0 e)), (fun e => (eval_put_other' _ _ (by decide)).trans (f1 e)), (fun e => (eval_put_other' _ _ (by decide)).trans (f2 e)), (fun e => (eval_put_other' _ _ (by decide)).trans (f3 e)), (fun _ => eval_put_same' _ _ _ (by rw [so.size]; show (23 : Nat) < _; omega)), (fun e => by rw [show more l 4 5 = l 5 from rfl, n5] at e; cases e), (fun e => by rw [show more l 4 6 = l 6 from rfl, n6] at e; cases e), (fun e => by rw [show more l 4 7 = l 7 from rfl, n7] at e; cases e), (fun e => by rw [show more l 4 8 = l 8 from rfl, n8] at e; cases e), (fun e => (eval_put_other' _ _ (by decide)).trans (f10 e)), (fun _ => rfl), d11_9, d12_11, d10_0, d11_10, (fun _ => w2), (fun _ => w3), (fun _ => rfl), (fun _ => rfl), (fun _ => rfl), (fun _ => rfl)⟩⟩
    · have ws := o5.waits ho hwait
      have w4 := ws 4 (by simp)
      have w2 := d4_2 w4
      have w3 := d4_3 w4
      have st0 := st
      refine o5.move ?_
      rw [f4 w4]
      exact ⟨D, (so.put (by decide) _), st, (fun e => (eval_put_other' _ _ (by decide)).trans (f0 e)), (fun e => (eval_put_other' _ _ (by decide)).trans (f1 e)), (fun e => (eval_put_other' _ _ (by decide)).trans (f2 e)), (fun e => (eval_put_other' _ _ (by decide)).trans (f3 e)), (fun e => (eval_put_other' _ _ (by decide)).trans (f4 e)), (fun _ => eval_put_same' _ _ _ (by rw [so.size]; show (18 : Nat) < _; omega)), (fun e => (eval_put_other' _ _ (by decide)).trans (f6 e)), (fun e => (eval_put_other' _ _ (by decide)).trans (f7 e)), (fun e => (eval_put_other' _ _ (by decide)).trans (f8 e)), (fun e => (eval_put_other' _ _ (by decide)).trans (f10 e)), d9_4, d11_9, d12_11, d10_0, d11_10, d4_2, d4_3, (fun _ => w4), d6_4, d7_4, d8_4⟩
    · have ws := o6.waits ho hwait
      have w5 := ws 5 (by simp)
      have w4 := d5_4 w5
      have w2 := d4_2 w4
      have w3 := d4_3 w4
      have st0 := st
      refine o6.extract (f5 w5) rfl ?_
      exact ⟨D, (so.put (by decide) _), st, (fun e => (eval_put_other' _ _ (by decide)).trans (f0 e)), (fun e => (eval_put_other' _ _ (by decide)).trans (f1 e)), (fun e => (eval_put_other' _ _ (by decide)).trans (f2 e)), (fun e => (eval_put_other' _ _ (by decide)).trans (f3 e)), (fun e => (eval_put_other' _ _ (by decide)).trans (f4 e)), (fun e => (eval_put_other' _ _ (by decide)).trans (f5 e)), (fun _ => eval_put_same' _ _ _ (by rw [so.size]; show (24 : Nat) < _; omega)), (fun e => (eval_put_other' _ _ (by decide)).trans (f7 e)), (fun e => (eval_put_other' _ _ (by decide)).trans (f8 e)), (fun e => (eval_put_other' _ _ (by decide)).trans (f10 e)), d9_4, d11_9, d12_11, d10_0, d11_10, d4_2, d4_3, d5_4, (fun _ => w4), d7_4, d8_4⟩
    · have ws := o7.waits ho hwait
      have w5 := ws 5 (by simp)
      have w4 := d5_4 w5
      have w2 := d4_2 w4
      have w3 := d4_3 w4
      have st0 := st
      refine o7.extract (f5 w5) rfl ?_
      exact ⟨D, (so.put (by decide) _), st, (fun e => (eval_put_other' _ _ (by decide)).trans (f0 e)), (fun e => (eval_put_other' _ _ (by decide)).trans (f1 e)), (fun e => (eval_put_other' _ _ (by decide)).trans (f2 e)), (fun e => (eval_put_other' _ _ (by decide)).trans (f3 e)), (fun e => (eval_put_other' _ _ (by decide)).trans (f4 e)), (fun e => (eval_put_other' _ _ (by decide)).trans (f5 e)), (fun e => (eval_put_other' _ _ (by decide)).trans (f6 e)), (fun _ => eval_put_same' _ _ _ (by rw [so.size]; show (25 : Nat) < _; omega)), (fun e => (eval_put_other' _ _ (by decide)).trans (f8 e)), (fun e => (eval_put_other' _ _ (by decide)).trans (f10 e)), d9_4, d11_9, d12_11, d10_0, d11_10, d4_2, d4_3, d5_4, d6_4, (fun _ => w4), d8_4⟩
    · have ws := o8.waits ho hwait
      have w5 := ws 5 (by simp)
      have w4 := d5_4 w5
      have w2 := d4_2 w4
      have w3 := d4_3 w4
      have st0 := st
      refine o8.extract (f5 w5) rfl ?_
      exact ⟨D, (so.put (by decide) _), st, (fun e => (eval_put_other' _ _ (by decide)).trans (f0 e)), (fun e => (eval_put_other' _ _ (by decide)).trans (f1 e)), (fun e => (eval_put_other' _ _ (by decide)).trans (f2 e)), (fun e => (eval_put_other' _ _ (by decide)).trans (f3 e)), (fun e => (eval_put_other' _ _ (by decide)).trans (f4 e)), (fun e => (eval_put_other' _ _ (by decide)).trans (f5 e)), (fun e => (eval_put_other' _ _ (by decide)).trans (f6 e)), (fun e => (eval_put_other' _ _ (by decide)).trans (f7 e)), (fun _ => eval_put_same' _ _ _ (by rw [so.size]; show (26 : Nat) < _; omega)), (fun e => (eval_put_other' _ _ (by decide)).trans (f10 e)), d9_4, d11_9, d12_11, d10_0, d11_10, d4_2, d4_3, d5_4, d6_4, d7_4, (fun _ => w4)⟩
    · have ws := o9.waits ho hwait
      have w6 := ws 6 (by simp)
      have w4 := ws 4 (by simp)
      have w2 := d4_2 w4
      have w3 := d4_3 w4
      have n11 : l 11 = false := by cases hx : l 11 with | false => rfl | true => have := d11_9 hx; rw [hl] at this; cases this
      have n12 : l 12 = false := by cases hx : l 12 with | false => rfl | true => have := d12_11 hx; rw [n11] at this; cases this
      have st0 : PaB wE wx (.slice (some ⟨gu, ou, none⟩) n cu) g gu r zs j 1 D w := by
        have hst := st
        simp only [hl, n11, n12, Bool.false_eq_true, if_false, if_true, w4] at hst
        exact hst
      refine o9.storeA Tryz.patchSize ((show _ = a1.eval _ from by simp only [Act.eval, Array.getD_eq_getD_getElem?, so.out 4 (by decide)]).trans e4) (f6 w6) (hb4.later st0.1) rfl ?_
      intro w' hb' ht'
      have st1 : PaB wE wx (.slice (some ⟨gu, ou, none⟩) n cu) g gu r zs j 2 D w' := ⟨⟨w, st0.1, ht'⟩, hb', st0.2.1.off ht' (st0.2.2.2.2.1.away (by omega)), st0.2.2.1.off ht' (st0.2.2.2.2.2.1.away (by omega)), st0.2.2.2⟩
      have st2 : PaB wE wx (.slice (some ⟨gu, ou, none⟩) n cu) g gu r zs j (if (more l 9) 12 = true then 4 else (if (more l 9) 11 = true then 3 else (if (more l 9) 9 = true then 2 else (if (more l 9) 4 = true then 1 else 0)))) (D) w' := by
        rw [if_neg (show ¬ (more l 9 12 = true) from by rw [show more l 9 12 = l 12 from rfl, n12]; simp), if_neg (show ¬ (more l 9 11 = true) from by rw [show more l 9 11 = l 11 from rfl, n11]; simp), if_pos (show more l 9 9 = true from rfl)]
        exact st1
      exact ⟨D, so, st2, f0, f1, f2, f3, f4, f5, f6, f7, f8, f10, (fun _ => w4), (fun _ => rfl), d12_11, d10_0, d11_10, d4_2, d4_3, d5_4, d6_4, d7_4, d8_4⟩
    · have ws := o10.waits ho hwait
      have w0 := ws 0 (by simp)
      have w1 := ws 1 (by simp)
      have n11 : l 11 = false := by cases hx : l 11 with | false => rfl | true => have := d11_10 hx; rw [hl] at this; cases this
      have n12 : l 12 = false := by cases hx : l 12 with | false => rfl | true => have := d12_11 hx; rw [n11] at this; cases this
      have st0 := st
      refine o10.indexN (f0 w0) (f1 w1) hj ?_
      exact ⟨D, (so.put (by decide) _), st, (fun e => (eval_put_other' _ _ (by decide)).trans (f0 e)), (fun e => (eval_put_other' _ _ (by decide)).trans (f1 e)), (fun e => (eval_put_other' _ _ (by decide)).trans (f2 e)), (fun e => (eval_put_other' _ _ (by decide)).trans (f3 e)), (fun e => (eval_put_other' _ _ (by decide)).trans (f4 e)), (fun e => (eval_put_other' _ _ (by decide)).trans (f5 e)), (fun e => (eval_put_other' _ _ (by decide)).trans (f6 e)), (fun e => (eval_put_other' _ _ (by decide)).trans (f7 e)), (fun e => (eval_put_other' _ _ (by decide)).trans (f8 e)), (fun _ => eval_put_same' _ _ _ (by rw [so.size]; show (27 : Nat) < _; omega)), d9_4, d11_9, d12_11, (fun _ => w0), (fun _ => rfl), d4_2, d4_3, d5_4, d6_4, d7_4, d8_4⟩
    · have ws := o11.waits ho hwait
      have w10 := ws 10 (by simp)
      have w7 := ws 7 (by simp)
      have w9 := ws 9 (by simp)
      have w4 := ws 4 (by simp)
      have w0 := d10_0 w10
      have w2 := d4_2 w4
      have w3 := d4_3 w4
      have n12 : l 12 = false := by cases hx : l 12 with | false => rfl | true => have := d12_11 hx; rw [hl] at this; cases this
      have st0 : PaB wE wx (.slice (some ⟨gu, ou, none⟩) n cu) g gu r zs j 2 D w := by
        have hst := st
        simp only [hl, n12, Bool.false_eq_true, if_false, if_true, w9] at hst
        exact hst
      obtain ⟨V1, h1, h2⟩ := st0.1
      have hlE : Later wE w := (hownu.later.trans h1).turn h2 hg0
      refine o11.storeNs Tryz.patchSize (f10 w10) (f7 w7) ((hownu.on h1).other h2 (fun e => by have h9 : gu = g := Option.some.inj e; omega) hzg hlE) hj st0.2.2.2.1 (st0.2.2.2.2.2.2.1.away hgu) ?_
      intro w' ho' ht'
      have st1 : PaB wE wx (.slice (some ⟨gu, ou, none⟩) n cu) g gu r zs j 3 D w' := ⟨⟨V1, w, h1, h2, ht'⟩, st0.2.1.other ht' (by omega), ho', st0.2.2.1.off ht' (st0.2.2.2.2.2.1.away hgu), st0.2.2.2.2⟩
      have st2 : PaB wE wx (.slice (some ⟨gu, ou, none⟩) n cu) g gu r zs j (if (more l 11) 12 = true then 4 else (if (more l 11) 11 = true then 3 else (if (more l 11) 9 = true then 2 else (if (more l 11) 4 = true then 1 else 0)))) (D) w' := by
        rw [if_neg (show ¬ (more l 11 12 = true) from by rw [show more l 11 12 = l 12 from rfl, n12]; simp), if_pos (show more l 11 11 = true from rfl)]
        exact st1
      exact ⟨D, so, st2, f0, f1, f2, f3, f4, f5, f6, f7, f8, f10, d9_4, (fun _ => w9), (fun _ => rfl), d10_0, (fun _ => w10), d4_2, d4_3, d5_4, d6_4, d7_4, d8_4⟩
    · have ws := o12.waits ho hwait
      have w8 := ws 8 (by simp)
      have w11 := ws 11 (by simp)
      have w9 := d11_9 w11
      have w10 := d11_10 w11
      have w4 := d8_4 w8
      have w0 := d10_0 w10
      have w2 := d4_2 w4
      have w3 := d4_3 w4
      have st0 : PaB wE wx (.slice (some ⟨gu, ou, none⟩) n cu) g gu r zs j 3 D w := by
        have hst := st
        simp only [hl, Bool.false_eq_true, if_false, if_true, w11] at hst
        exact hst
      obtain ⟨V1, V2, h1, h2, h3⟩ := st0.1
      have hb6' : BoxAt w (g + 2) #[bv] 4 := ((hb6.later h1).other h2 (by omega)).other h3 (by omega)
      refine o12.storeB ((show _ = a1.eval _ from by simp only [Act.eval, Array.getD_eq_getD_getElem?, so.out 6 (by decide)]).trans e6) (f8 w8) hb6' ?_
      intro w' hb' ht'
      have hlw' : Later wE w' := st0.2.2.1.later.turn ht' (by omega)
      have st1 : PaB wE wx (.slice (some ⟨gu, ou, none⟩) n cu) g gu r zs j 4 D w' := ⟨⟨V1, V2, w, h1, h2, h3, ht'⟩, st0.2.1.other ht' (by omega), st0.2.2.1.other ht' (fun e => by have h9 : gu = g + 2 := Option.some.inj e; omega) (fun z hz => by
        rcases List.mem_or_eq_of_mem_set hz with h | rfl
        · exact hz6 z h
        · exact st0.2.2.2.2.2.2.1.away (by omega)) hlw', st0.2.2.2.1.off ht' (st0.2.2.2.2.2.1.away (by omega)), st0.2.2.2.2, hb'⟩
      have st2 : PaB wE wx (.slice (some ⟨gu, ou, none⟩) n cu) g gu r zs j (if (more l 12) 12 = true then 4 else (if (more l 12) 11 = true then 3 else (if (more l 12) 9 = true then 2 else (if (more l 12) 4 = true then 1 else 0)))) (D) w' := by
        rw [if_pos (show more l 12 12 = true from rfl)]
        exact st1
      exact ⟨D, so, st2, f0, f1, f2, f3, f4, f5, f6, f7, f8, f10, d9_4, d11_9, (fun _ => w11), d10_0, d11_10, d4_2, d4_3, d5_4, d6_4, d7_4, d8_4⟩
  · intro l a w hall ⟨D, so, st, f0, f1, f2, f3, f4, f5, f6, f7, f8, f10, d9_4, d11_9, d12_11, d10_0, d11_10, d4_2, d4_3, d5_4, d6_4, d7_4, d8_4⟩
    rw [hn] at hall
    have hst : PaB wE wx (.slice (some ⟨gu, ou, none⟩) n cu) g gu r zs j 4 D w := by
      have hst := st
      simp only [hall 12 (by decide), if_true] at hst
      exact hst
    exact hend D a w so hst
  · have h0 : PaB wE wx (.slice (some ⟨gu, ou, none⟩) n cu) g gu r zs j 0 ⟨zeroN, zeroN, false⟩ { wx with drawn := wx.drawn + 1 } := (Later.refl wx).drew
    exact ⟨⟨zeroN, zeroN, false⟩, SameOut.refl _ _, h0, (fun e => by cases e), (fun e => by cases e), (fun e => by cases e), (fun e => by cases e), (fun e => by cases e), (fun e => by cases e), (fun e => by cases e), (fun e => by cases e), (fun e => by cases e), (fun e => by cases e), (fun e => by cases e), (fun e => by cases e), (fun e => by cases e), (fun e => by cases e), (fun e => by cases e), (fun e => by cases e), (fun e => by cases e), (fun e => by cases e), (fun e => by cases e), (fun e => by cases e), (fun e => by cases e)⟩

end Go.Proofs.YtlnjhimbgckdcaaGreat
