import Derived.Test.YtomboeiaajggoaaGreatPk11
import Derived.Test.YtomboeiaajggoaaGreatPk13
import Derived.Test.YtomboeiaajggoaaGreatPk14
import Derived.RangeFuncNested
import Derived.RangeFuncBound
import Derived.RangeFuncCalls
import Derived.RangeFuncLeaves
import Derived.Test.YtomboeiaajggoaaGreatPk1
import Derived.Shelf.Abstract
import Derived.Shelf.RegionOpen
import Derived.OwnWalkIn
import Derived.TacticsInMore
import Derived.LoopNIn
import Derived.LoopIn
import Derived.Test.YtomboeiaajggoaaGreatPk9
import Derived.Lib.Hide

/-
  The statement of Invert's loop: in whatever order its operations come.
-/
namespace Go.Proofs.YtomboeiaajggoaaGreat
open Go.RowKit Go.Maps

structure InvD where
  y : PrC
  gs : Nat
  v2 : Value
/-- What stands behind each of the operations that turn the world: the call, the slice, append, the store. -/
def InvSt (w V0 : World) (g0 : Nat) (v : Value) (x : PrC) (ys : List PrC) : Nat → InvD → World → Prop
  | 0, _, V => Later V0 V
  | 1, D, V => Later V0 V ∧ D.y.v = invertP x.v ∧ PrOk V D.y ∧ Fresh V0 D.y
  | 2, D, V => Later V0 V ∧ D.y.v = invertP x.v ∧ PrOk V D.y ∧ Fresh V0 D.y ∧ RowK 6 V (some ⟨D.gs, 0, none⟩) 1 ([D.y].map prL)
  | 3, D, V => D.y.v = invertP x.v ∧ Fresh V0 D.y ∧ OwnPs 69 w V D.v2 (ys ++ [D.y]) ∧ V0.grownBy V v.ownBlock
  | _, D, V => D.y.v = invertP x.v ∧ Fresh V0 D.y ∧ OwnPs 69 w V D.v2 (ys ++ [D.y]) ∧ BoxAt V g0 #[D.v2] 28 ∧ ∃ V1, V0.grownBy V1 v.ownBlock ∧ Turned g0 V1 V
theorem BoxAt.grown {w w' : World} {g : Nat} {cs : Array Value} {t : TypeId} {r : Option Nat} (h : BoxAt w g cs t) (hg : w.grownBy w' r) (hne : some g ≠ r) : BoxAt w' g cs t := (hg.block g h.lt hne).trans h
/-- A row of prims lies in no block of another kind. -/
theorem OwnPs.noBox {e t : TypeId} {w0 w : World} {v : Value} {xs : List PrC} {g : Nat} {cs : Array Value} (h : OwnPs e w0 w v xs) (hb : BoxAt w g cs t) (hne : t ≠ e) : v.ownBlock ≠ some g := by
  rcases h.own.1.2 with ⟨rfl, _⟩ | ⟨g', cap, cur, rfl, _, hh, _⟩
  · simp [Value.ownBlock]
  · intro e
    simp only [Value.ownBlock, Option.some.injEq] at e
    subst e
    unfold BoxAt at hb
    rw [hb] at hh
    simp at hh
    exact hne hh.2

set_option maxHeartbeats 1600000 in
theorem inv_region {ops : Array Oper} (hn : ops.size = 6) (hg : goesBack ops = true) (hdf : noDefer ops = true)
    (o0 : OpIs ops 0 (.load 28 (.tmp 3)) (some 10) [])
    (o1 : OpIs ops 1 (.load 69 (.tmp 5)) (some 11) [])
    (o2 : OpIs ops 2 (.call { callee := .value (.func 79), args := #[.tmp 11], argTypes := #[69] }) (some 12) [1])
    (o3 : OpIs ops 3 (.buildSlice 28 1 #[(0, .tmp 12)]) (some 13) [2])
    (o4 : OpIs ops 4 (.call { callee := .builtin .append, args := #[.tmp 10, .tmp 13], argTypes := #[28, 28] }) (some 14) [0, 3])
    (o5 : OpIs ops 5 (.store 28 (.tmp 3) (.tmp 14)) none [4])
    {a1 : Act} (hs : 16 ≤ a1.tmps.size) {wx : World} {wE : World} {g0 gx : Nat} {v : Value} {x : PrC} {ys : List PrC} (e3 : a1.eval (.tmp 3) = .pointer (some ⟨g0, 0, none⟩)) (e5 : a1.eval (.tmp 5) = .pointer (some ⟨gx, 0, none⟩)) (hb0 : BoxAt wx g0 #[v] 28) (hbx : BoxAt wx gx (prL x).toArray 69) (hx : PrOk wx x) (hown : OwnPs 69 wE wx v ys) (hne : v.ownBlock ≠ some g0) (haw : ∀ z ∈ ys, Away g0 z) (hg0 : wE.heap.size ≤ g0) (hlen : ys.length ≤ 65536)
    {Q : Exit → Act → World → Prop} (hq : ¬ LetsOut Q) {id lp mp : Nat} (hend : ∀ (D : InvD) (a : Act) (w : World), SameOut a1 a [10, 11, 12, 13, 14] → InvSt wE wx g0 v x ys (4) D w → Q .normal a w) :
    (Code.region id ops true).wpIn (Fence.wide.inRound lp) mp Tryz.prog Q a1 wx := by
  refine regionIn_inv (by kernel_rfl) hg hdf hq (fun l a w => ∃ D : InvD, SameOut a1 a [10, 11, 12, 13, 14] ∧ InvSt wE wx g0 v x ys (if l 5 = true then 4 else (if l 4 = true then 3 else (if l 3 = true then 2 else (if l 2 = true then 1 else 0)))) D w ∧ (l 0 = true → a.eval (.tmp 10) = v) ∧ (l 1 = true → a.eval (.tmp 11) = prV x) ∧ (l 2 = true → a.eval (.tmp 12) = prV D.y) ∧ (l 3 = true → a.eval (.tmp 13) = .slice (some ⟨D.gs, 0, none⟩) 1 1) ∧ (l 4 = true → a.eval (.tmp 14) = D.v2) ∧ (l 3 = true → l 2 = true) ∧ (l 4 = true → l 3 = true) ∧ (l 5 = true → l 4 = true) ∧ (l 4 = true → l 0 = true) ∧ (l 2 = true → l 1 = true)) ?_ ?_ ?_
  · intro l a w i o ho hl hwait ⟨D, so, st, f0, f1, f2, f3, f4, d3_2, d4_3, d5_4, d4_0, d2_1⟩
    have hi : i < 6 := by rw [← hn]; exact (Array.getElem?_eq_some_iff.1 ho).1
    have hc : i = 0 ∨ i = 1 ∨ i = 2 ∨ i = 3 ∨ i = 4 ∨ i = 5 := by omega
    rcases hc with rfl | rfl | rfl | rfl | rfl | rfl
    · have n4 : l 4 = false := by cases hx : l 4 with | false => rfl | true => have := d4_0 hx; rw [hl] at this; cases this
      have n5 : l 5 = false := by cases hx : l 5 with | false => rfl | true => have := d5_4 hx; rw [n4] at this; cases this
      have st0 := st
      have hl0 : Later wx w := by
        have hst := st
        simp only [n4, n5, Bool.false_eq_true, if_false] at hst
        split at hst
        · exact hst.1
        · split at hst
          · exact hst.1
          · exact hst
      refine o0.loadS ((show _ = a1.eval _ from by simp only [Act.eval, Array.getD_eq_getD_getElem?, so.out 3 (by decide)]).trans e3) (hb0.later hl0) ?_
      exact ⟨D, (so.put (by decide) _), st, (fun _ => eval_put_same' _ _ _ (by rw [so.size]; show (10 : Nat) < _; omega)), (fun e => (eval_put_other' _ _ (by decide)).trans (f1 e)), (fun e => (eval_put_other' _ _ (by decide)).trans (f2 e)), (fun e => (eval_put_other' _ _ (by decide)).trans (f3 e)), (fun e => by rw [show more l 0 4 = l 4 from rfl, n4] at e; cases e), d3_2, d4_3, d5_4, (fun _ => rfl), d2_1⟩
    · have n2 : l 2 = false := by cases hx : l 2 with | false => rfl | true => have := d2_1 hx; rw [hl] at this; cases this
      have n3 : l 3 = false := by cases hx : l 3 with | false => rfl | true => have := d3_2 hx; rw [n2] at this; cases this
      have n4 : l 4 = false := by cases hx : l 4 with | false => rfl | true => have := d4_3 hx; rw [n3] at this; cases this
      have n5 : l 5 = false := by cases hx : l 5 with | false => rfl | true => have := d5_4 hx; rw [n4] at this; cases this
      have st0 := st
      have hl0 : Later wx w := by
        have hst := st
        simp only [n2, n3, n4, n5, Bool.false_eq_true, if_false] at hst
        exact hst
      refine o1.load Tryz.underlying69 Tryz.primSize ((show _ = a1.eval _ from by simp only [Act.eval, Array.getD_eq_getD_getElem?, so.out 5 (by decide)]).trans e5) (hbx.later hl0) ?_
      exact ⟨D, (so.put (by decide) _), st, (fun e => (eval_put_other' _ _ (by decide)).trans (f0 e)), (fun _ => eval_put_same' _ _ _ (by rw [so.size]; show (11 : Nat) < _; omega)), (fun e => by rw [show more l 1 2 = l 2 from rfl, n2] at e; cases e), (fun e => by rw [show more l 1 3 = l 3 from rfl, n3] at e; cases e), (fun e => by rw [show more l 1 4 = l 4 from rfl, n4] at e; cases e), d3_2, d4_3, d5_4, d4_0, (fun _ => rfl)⟩
    · have ws := o2.waits ho hwait
      have w1 := ws 1 (by simp)
      have n3 : l 3 = false := by cases hx : l 3 with | false => rfl | true => have := d3_2 hx; rw [hl] at this; cases this
      have n4 : l 4 = false := by cases hx : l 4 with | false => rfl | true => have := d4_3 hx; rw [n3] at this; cases this
      have n5 : l 5 = false := by cases hx : l 5 with | false => rfl | true => have := d5_4 hx; rw [n4] at this; cases this
      have st0 : InvSt wE wx g0 v x ys 0 D w := by
        have hst := st
        simp only [hl, n3, n4, n5, Bool.false_eq_true, if_false] at hst
        exact hst
      refine o2.call1 (enters_of Tryz.func79 (by kernel_rfl) rfl) (f1 w1) (invertP_any x w (hx.later st0)) ?_
      rintro e w' ⟨y, rfl, hy, oky, fry, hl'⟩
      have st1 : InvSt wE wx g0 v x ys 1 { D with y := y } w' := ⟨Later.trans st0 hl', hy, oky, fry.base st0⟩
      have st2 : InvSt wE wx g0 v x ys (if (more l 2) 5 = true then 4 else (if (more l 2) 4 = true then 3 else (if (more l 2) 3 = true then 2 else (if (more l 2) 2 = true then 1 else 0)))) ({ D with y := y }) w' := by
        rw [if_neg (show ¬ (more l 2 5 = true) from by rw [show more l 2 5 = l 5 from rfl, n5]; simp), if_neg (show ¬ (more l 2 4 = true) from by rw [show more l 2 4 = l 4 from rfl, n4]; simp), if_neg (show ¬ (more l 2 3 = true) from by rw [show more l 2 3 = l 3 from rfl, n3]; simp), if_pos (show more l 2 2 = true from rfl)]
        exact st1
      exact ⟨_, rfl, ⟨{ D with y := y }, (so.put (by decide) _), st2, (fun e => (eval_put_other' _ _ (by decide)).trans (f0 e)), (fun e => (eval_put_other' _ _ (by decide)).trans (f1 e)), (fun _ => eval_put_same' _ _ _ (by rw [so.size]; show (12 : Nat) < _; omega)), (fun e => by rw [show more l 2 3 = l 3 from rfl, n3] at e; cases e), (fun e => by rw [show more l 2 4 = l 4 from rfl, n4] at e; cases e), (fun _ => rfl), d4_3, d5_4, d4_0, (fun _ => w1)⟩⟩
    · have ws := o3.waits ho hwait
      have w2 := ws 2 (by simp)
      have w1 := d2_1 w2
      have n4 : l 4 = false := by cases hx : l 4 with | false => rfl | true => have := d4_3 hx; rw [hl] at this; cases this
      have n5 : l 5 = false := by cases hx : l 5 with | false => rfl | true => have := d5_4 hx; rw [n4] at this; cases this
      have st0 : InvSt wE wx g0 v x ys 1 D w := by
        have hst := st
        simp only [hl, n4, n5, Bool.false_eq_true, if_false, if_true, w2] at hst
        exact hst
      refine o3.build1 (f2 w2) ?_
      have st1 : InvSt wE wx g0 v x ys 2 { D with gs := w.heap.size } (w.alloc (.cells (prL D.y).toArray 69)) := ⟨st0.1.alloc _, st0.2.1, st0.2.2.1.later6 _, st0.2.2.2, row_one w D.y _⟩
      have st2 : InvSt wE wx g0 v x ys (if (more l 3) 5 = true then 4 else (if (more l 3) 4 = true then 3 else (if (more l 3) 3 = true then 2 else (if (more l 3) 2 = true then 1 else 0)))) ({ D with gs := w.heap.size }) (w.alloc (.cells (prL D.y).toArray 69)) := by
        rw [if_neg (show ¬ (more l 3 5 = true) from by rw [show more l 3 5 = l 5 from rfl, n5]; simp), if_neg (show ¬ (more l 3 4 = true) from by rw [show more l 3 4 = l 4 from rfl, n4]; simp), if_pos (show more l 3 3 = true from rfl)]
        exact st1
      exact ⟨{ D with gs := w.heap.size }, (so.put (by decide) _), st2, (fun e => (eval_put_other' _ _ (by decide)).trans (f0 e)), (fun e => (eval_put_other' _ _ (by decide)).trans (f1 e)), (fun e => (eval_put_other' _ _ (by decide)).trans (f2 e)), (fun _ => eval_put_same' _ _ _ (by rw [so.size]; show (13 : Nat) < _; omega)), (fun e => by rw [show more l 3 4 = l 4 from rfl, n4] at e; cases e), (fun _ => w2), (fun _ => rfl), d5_4, d4_0, d2_1⟩
    · have ws := o4.waits ho hwait
      have w0 := ws 0 (by simp)
      have w3 := ws 3 (by simp)
      have w2 := d3_2 w3
      have w1 := d2_1 w2
      have n5 : l 5 = false := by cases hx : l 5 with | false => rfl | true => have := d5_4 hx; rw [hl] at this; cases this
      have st0 : InvSt wE wx g0 v x ys 2 D w := by
        have hst := st
        simp only [hl, n5, Bool.false_eq_true, if_false, if_true, w3] at hst
        exact hst
      refine o4.append (f0 w0) (f3 w3) (hown.on st0.1) st0.2.2.2.2 (fun y hy => by simp at hy; subst hy; exact st0.2.2.1) (fun y hy g hgb => by simp at hy; subst hy; exact st0.2.2.2.1.away (hown.lt g hgb)) (by omega) ?_
      intro v2 w' ho2 hg2
      have st1 : InvSt wE wx g0 v x ys 3 { D with v2 := v2 } w' := ⟨st0.2.1, st0.2.2.2.1, ho2, grown_trans (grown_later st0.1 _) hg2⟩
      have st2 : InvSt wE wx g0 v x ys (if (more l 4) 5 = true then 4 else (if (more l 4) 4 = true then 3 else (if (more l 4) 3 = true then 2 else (if (more l 4) 2 = true then 1 else 0)))) ({ D with v2 := v2 }) w' := by
        rw [if_neg (show ¬ (more l 4 5 = true) from by rw [show more l 4 5 = l 5 from rfl, n5]; simp), if_pos (show more l 4 4 = true from rfl)]
        exact st1
      exact ⟨{ D with v2 := v2 }, (so.put (by decide) _), st2, (fun e => (eval_put_other' _ _ (by decide)).trans (f0 e)), (fun e => (eval_put_other' _ _ (by decide)).trans (f1 e)), (fun e => (eval_put_other' _ _ (by decide)).trans (f2 e)), (fun e => (eval_put_other' _ _ (by decide)).trans (f3 e)), (fun _ => eval_put_same' _ _ _ (by rw [so.size]; show (14 : Nat) < _; omega)), d3_2, (fun _ => w3), (fun _ => rfl), (fun _ => w0), d2_1⟩
    · have ws := o5.waits ho hwait
      have w4 := ws 4 (by simp)
      have w3 := d4_3 w4
      have w0 := d4_0 w4
      have w2 := d3_2 w3
      have w1 := d2_1 w2
      have st0 : InvSt wE wx g0 v x ys 3 D w := by
        have hst := st
        simp only [hl, Bool.false_eq_true, if_false, if_true, w4] at hst
        exact hst
      obtain ⟨A2, c2, hv2, _, _⟩ := st0.2.2.1.row
      refine o5.storeS ((show _ = a1.eval _ from by simp only [Act.eval, Array.getD_eq_getD_getElem?, so.out 3 (by decide)]).trans e3) ((f4 w4).trans hv2) (hb0.grown st0.2.2.2 (fun e => hne e.symm)) ?_
      intro w' hb' ht'
      rw [← hv2] at hb'
      have hbw : BoxAt w g0 #[v] 28 := hb0.grown st0.2.2.2 (fun e => hne e.symm)
      have hlt0 := hb0.lt
      have st1 : InvSt wE wx g0 v x ys 4 D w' := ⟨st0.1, st0.2.1, st0.2.2.1.other ht' (st0.2.2.1.noBox hbw (by decide)) (fun z hz => by
        rcases List.mem_append.1 hz with h | h
        · exact haw z h
        · simp at h; subst h; exact st0.2.1.away hlt0) (st0.2.2.1.later.turn ht' hg0), hb', w, st0.2.2.2, ht'⟩
      have st2 : InvSt wE wx g0 v x ys (if (more l 5) 5 = true then 4 else (if (more l 5) 4 = true then 3 else (if (more l 5) 3 = true then 2 else (if (more l 5) 2 = true then 1 else 0)))) (D) w' := by
        rw [if_pos (show more l 5 5 = true from rfl)]
        exact st1
      exact ⟨D, so, st2, f0, f1, f2, f3, f4, d3_2, d4_3, (fun _ => w4), d4_0, d2_1⟩
  · intro l a w hall ⟨D, so, st, f0, f1, f2, f3, f4, d3_2, d4_3, d5_4, d4_0, d2_1⟩
    rw [hn] at hall
    have hst : InvSt wE wx g0 v x ys 4 D w := by
      have hst := st
      simp only [hall 5 (by decide), if_true] at hst
      exact hst
    exact hend D a w so hst
  · have h0 : InvSt wE wx g0 v x ys 0 ⟨x, 0, v⟩ { wx with drawn := wx.drawn + 1 } := (Later.refl wx).drew
    exact ⟨⟨x, 0, v⟩, SameOut.refl _ _, h0, (fun e => by cases e), (fun e => by cases e), (fun e => by cases e), (fun e => by cases e), (fun e => by cases e), (fun e => by cases e), (fun e => by cases e), (fun e => by cases e), (fun e => by cases e), (fun e => by cases e)⟩

end Go.Proofs.YtomboeiaajggoaaGreat

/-
  A range over a function that hands on the places of a known row, in order: the round of place k is walked with what is known of place k.
-/
namespace Go.Proofs.YtomboeiaajggoaaGreat
open Go.RowKit

/-- The function hands on zs, in order, till a round says no more. -/
def Hands {α : Type} (m : Nat) (P : Program) (gf : Nat) (lb : Array Value) (encs : α → Array Value) (Kp : World → World → Prop) (zs : List α) (w : World) : Prop :=
  ∀ (l : Nat) (J Jx : Nat → World → Prop) (W : World), Later w W →
    (∀ k x V, zs[k]? = some x → J k V → YieldAt Fence.wide (m - 1) P l (encs x) V fun e V' => (e = .returned (.bool true) ∧ J (k + 1) V' ∧ Kp V V') ∨ (e = .returned (.bool false) ∧ Jx (k + 1) V')) →
    J 0 W → CallsIn Fence.wide m P gf (#[.func (.yield l) #[] #[]] ++ lb) W fun e V => (∃ v, e = .returned v) ∧ (J zs.length V ∨ ∃ k, k ≤ zs.length ∧ Jx k V)

/-- What holds is kept while the loop's own books are turned. -/
def Books (B : Nat) (I : World → Prop) : Prop := ∀ V l o o', I V → B ≤ l → V.heap[l]? = some o → o.isCells = false → I (V.putObj l o')

/-- How a round is left: it goes on, or it returns. -/
def rowPost (B : Nat) (Kp : World → World → Prop) (I Ix : World → Prop) (V : World) : Exit → Act → World → Prop
  | .normal, _, V' => KeepsFrom B V V' ∧ Kp V V' ∧ I V'
  | .ret, _, V' => KeepsFrom B V V' ∧ Ix V'
  | _, _, _ => False

theorem range_rows {P : Program} {α : Type} {g : Operand} {ps : Array Tmp} {assign body : Code} {Q : Exit → Act → World → Prop} {a : Act} {w w0 : World} {gf : Nat} {lb : Array Value} {encs : α → Array Value} {Kp : World → World → Prop} {zs : List α}
    (hg : a.eval g = .func (.func gf) #[] lb) (eg : ∀ args w, (callFunc gf args).run P w = .ok (.enter gf args) w) (hit : Hands 2 P gf lb encs Kp zs w0) (hw0 : Later w0 w) (hps : ∀ x, (encs x).size = ps.size)
    (hKt : ∀ {X Y Z : World}, Kp X Y → Kp Y Z → Kp X Z) (hKb : ∀ V l o o', w.heap.size ≤ l → V.heap[l]? = some o → o.isCells = false → Kp V (V.putObj l o'))
    (I Ix : Nat → World → Prop) (Ax : Nat → α → Act → World → Prop) (hI : ∀ k, Books w.heap.size (I k)) (hIx : ∀ k, Books w.heap.size (Ix k)) (hAx : ∀ k x a', Books w.heap.size (Ax k x a')) (hIb : ∀ o o', I 0 w → I 0 ((w.alloc o).alloc o')) (h0 : I 0 w)
    (hassign : ∀ (l k : Nat) (x : α) (V : World) (K : Act → World → Prop), zs[k]? = some x → I k V → (∀ a' V', KeepsFrom w.heap.size V V' → Kp V V' → Ax k x a' V' → K a' V') →
      assign.wpIn (Fence.wide.inRound l) 1 P (Exit.then K (fun _ _ _ => False)) { tmps := (ps.zip (encs x)).foldl (fun t (p, v) => t.setIfInBounds p v) a.tmps, defers := [] } V)
    (hbody : ∀ (l k : Nat) (x : α) (a' : Act) (V : World), zs[k]? = some x → Ax k x a' V → body.wpIn (Fence.wide.inRound l) 1 P (rowPost w.heap.size Kp (I (k + 1)) (Ix (k + 1)) V) a' V)
    (hdone : ∀ (D : Nat) (V : World), w.heap.size ≤ D → I zs.length V → V.heap[D]? = some (.deferred (some [])) → Q .normal { a with defers := { target := .collected D, args := #[] } :: a.defers } V)
    (hstop : ∀ (D k : Nat) (V : World), w.heap.size ≤ D → k ≤ zs.length → Ix k V → V.heap[D]? = some (.deferred (some [])) → Q .ret { a with defers := { target := .collected D, args := #[] } :: a.defers } V) :
    (Code.rangeFunc g ps assign body).wp P Q a w := by
  refine (wpIn_wide (n := 3)).1 (wpIn_rangeFunc fun fn hfn => ?_)
  -- the loop's two blocks: D (calls put off), L (the record)
  have key : ∃ (rec : LoopState → Option Code → Loop) (V1 : World), V1 = (w.alloc (.deferred (some []))).alloc (.loop (rec .ready none)) ∧
      (∀ st pe, (rec st pe).fn = fn ∧ (rec st pe).tmps = a.tmps ∧ (rec st pe).params = ps ∧ (rec st pe).assign = assign ∧ (rec st pe).body = body ∧ (rec st pe).state = st ∧ (rec st pe).pending = pe) ∧
      (∀ st pe st' pe', { rec st pe with state := st', pending := pe' } = rec st' pe') ∧ (∀ st pe st', { rec st pe with state := st' } = rec st' pe) ∧
      (Instr.enterLoop fn a.tmps ps assign body none).run P w = .ok (w.heap.size + 1, [{ target := .collected w.heap.size, args := #[] }]) V1 :=
    ⟨fun st pe => { state := st, pending := pe, fn := fn, tmps := a.tmps, params := ps, assign := assign, body := body, defers := w.heap.size }, _, rfl, fun _ _ => ⟨rfl, rfl, rfl, rfl, rfl, rfl, rfl⟩, fun _ _ _ _ => rfl, fun _ _ _ => rfl, run_enterLoop_outer fn a.tmps ps assign body⟩
  obtain ⟨rec, V1, hV1, hrec, hturn, hstate, henter⟩ := key
  have hL1 : V1.heap[w.heap.size + 1]? = some (.loop (rec .ready none)) := by
    rw [hV1, ← World.size_alloc w (.deferred (some []))]
    exact World.alloc_heap_new _ _
  have hD1 : V1.heap[w.heap.size]? = some (.deferred (some [])) := by
    rw [hV1, Below.heap_alloc _ _ _ (by simp)]
    exact World.alloc_heap_new _ _
  have hlater : Later w V1 := by rw [hV1]; exact ((Later.refl w).alloc _).alloc _
  refine ⟨w.heap.size + 1, _, V1, { target := .fn (.func gf) lb, args := #[.func (.yield (w.heap.size + 1)) #[] #[]] }, V1, gf, #[.func (.yield (w.heap.size + 1)) #[] #[]] ++ lb, V1, henter, ?_, (fun _ _ => trivial), ?_, (fun _ => by decide), ?_⟩
  · simp only [resolve, hg]
    simp [go_sem]
  · simp [invoke, go_sem, eg]
  refine (hit (w.heap.size + 1) (fun k V => I k V ∧ V.heap[w.heap.size + 1]? = some (.loop (rec .ready none)) ∧ V.heap[w.heap.size]? = some (.deferred (some [])))
    (fun k V => Ix k V ∧ V.heap[w.heap.size + 1]? = some (.loop (rec .done (some .ret))) ∧ V.heap[w.heap.size]? = some (.deferred (some []))) V1 (hw0.trans hlater) ?_ ⟨by rw [hV1]; exact hIb _ _ h0, hL1, hD1⟩).mono ?_
  · -- a round
    rintro k x V hx ⟨hi, hl, hd⟩
    have hy := run_yield (P := P) (args := encs x) hl (by rw [(hrec _ _).2.2.1]; exact hps x)
    refine ⟨_, _, _, _, hy, ?_⟩
    rw [(hrec _ _).1, (hrec _ _).2.1, (hrec _ _).2.2.1, (hrec _ _).2.2.2.1, (hrec _ _).2.2.2.2.1]
    refine roundIn_of_wpIn hfn (hassign _ k x V _ hx hi fun a' Va hka hkpa hax => ?_)
    have hla := hka.same _ _ (by omega) hl rfl
    have hda := hka.same _ _ (Nat.le_refl _) hd rfl
    have hlt := (Array.getElem?_eq_some_iff.1 hla).1
    refine ⟨_, run_beginRound hla (hrec _ _).2.2.2.2.2.1, ?_⟩
    rw [hstate]
    have hlb : (Va.putObj (w.heap.size + 1) (.loop (rec .busy none))).heap[w.heap.size + 1]? = some (.loop (rec .busy none)) := World.putObj_heap_same hlt
    have hdb : (Va.putObj (w.heap.size + 1) (.loop (rec .busy none))).heap[w.heap.size]? = some (.deferred (some [])) := (World.putObj_heap_other (by omega)).trans hda
    have hkb : Kp V (Va.putObj (w.heap.size + 1) (.loop (rec .busy none))) := hKt hkpa (hKb _ _ _ _ (by omega) hla rfl)
    refine wpIn_mono (hbody _ k x a' _ hx (hAx k x a' _ _ _ _ hax (by omega) hla rfl)) fun e a3 V3 hp => ?_
    cases e with
    | normal =>
      obtain ⟨hk3, hkp3, hi3⟩ := hp
      have hl3 := hk3.same _ _ (by omega) hlb rfl
      have hd3 := hk3.same _ _ (Nat.le_refl _) hdb rfl
      have hend := run_endRound (P := P) none hl3
      rw [show ({ rec .busy none with state := if (none : Option Code).isNone then .ready else .done, pending := none } : Loop) = rec .ready none from hturn _ _ _ _] at hend
      exact ⟨_, _, hend, .inl ⟨rfl, ⟨hI _ _ _ _ _ hi3 (by omega) hl3 rfl, World.putObj_heap_same (Array.getElem?_eq_some_iff.1 hl3).1, (World.putObj_heap_other (by omega)).trans hd3⟩, hKt hkb (hKt hkp3 (hKb _ _ _ _ (by omega) hl3 rfl))⟩⟩
    | ret =>
      obtain ⟨hk3, hi3⟩ := hp
      have hl3 := hk3.same _ _ (by omega) hlb rfl
      have hd3 := hk3.same _ _ (Nat.le_refl _) hdb rfl
      have hend := run_endRound (P := P) (some .ret) hl3
      rw [show ({ rec .busy none with state := if (some Code.ret).isNone then .ready else .done, pending := some .ret } : Loop) = rec .done (some .ret) from hturn _ _ _ _] at hend
      exact ⟨_, _, hend, .inr ⟨rfl, hIx _ _ _ _ _ hi3 (by omega) hl3 rfl, World.putObj_heap_same (Array.getElem?_eq_some_iff.1 hl3).1, (World.putObj_heap_other (by omega)).trans hd3⟩⟩
    | exit id => exact hp.elim
    | goto t => exact hp.elim
    | panic ch => exact hp.elim
    | outgrown => exact hp.elim
  · -- behind the function
    rintro e V2 ⟨⟨v, rfl⟩, (⟨hi, hl, hd⟩ | ⟨k, hk, hi, hl, hd⟩)⟩
    · refine ⟨none, _, ?_, hdone _ _ (Nat.le_refl _) (hI _ _ _ _ (.loop (rec .exhausted none)) hi (by omega) hl rfl) ((World.putObj_heap_other (by omega)).trans hd)⟩
      have := run_endLoop (P := P) hl (by rw [(hrec _ _).2.2.2.2.2.1]; simp)
      rw [hstate, (hrec _ _).2.2.2.2.2.2] at this
      exact this
    · refine ⟨some .ret, _, ?_, wpIn_ret (hstop _ k _ (Nat.le_refl _) hk (hIx _ _ _ _ (.loop (rec .exhausted (some .ret))) hi (by omega) hl rfl) ((World.putObj_heap_other (by omega)).trans hd))⟩
      have := run_endLoop (P := P) hl (by rw [(hrec _ _).2.2.2.2.2.1]; simp)
      rw [hstate, (hrec _ _).2.2.2.2.2.2] at this
      exact this

end Go.Proofs.YtomboeiaajggoaaGreat

/-
  slices.Backward at a row of prims: what its closure hands on, round by round.
-/
namespace Go.Proofs.YtomboeiaajggoaaGreat
open Go.RowKit Go.Maps
attribute [local go_sem] Oper.semAt_some

/-- The rounds: the last place first. -/
def rounds (xs : List PrC) : List (Nat × PrC) := ((List.range xs.length).map fun j => (j, xs.getD j zeroC)).reverse
theorem rounds_length (xs : List PrC) : (rounds xs).length = xs.length := by simp [rounds]
theorem rounds_at {xs : List PrC} {k : Nat} {z : Nat × PrC} (h : (rounds xs)[k]? = some z) : z.1 + k + 1 = xs.length ∧ xs[z.1]? = some z.2 := by
  have hk : k < xs.length := by have := (List.getElem?_eq_some_iff.1 h).1; rwa [rounds_length] at this
  unfold rounds at h
  rw [List.getElem?_reverse (by simpa using hk)] at h
  simp only [List.length_map, List.length_range, List.getElem?_map] at h
  rw [List.getElem?_range (by omega)] at h
  simp only [Option.map_some, Option.some.injEq] at h
  subst h
  dsimp only
  refine ⟨by omega, ?_⟩
  rw [List.getD, List.getElem?_eq_getElem (by omega)]
  rfl
theorem rounds_get {xs : List PrC} {j k : Nat} {x : PrC} (h : xs[j]? = some x) (hk : j + k + 1 = xs.length) : (rounds xs)[k]? = some (j, x) := by
  unfold rounds
  rw [List.getElem?_reverse (by simp; omega)]
  simp only [List.length_map, List.length_range, List.getElem?_map]
  rw [List.getElem?_range (by omega), show xs.length - 1 - k = j by omega]
  simp [List.getD, h]
/-- What a round hands on. -/
def backV (z : Nat × PrC) : Array Value := #[.int .i64 (z.1 : Nat), prV z.2]
/-- What a round that goes on keeps: all that lay below n₀, and what cell Bs holds. -/
def KpB (n₀ Bs : Nat) (W W' : World) : Prop := Below n₀ W W' ∧ ∀ v, W.cell? ⟨Bs, 0, none⟩ = some v → W'.cell? ⟨Bs, 0, none⟩ = some v
theorem KpB.trans {n₀ Bs : Nat} {X Y Z : World} (h : KpB n₀ Bs X Y) (k : KpB n₀ Bs Y Z) : KpB n₀ Bs X Z := ⟨h.1.trans k.1, fun v hv => k.2 v (h.2 v hv)⟩
theorem KpB.book {n₀ Bs B : Nat} (hB : n₀ ≤ B) (W : World) (l : Nat) (o o' : Obj) (hl : B ≤ l) (ho : W.heap[l]? = some o) (hc : o.isCells = false) : KpB n₀ Bs W (W.putObj l o') := by
  refine ⟨⟨rfl, rfl, rfl, by simp, fun i hi => World.putObj_heap_other (by omega)⟩, fun v hv => ?_⟩
  by_cases e : Bs = l
  · subst e
    simp only [World.cell?, ho] at hv
    cases o <;> simp_all [Obj.isCells]
  · simp only [World.cell?] at hv ⊢
    rw [World.putObj_heap_other e]
    exact hv

set_option maxRecDepth 100000 in
set_option maxHeartbeats 2000000 in
theorem back1_in (m l Bs : Nat) (hm : 1 ≤ m) (A : Option Addr) (n c : Nat) (xs : List PrC) (hn : n ≤ 524288) (w00 : World) (hrow : RowK 6 w00 A n (xs.map prL)) (J Jx : Nat → World → Prop)
    (hY : ∀ k x W, (rounds xs)[k]? = some x → J k W → YieldAt Fence.wide (m - 1) Tryz.prog l (backV x) W fun e W' =>
      (e = .returned (.bool true) ∧ J (k + 1) W' ∧ KpB w00.heap.size Bs W W') ∨ (e = .returned (.bool false) ∧ Jx (k + 1) W'))
    (W : World) (hl : Later w00 W) (hBs : W.cell? ⟨Bs, 0, none⟩ = some (.slice A n c)) (h0 : J 0 W) :
    CallsIn Fence.wide m Tryz.prog 88 #[.func (.yield l) #[] #[], .pointer (some ⟨Bs, 0, none⟩)] W fun e W' => (∃ v, e = .returned v) ∧
      (J (rounds xs).length W' ∨ ∃ k, k ≤ (rounds xs).length ∧ Jx k W') := by
  have hlen : xs.length = n := by have := hrow.len; simpa using this
  refine callsIn_of_wp Tryz.func88 rfl trivial ?_ rfl
  simp only [Tryz.ntmps88, List.size_toArray, List.length_cons, List.length_nil, Nat.reduceAdd, Nat.reduceSub, Array.replicate_succ, Array.replicate_zero, List.push_toArray, List.append_toArray, List.nil_append, List.cons_append]
  gi_wp2
  gi_loopw [3] (fun s wr => ∃ r : Nat, r ≤ n ∧ s = .int .i64 ((r : Int) - 1) ∧ J (n - r) wr ∧ Later w00 wr ∧ wr.cell? ⟨Bs, 0, none⟩ = some (.slice A n c))
    (fun s _ => (intOf s + 1).toNat)
  case atStart => exact ⟨n, Nat.le_refl _, by go_num, by rw [Nat.sub_self]; exact h0, hl, hBs⟩
  case round =>
    obtain ⟨r, hr, rfl, hJs, hlw, hbs⟩ := hrel
    rcases Nat.eq_zero_or_pos r with h0 | h0
    · subst h0
      gi_wp2
      go_end0
      exact ⟨⟨_, rfl⟩, .inl (by rw [rounds_length, hlen]; exact hJs)⟩
    · obtain ⟨j, rfl⟩ : ∃ j, r = j + 1 := ⟨r - 1, by omega⟩
      rw [show ((j + 1 : Nat) : Int) - 1 = (j : Int) by omega]
      obtain ⟨b, o, x, rfl, hz, g0, g1, g2, g3, g4, g5⟩ := (hrow.later hlw).getP (show j < n by omega)
      obtain ⟨fn, tmps, assign, body, hy, hR⟩ := hY (n - (j + 1)) (j, x) wr (rounds_get hz (by omega)) hJs
      simp only [backV, prV] at hy hR
      have HLW := Lib.hid hlw; have HBS := Lib.hid hbs; have HR := Lib.hid hR
      clear hlw hR hz
      gi_wp2
      refine HR.out.mono ?_
      rintro e W3 (⟨rfl, hJ3, hk3⟩ | ⟨rfl, hJx3⟩)
      · rw [show n - (j + 1) + 1 = n - j by omega] at hJ3
        gi_wp2
        go_roundw
        case rel => exact ⟨j, by omega, by go_num, hJ3, Below.trans HLW.out hk3.1, hk3.2 _ HBS.out⟩
        case measure => simp [intOf]
      · gi_wp2
        refine bodyPost_ret (results_none rfl _ _ _) rfl ?_
        exact ⟨⟨_, rfl⟩, .inr ⟨_, by rw [rounds_length]; omega, hJx3⟩⟩

/-- slices.Backward(s): the slice is boxed; the function value captures the box. -/
theorem back_any (A : Option Addr) (n c : Nat) (w : World) :
    Calls Tryz.prog 61 #[.slice A n c] w fun e w' => e = .returned (.func (.func 88) #[] #[.pointer (some ⟨w.heap.size, 0, none⟩)]) ∧ w' = w.alloc (.cells #[.slice A n c] 28) := by
  go_enter Tryz.func61, Tryz.ntmps61
  go_wp2
  go_ret
  exact ⟨rfl, rfl⟩

theorem back_hands (m Bs : Nat) (hm : 1 ≤ m) (A : Option Addr) (n c : Nat) (xs : List PrC) (hn : n ≤ 524288) (w00 w : World) (hrow : RowK 6 w00 A n (xs.map prL)) (hl : Later w00 w) (hBs : w.cell? ⟨Bs, 0, none⟩ = some (.slice A n c)) :
    Hands m Tryz.prog 88 #[.pointer (some ⟨Bs, 0, none⟩)] backV (KpB w00.heap.size Bs) (rounds xs) w := fun l J Jx W hW hY h0 =>
  back1_in m l Bs hm A n c xs hn w00 hrow J Jx hY W (hl.trans hW) (Later.cell hW hBs) h0

end Go.Proofs.YtomboeiaajggoaaGreat

/-
  What stands while a loop over a function keeps its books; what a round keeps.
-/
namespace Go.Proofs.YtomboeiaajggoaaGreat
open Go.RowKit Go.Maps

section
variable {V V' w : World} {l : Nat} {o o' : Obj}
theorem shut_turned (V : World) (l : Nat) (o' : Obj) : Turned l V (V.putObj l o') := grownBy_putObj' V l o'
theorem cell_off (hl : V.heap[l]? = some o) (ho : o.isCells = false) {a : Addr} {u : Value} (hc : V.cell? a = some u) : a.block ≠ l := by
  intro e
  unfold World.cell? at hc
  rw [e, hl] at hc
  cases o <;> simp_all [Obj.isCells]
theorem box_off (hl : V.heap[l]? = some o) (ho : o.isCells = false) {g : Nat} {cs : Array Value} {t : TypeId} (hb : BoxAt V g cs t) : g ≠ l := by
  rintro rfl
  unfold BoxAt at hb
  rw [hb] at hl
  cases hl
  cases ho
theorem BoxAt.shut {g : Nat} {cs : Array Value} {t : TypeId} (hb : BoxAt V g cs t) (hl : V.heap[l]? = some o) (ho : o.isCells = false) : BoxAt (V.putObj l o') g cs t := hb.other (shut_turned V l o') (box_off hl ho hb)
theorem Row.away_shut {A : Option Addr} {n c : Nat} {ss : List ByteArray} (h : Row V A n ss) (hl : V.heap[l]? = some o) (ho : o.isCells = false) (hs : ss ≠ []) : Off l (.slice A n c) := by
  have hn : 0 < n := by
    have := h.1
    cases ss with
    | nil => exact absurd rfl hs
    | cons s ss => simp at this; omega
  obtain ⟨b, o1, rfl, hc⟩ := h.2 hn
  cases ss with
  | nil => exact absurd rfl hs
  | cons s ss =>
    have := cell_off hl ho (hc 0 s rfl)
    intro e
    simp only [Value.ownBlock, Option.some.injEq] at e
    exact this e
theorem PrOk.shut {x : PrC} (h : PrOk V x) (hl : V.heap[l]? = some o) (ho : o.isCells = false) : PrOk (V.putObj l o') x := h.off (shut_turned V l o') ⟨h.old.away_shut hl ho, h.new.away_shut hl ho⟩
theorem OwnPs.shut {e : TypeId} {v : Value} {xs : List PrC} (h : OwnPs e w V v xs) (hw : w.heap.size ≤ l) (hl : V.heap[l]? = some o) (ho : o.isCells = false) : OwnPs e w (V.putObj l o') v xs := by
  refine h.other (shut_turned V l o') ?_ (fun x hx => ⟨(h.ok x hx).old.away_shut hl ho, (h.ok x hx).new.away_shut hl ho⟩) (h.later.turn (shut_turned V l o') hw)
  rcases h.own.1.2 with ⟨rfl, _⟩ | ⟨g, cap, cur, rfl, _, hh, _⟩
  · simp [Value.ownBlock]
  · intro e
    simp only [Value.ownBlock, Option.some.injEq] at e
    subst e
    rw [hh] at hl
    cases hl
    cases ho
theorem Later.shut (h : Later w V) (hw : w.heap.size ≤ l) : Later w (V.putObj l o') := h.turn (shut_turned V l o') hw

theorem KeepsFrom.later (h : Later V V') (B : Nat) : KeepsFrom B V V' := ⟨h.size, fun k _ _ hk _ => (h.block k (Array.getElem?_eq_some_iff.1 hk).1).trans hk⟩
theorem KeepsFrom.turn {B g : Nat} {cs : Array Value} {t : TypeId} (h : Turned g V V') (hb : BoxAt V g cs t) : KeepsFrom B V V' :=
  ⟨h.size, fun k _ _ hk ho => (h.block k (Array.getElem?_eq_some_iff.1 hk).1 (by have := box_off hk ho hb; simp; omega)).trans hk⟩
theorem KeepsFrom.grown {B : Nat} {e : TypeId} {v : Value} {xs : List PrC} (h : V.grownBy V' v.ownBlock) (ho : OwnPs e w V v xs) : KeepsFrom B V V' := by
  refine ⟨h.size, fun k _ _ hk hc => (h.block k (Array.getElem?_eq_some_iff.1 hk).1 ?_).trans hk⟩
  rcases ho.own.1.2 with ⟨rfl, _⟩ | ⟨g, cap, cur, rfl, _, hh, _⟩
  · simp [Value.ownBlock]
  · intro e
    simp only [Value.ownBlock, Option.some.injEq] at e
    subst e
    rw [hk] at hh
    cases hh
    cases hc
/-- Both are w below; the second one is behind the first. -/
theorem below_between {n : Nat} {w V V' : World} (h : Below n w V) (k : Below n w V') (hs : V.heap.size ≤ V'.heap.size) : Below n V V' :=
  ⟨k.os.trans h.os.symm, k.tape.trans h.tape.symm, k.output.trans h.output.symm, hs, fun i hi => (k.block i hi).trans (h.block i hi).symm⟩
theorem kpB_of {Bs : Nat} {sl : Value} {t : TypeId} (h : Later w V) (k : Later w V') (hs : V.heap.size ≤ V'.heap.size) (hb : BoxAt V Bs #[sl] t) (hb' : BoxAt V' Bs #[sl] t) : KpB w.heap.size Bs V V' :=
  ⟨below_between h k hs, fun v hv => by
    have h1 := hb.cell (i := 0) rfl
    rw [h1] at hv
    cases hv
    exact hb'.cell rfl⟩
end
theorem noOut (B : Nat) (Kp : World → World → Prop) (I Ix : World → Prop) (V : World) : ¬ LetsOut (rowPost B Kp I Ix V) := fun ⟨_, _, h⟩ => h

end Go.Proofs.YtomboeiaajggoaaGreat

/-
  More operations of a region that draws its order: make, len, an index, a store into a row.
-/
namespace Go.Proofs.YtomboeiaajggoaaGreat
open Go.RowKit Go.Maps

theorem made_zero (n : Nat) : (madeCells (Value.agg #[.int .i64 0, .string ByteArray.empty, .string ByteArray.empty, .int .i64 0, .slice none 0 0, .slice none 0 0]).cells (n * 6)).toList = ((List.replicate n zeroC).map prL).flatten := by
  have hk : ∀ cs ∈ (List.replicate n zeroC).map prL, cs.length = 6 := by
    intro cs hcs
    obtain ⟨y, _, rfl⟩ := List.mem_map.1 hcs
    rfl
  refine List.ext_getElem? fun j => ?_
  rcases Nat.lt_or_ge j (n * 6) with hj | hj
  · have hq : j / 6 < n := by omega
    have hat := flat_at (j := j / 6) (i := j % 6) hk (cs := prL zeroC) (by simp [hq]) (Nat.mod_lt _ (by decide))
    rw [show j / 6 * 6 + j % 6 = j by omega] at hat
    rw [hat]
    have h6 : j % 6 = 0 ∨ j % 6 = 1 ∨ j % 6 = 2 ∨ j % 6 = 3 ∨ j % 6 = 4 ∨ j % 6 = 5 := by omega
    simp only [madeCells, Value.cells]
    rcases h6 with h | h | h | h | h | h <;> simp [hj, h, prL, zeroC, zeroPr]
  · rw [List.getElem?_eq_none (by simp [madeCells]; exact hj), List.getElem?_eq_none (by rw [flat_length hk]; simpa using hj)]
theorem zero_away (g : Nat) : Away g zeroC := ⟨fun h => absurd rfl h, fun h => absurd rfl h⟩
section
variable {ops : Array Oper} {Q : Exit → Act → World → Prop} {K : Act → World → Prop} {i : Nat} {dst : Option Tmp} {js : List Nat} {a : Act} {w w0 : World}
theorem OpIs.lenS {k : Tmp} {A : Option Addr} {n c : Nat} (h : OpIs ops i (.call { callee := .builtin .len, args := #[.tmp k], argTypes := #[28] }) dst js) (he : a.eval (.tmp k) = .slice A n c) (hk : K (a.put dst (.int .i64 n)) w) : wpOp Tryz.prog ops Q i K a w :=
  h.go fun o h1 h2 => by
    have hr : (execOp a.eval o).run Tryz.prog w = .ok (.value (.int .i64 n)) w := by
      unfold execOp
      rw [h1]
      simp only [resolve, invoke, builtin, Sem.run_bind, List.map_toArray, List.map_cons, List.map_nil, he]
      go_simp
    unfold Oper.wp
    rw [hr]
    show K _ _
    rw [h2]
    exact hk
/-- A row of n zero prims. -/
theorem OpIs.makeS {j k : Tmp} {n : Nat} (h : OpIs ops i (.makeSlice 28 (.tmp j) (.tmp k)) dst js) (hj : a.eval (.tmp j) = .int .i64 n) (hk' : a.eval (.tmp k) = .int .i64 n) (hn : n ≤ 1000000) (hl : Later w0 w)
    (hk : ∀ w', OwnPs 69 w0 w' (.slice (some ⟨w.heap.size, 0, none⟩) n n) (List.replicate n zeroC) → Later w w' → K (a.put dst (.slice (some ⟨w.heap.size, 0, none⟩) n n)) w') : wpOp Tryz.prog ops Q i K a w :=
  h.go fun o h1 h2 => by
    obtain ⟨i0, hi, hz0, hz1, hz2⟩ := info_parts Tryz.primInfo
    obtain ⟨w', hrun, r1, r2⟩ := run_make_full (P := Tryz.prog) w w0.heap.size 28 69 i0 _ 6 Tryz.underlying28 hi hz0 hz1 .i64 .i64 n (by rw [hz2]; omega) (by simp only [maxLen]; omega) hl.le
    have hlw : Later w w' := ⟨r2.os, r2.tape, r2.output, r2.size, fun i hi => r2.block i hi (by simp)⟩
    unfold Oper.wp execOp
    simp only [h1, hj, hk', hrun, Sem.run_bind, Sem.run_pure, Result.andThen_ok]
    show K _ _
    rw [h2]
    rw [made_zero] at r1
    refine hk w' ⟨⟨by simpa using r1, fun cs hcs => ?_, hl.trans hlw⟩, fun x hx => ?_, fun x hx g _ => ?_⟩ hlw
    · obtain ⟨y, _, rfl⟩ := List.mem_map.1 hcs
      rfl
    · rw [List.eq_of_mem_replicate hx]; exact zeroC_ok _
    · rw [List.eq_of_mem_replicate hx]; exact zero_away g
theorem OpIs.index {j k : Tmp} {g o n c m : Nat} (h : OpIs ops i (.indexAddr 28 (.tmp j) (.tmp k)) dst js) (hj : a.eval (.tmp j) = .slice (some ⟨g, o, none⟩) n c) (hk' : a.eval (.tmp k) = .int .i64 (m : Nat)) (hm : m < n) (hk : K (a.put dst (.pointer (some ⟨g, o + m * 6, none⟩))) w) : wpOp Tryz.prog ops Q i K a w :=
  h.go fun op h1 h2 => by
    have hr : (execOp a.eval op).run Tryz.prog w = .ok (.value (.pointer (some ⟨g, o + m * 6, none⟩))) w := by
      unfold execOp
      rw [h1]
      dsimp only
      rw [hj, hk']
      go_simp
    unfold Oper.wp
    rw [hr]
    show K _ _
    rw [h2]
    exact hk
theorem OpIs.storeP {j k : Tmp} {T e : TypeId} {g o n c m : Nat} {xs : List PrC} {x : PrC} (h : OpIs ops i (.store T (.tmp j) (.tmp k)) none js) (hi : (Tryz.prog.info? T).map (·.size) = some 6) (hj : a.eval (.tmp j) = .pointer (some ⟨g, o + m * 6, none⟩)) (hv : a.eval (.tmp k) = prV x)
    (hown : OwnPs e w0 w (.slice (some ⟨g, o, none⟩) n c) xs) (hin : m < n) (hx : PrOk w x) (ha : Away g x) (hk : ∀ w', OwnPs e w0 w' (.slice (some ⟨g, o, none⟩) n c) (xs.set m x) → Turned g w w' → K a w') : wpOp Tryz.prog ops Q i K a w :=
  h.go fun op h1 h2 => by
    obtain ⟨b', o', q, hA, hz, hok, g0, g1, g2, g3, g4, g5⟩ := hown.ps.get hin
    cases hA
    have hth : w.there g (o + m * 6) 6 := by
      intro r hr
      refine ⟨?_, hown.frozen _⟩
      match r, hr with
      | 0, _ => rw [Nat.add_zero, g0]; rfl
      | 1, _ => rw [g1]; rfl
      | 2, _ => rw [g2]; rfl
      | 3, _ => rw [g3]; rfl
      | 4, _ => rw [g4]; rfl
      | 5, _ => rw [g5]; rfl
    refine wp_store_mid T (.tmp j) (.tmp k) h1 g (o + m * 6) (prL x).toArray hj (hv.trans (prV_is x)) hth hi (prL_one x) ?_
    rw [h2, put_none]
    exact hk _ (hown.set hin x hx ha) (turned_sets w g o m _ _ _ _ _ _)
end

end Go.Proofs.YtomboeiaajggoaaGreat
