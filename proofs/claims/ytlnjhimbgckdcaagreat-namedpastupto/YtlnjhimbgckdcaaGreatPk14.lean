import Derived.Test.YtlnjhimbgckdcaaGreatPk13
import Derived.Deep.LoopGhost
import Derived.Deep.QuietTactic
import Derived.BigQuiet
import Derived.Lib.Hide
import Derived.Test.YtlnjhimbgckdcaaGreatPk5
import Derived.Test.YtlnjhimbgckdcaaGreatPk4

/-
  The last statement of named's Swap: in whatever order its operations come.
-/
namespace Go.Proofs.YtlnjhimbgckdcaaGreat
open Go.RowKit Go.Maps

structure SwND where
  y : PaC
  z : PaC
def ToldN (ws V : World) (y : PaC) (p : Pa) : Prop := PaOk V y /\ FreshN ws y /\ y.v = p
theorem ToldN.later {ws V V' : World} {y : PaC} {p : Pa} (h : ToldN ws V y p) (hl : Later V V') : ToldN ws V' y p := ⟨h.1.later hl, h.2⟩
theorem ToldN.off {ws V V' : World} {y : PaC} {p : Pa} {g : Nat} (h : ToldN ws V y p) (ht : Turned g V V') (hg : g < ws.heap.size) : ToldN ws V' y p := ⟨h.1.off ht (h.2.1.away hg), h.2⟩
def SwN (ws wx : World) (g4 g5 : Nat) (p q : Pa) : Nat -> SwND -> World -> Prop
  | 0, _, V => Later wx V
  | 1, D, V => Later wx V /\ ToldN ws V D.y q
  | 2, D, V => Later wx V /\ ToldN ws V D.y q /\ ToldN ws V D.z p
  | 3, D, V => (∃ V1, Later wx V1 /\ Turned g4 V1 V) /\ BoxAt V g4 (paL D.y).toArray 30 /\ ToldN ws V D.y q /\ ToldN ws V D.z p
  | _, D, V => (∃ V1 V2, Later wx V1 /\ Turned g4 V1 V2 /\ Turned g5 V2 V) /\ BoxAt V g4 (paL D.y).toArray 30 /\ BoxAt V g5 (paL D.z).toArray 30 /\ ToldN ws V D.y q /\ ToldN ws V D.z p

set_option maxHeartbeats 1600000 in
theorem swn_region {ops : Array Oper} (hn : ops.size = 9) (hg : goesBack ops = true)
    (o0 : OpIs ops 0 (.load 30 (.tmp 3)) (some 49) [])
    (o1 : OpIs ops 1 (.move (.tmp 7)) (some 50) [])
    (o2 : OpIs ops 2 (.call { callee := .value (.func 29), args := #[.tmp 49, .tmp 50], argTypes := #[30, 28] }) (some 51) [0, 1])
    (o3 : OpIs ops 3 (.load 30 (.tmp 2)) (some 52) [])
    (o4 : OpIs ops 4 (.move (.tmp 8)) (some 53) [])
    (o5 : OpIs ops 5 (.call { callee := .value (.func 29), args := #[.tmp 52, .tmp 53], argTypes := #[30, 28] }) (some 54) [3, 4, 2])
    (o6 : OpIs ops 6 (.store 30 (.tmp 4) (.tmp 51)) none [2, 5])
    (o7 : OpIs ops 7 (.store 30 (.tmp 5) (.tmp 54)) none [5, 6])
    (o8 : OpIs ops 8 (.assign (.const (.bool true))) (some 6) [7])
    {a1 : Act} (hs : 55 <= a1.tmps.size) {wx : World} {wS : World} {p q : PaC} {pp qq : Pa} {A B : Option Addr} {n c m d g2 g3 g4 g5 : Nat} {ys zs : List PrC} {c4 c5 : Array Value} (e2 : a1.eval (.tmp 2) = .pointer (some ⟨g2, 0, none⟩)) (e3 : a1.eval (.tmp 3) = .pointer (some ⟨g3, 0, none⟩)) (e4 : a1.eval (.tmp 4) = .pointer (some ⟨g4, 0, none⟩)) (e5 : a1.eval (.tmp 5) = .pointer (some ⟨g5, 0, none⟩)) (e7 : a1.eval (.tmp 7) = .slice A n c) (e8 : a1.eval (.tmp 8) = .slice B m d) (hlS : Later wS wx) (hp : PaOk wS p) (hq : PaOk wS q) (hpp : { p.v with l := valsP zs } = pp) (hqq : { q.v with l := valsP ys } = qq) (hys : OwnPs 58 wS wx (.slice A n c) ys) (hzs : OwnPs 58 wS wx (.slice B m d) zs) (hn0 : n <= 30000) (hm0 : m <= 30000) (hfy : ∀ y ∈ ys, Fresh wS y) (hfz : ∀ z ∈ zs, Fresh wS z) (hb2 : BoxAt wx g2 (paL p).toArray 30) (hb3 : BoxAt wx g3 (paL q).toArray 30) (hb4 : BoxAt wx g4 c4 30) (hb5 : BoxAt wx g5 c5 30) (h4s : c4.size = 4) (h5s : c5.size = 4) (hg4 : g4 < wS.heap.size) (hg5 : g5 < wS.heap.size) (h45 : g4 ≠ g5)
    {Q : Exit -> Act -> World -> Prop} {id : Nat} (hend : ∀ (D : SwND) (a : Act) (w : World), SameOut a1 a [49, 50, 51, 52, 53, 54, 6] -> a.eval (.tmp 6) = .bool true -> SwN wS wx g4 g5 pp qq (4) D w -> Q .normal a w) :
    (Code.region id ops true).wp Tryz.prog Q a1 wx := by
  refine region_inv (by kernel_rfl) hg (fun l a w => ∃ D : SwND, SameOut a1 a [49, 50, 51, 52, 53, 54, 6] /\ SwN wS wx g4 g5 pp qq (if l 7 = true then 4 else (if l 6 = true then 3 else (if l 5 = true then 2 else (if l 2 = true then 1 else 0)))) D w /\ (l 0 = true -> a.eval (.tmp 49) = paV q) /\ (l 1 = true -> a.eval (.tmp 50) = .slice A n c) /\ (l 2 = true -> a.eval (.tmp 51) = paV D.y) /\ (l 3 = true -> a.eval (.tmp 52) = paV p) /\ (l 4 = true -> a.eval (.tmp 53) = .slice B m d) /\ (l 5 = true -> a.eval (.tmp 54) = paV D.z) /\ (l 8 = true -> a.eval (.tmp 6) = .bool true) /\ (l 5 = true -> l 2 = true) /\ (l 6 = true -> l 5 = true) /\ (l 7 = true -> l 6 = true) /\ (l 2 = true -> l 0 = true) /\ (l 2 = true -> l 1 = true) /\ (l 5 = true -> l 3 = true) /\ (l 5 = true -> l 4 = true) /\ (l 6 = true -> l 2 = true) /\ (l 7 = true -> l 5 = true) /\ (l 8 = true -> l 7 = true)) ?_ ?_ ?_
  · intro l a w i o ho hl hwait ⟨D, so, st, f0, f1, f2, f3, f4, f5, f8, d5_2, d6_5, d7_6, d2_0, d2_1, d5_3, d5_4, d6_2, d7_5, d8_7⟩
    have hi : i < 9 := by rw [← hn]; exact (Array.getElem?_eq_some_iff.1 ho).1
    have hc : i = 0 ∨ i = 1 ∨ i = 2 ∨ i = 3 ∨ i = 4 ∨ i = 5 ∨ i = 6 ∨ i = 7 ∨ i = 8 := by omega
    rcases hc with rfl | rfl | rfl | rfl | rfl | rfl | rfl | rfl | rfl
    · have n2 : l 2 = false := by cases hx : l 2 with | false => rfl | true => have := d2_0 hx; rw [hl] at this; cases this
      have n6 : l 6 = false := by cases hx : l 6 with | false => rfl | true => have := d6_2 hx; rw [n2] at this; cases this
      have n5 : l 5 = false := by cases hx : l 5 with | false => rfl | true => have := d5_2 hx; rw [n2] at this; cases this
      have n7 : l 7 = false := by cases hx : l 7 with | false => rfl | true => have := d7_6 hx; rw [n6] at this; cases this
      have n8 : l 8 = false := by cases hx : l 8 with | false => rfl | true => have := d8_7 hx; rw [n7] at this; cases this
      have st0 := st
      have hl0 : Later wx w := by
        have hst := st
        simp only [n2, n5, n6, n7, Bool.false_eq_true, if_false] at hst
        exact hst
      refine o0.loadA Tryz.underlying30 Tryz.patchSize ((show _ = a1.eval _ from by simp only [Act.eval, Array.getD_eq_getD_getElem?, so.out 3 (by decide)]).trans e3) (hb3.later hl0) ?_
      exact ⟨D, (so.put (by decide) _), st, (fun _ => eval_put_same' _ _ _ (by rw [so.size]; show (49 : Nat) < _; omega)), (fun e => (eval_put_other' _ _ (by decide)).trans (f1 e)), (fun e => by rw [show more l 0 2 = l 2 from rfl, n2] at e; cases e), (fun e => (eval_put_other' _ _ (by decide)).trans (f3 e)), (fun e => (eval_put_other' _ _ (by decide)).trans (f4 e)), (fun e => by rw [show more l 0 5 = l 5 from rfl, n5] at e; cases e), (fun e => by rw [show more l 0 8 = l 8 from rfl, n8] at e; cases e), d5_2, d6_5, d7_6, (fun _ => rfl), d2_1, d5_3, d5_4, d6_2, d7_5, d8_7⟩
    · have n2 : l 2 = false := by cases hx : l 2 with | false => rfl | true => have := d2_1 hx; rw [hl] at this; cases this
      have n6 : l 6 = false := by cases hx : l 6 with | false => rfl | true => have := d6_2 hx; rw [n2] at this; cases this
      have n5 : l 5 = false := by cases hx : l 5 with | false => rfl | true => have := d5_2 hx; rw [n2] at this; cases this
      have n7 : l 7 = false := by cases hx : l 7 with | false => rfl | true => have := d7_6 hx; rw [n6] at this; cases this
      have n8 : l 8 = false := by cases hx : l 8 with | false => rfl | true => have := d8_7 hx; rw [n7] at this; cases this
      have st0 := st
      have ev : a.eval (.tmp 7) = .slice A n c := ((show _ = a1.eval _ from by simp only [Act.eval, Array.getD_eq_getD_getElem?, so.out 7 (by decide)]).trans e7)
      refine o1.move ?_
      rw [ev]
      exact ⟨D, (so.put (by decide) _), st, (fun e => (eval_put_other' _ _ (by decide)).trans (f0 e)), (fun _ => eval_put_same' _ _ _ (by rw [so.size]; show (50 : Nat) < _; omega)), (fun e => by rw [show more l 1 2 = l 2 from rfl, n2] at e; cases e), (fun e => (eval_put_other' _ _ (by decide)).trans (f3 e)), (fun e => (eval_put_other' _ _ (by decide)).trans (f4 e)), (fun e => by rw [show more l 1 5 = l 5 from rfl, n5] at e; cases e), (fun e => by rw [show more l 1 8 = l 8 from rfl, n8] at e; cases e), d5_2, d6_5, d7_6, d2_0, (fun _ => rfl), d5_3, d5_4, d6_2, d7_5, d8_7⟩
    · have ws := o2.waits ho hwait
      have w0 := ws 0 (by simp)
      have w1 := ws 1 (by simp)
      have n5 : l 5 = false := by cases hx : l 5 with | false => rfl | true => have := d5_2 hx; rw [hl] at this; cases this
      have n6 : l 6 = false := by cases hx : l 6 with | false => rfl | true => have := d6_5 hx; rw [n5] at this; cases this
      have n7 : l 7 = false := by cases hx : l 7 with | false => rfl | true => have := d7_6 hx; rw [n6] at this; cases this
      have n8 : l 8 = false := by cases hx : l 8 with | false => rfl | true => have := d8_7 hx; rw [n7] at this; cases this
      have st0 : SwN wS wx g4 g5 pp qq 0 D w := by
        have hst := st
        simp only [hl, n5, n6, n7, Bool.false_eq_true, if_false] at hst
        exact hst
      refine o2.call2 (enters_of Tryz.func29 (by kernel_rfl) rfl) (f0 w0) (f1 w1) (with_any q A n c w (RowK.later hq.deps (hlS.trans st0)) hq.dmost) ?_
      rintro e w' ⟨D', cd', rfl, hd'⟩
      obtain ⟨y, hyv, hy1, hy2, hy3⟩ := with_ok hq (hlS.trans st0) (hys.on st0) hn0 hfy hd'
      rw [hyv]
      have st1 : SwN wS wx g4 g5 pp qq 1 { D with y := y } w' := ⟨Later.trans st0 (OwnK.later hd'), hy2, hy3, hy1.trans hqq⟩
      have st2 : SwN wS wx g4 g5 pp qq (if (more l 2) 7 = true then 4 else (if (more l 2) 6 = true then 3 else (if (more l 2) 5 = true then 2 else (if (more l 2) 2 = true then 1 else 0)))) ({ D with y := y }) w' := by
        rw [if_neg (show ¬ (more l 2 7 = true) from by rw [show more l 2 7 = l 7 from rfl, n7]; simp), if_neg (show ¬ (more l 2 6 = true) from by rw [show more l 2 6 = l 6 from rfl, n6]; simp), if_neg (show ¬ (more l 2 5 = true) from by rw [show more l 2 5 = l 5 from rfl, n5]; simp), if_pos (show more l 2 2 = true from rfl)]
        exact st1
      exact ⟨_, rfl, ⟨{ D with y := y }, (so.put (by decide) _), st2, (fun e => (eval_put_other' _ _ (by decide)).trans (f0 e)), (fun e => (eval_put_other' _ _ (by decide)).trans (f1 e)), (fun _ => eval_put_same' _ _ _ (by rw [so.size]; show (51 : Nat) < _; omega)), (fun e => (eval_put_other' _ _ (by decide)).trans (f3 e)), (fun e => (eval_put_other' _ _ (by decide)).trans (f4 e)), (fun e => by rw [show more l 2 5 = l 5 from rfl, n5] at e; cases e), (fun e => by rw [show more l 2 8 = l 8 from rfl, n8] at e; cases e), (fun _ => rfl), d6_5, d7_6, (fun _ => w0), (fun _ => w1), d5_3, d5_4, (fun _ => rfl), d7_5, d8_7⟩⟩
    · have n5 : l 5 = false := by cases hx : l 5 with | false => rfl | true => have := d5_3 hx; rw [hl] at this; cases this
      have n7 : l 7 = false := by cases hx : l 7 with | false => rfl | true => have := d7_5 hx; rw [n5] at this; cases this
      have n8 : l 8 = false := by cases hx : l 8 with | false => rfl | true => have := d8_7 hx; rw [n7] at this; cases this
      have n6 : l 6 = false := by cases hx : l 6 with | false => rfl | true => have := d6_5 hx; rw [n5] at this; cases this
      have st0 := st
      have hl0 : Later wx w := by
        have hst := st
        simp only [n5, n6, n7, Bool.false_eq_true, if_false] at hst
        split at hst
        · exact hst.1
        · exact hst
      refine o3.loadA Tryz.underlying30 Tryz.patchSize ((show _ = a1.eval _ from by simp only [Act.eval, Array.getD_eq_getD_getElem?, so.out 2 (by decide)]).trans e2) (hb2.later hl0) ?_
      exact ⟨D, (so.put (by decide) _), st, (fun e => (eval_put_other' _ _ (by decide)).trans (f0 e)), (fun e => (eval_put_other' _ _ (by decide)).trans (f1 e)), (fun e => (eval_put_other' _ _ (by decide)).trans (f2 e)), (fun _ => eval_put_same' _ _ _ (by rw [so.size]; show (52 : Nat) < _; omega)), (fun e => (eval_put_other' _ _ (by decide)).trans (f4 e)), (fun e => by rw [show more l 3 5 = l 5 from rfl, n5] at e; cases e), (fun e => by rw [show more l 3 8 = l 8 from rfl, n8] at e; cases e), d5_2, d6_5, d7_6, d2_0, d2_1, (fun _ => rfl), d5_4, d6_2, d7_5, d8_7⟩
    · have n5 : l 5 = false := by cases hx : l 5 with | false => rfl | true => have := d5_4 hx; rw [hl] at this; cases this
      have n7 : l 7 = false := by cases hx : l 7 with | false => rfl | true => have := d7_5 hx; rw [n5] at this; cases this
      have n8 : l 8 = false := by cases hx : l 8 with | false => rfl | true => have := d8_7 hx; rw [n7] at this; cases this
      have n6 : l 6 = false := by cases hx : l 6 with | false => rfl | true => have := d6_5 hx; rw [n5] at this; cases this
      have st0 := st
      have ev : a.eval (.tmp 8) = .slice B m d := ((show _ = a1.eval _ from by simp only [Act.eval, Array.getD_eq_getD_getElem?, so.out 8 (by decide)]).trans e8)
      refine o4.move ?_
      rw [ev]
      exact ⟨D, (so.put (by decide) _), st, (fun e => (eval_put_other' _ _ (by decide)).trans (f0 e)), (fun e => (eval_put_other' _ _ (by decide)).trans (f1 e)), (fun e => (eval_put_other' _ _ (by decide)).trans (f2 e)), (fun e => (eval_put_other' _ _ (by decide)).trans (f3 e)), (fun _ => eval_put_same' _ _ _ (by rw [so.size]; show (53 : Nat) < _; omega)), (fun e => by rw [show more l 4 5 = l 5 from rfl, n5] at e; cases e), (fun e => by rw [show more l 4 8 = l 8 from rfl, n8] at e; cases e), d5_2, d6_5, d7_6, d2_0, d2_1, d5_3, (fun _ => rfl), d6_2, d7_5, d8_7⟩
    · have ws := o5.waits ho hwait
      have w3 := ws 3 (by simp)
      have w4 := ws 4 (by simp)
      have w2 := ws 2 (by simp)
      have w0 := d2_0 w2
      have w1 := d2_1 w2
      have n6 : l 6 = false := by cases hx : l 6 with | false => rfl | true => have := d6_5 hx; rw [hl] at this; cases this
      have n7 : l 7 = false := by cases hx : l 7 with | false => rfl | true => have := d7_6 hx; rw [n6] at this; cases this
      have n8 : l 8 = false := by cases hx : l 8 with | false => rfl | true => have := d8_7 hx; rw [n7] at this; cases this
      have st0 : SwN wS wx g4 g5 pp qq 1 D w := by
        have hst := st
        simp only [hl, n6, n7, Bool.false_eq_true, if_false, if_true, w2] at hst
        exact hst
      refine o5.call2 (enters_of Tryz.func29 (by kernel_rfl) rfl) (f3 w3) (f4 w4) (with_any p B m d w (RowK.later hp.deps (hlS.trans st0.1)) hp.dmost) ?_
      rintro e w' ⟨D', cd', rfl, hd'⟩
      obtain ⟨z, hzv, hz1, hz2, hz3⟩ := with_ok hp (hlS.trans st0.1) (hzs.on st0.1) hm0 hfz hd'
      rw [hzv]
      have st1 : SwN wS wx g4 g5 pp qq 2 { D with z := z } w' := ⟨Later.trans st0.1 (OwnK.later hd'), st0.2.later (OwnK.later hd'), hz2, hz3, hz1.trans hpp⟩
      have st2 : SwN wS wx g4 g5 pp qq (if (more l 5) 7 = true then 4 else (if (more l 5) 6 = true then 3 else (if (more l 5) 5 = true then 2 else (if (more l 5) 2 = true then 1 else 0)))) ({ D with z := z }) w' := by
        rw [if_neg (show ¬ (more l 5 7 = true) from by rw [show more l 5 7 = l 7 from rfl, n7]; simp), if_neg (show ¬ (more l 5 6 = true) from by rw [show more l 5 6 = l 6 from rfl, n6]; simp), if_pos (show more l 5 5 = true from rfl)]
        exact st1
      exact ⟨_, rfl, ⟨{ D with z := z }, (so.put (by decide) _), st2, (fun e => (eval_put_other' _ _ (by decide)).trans (f0 e)), (fun e => (eval_put_other' _ _ (by decide)).trans (f1 e)), (fun e => (eval_put_other' _ _ (by decide)).trans (f2 e)), (fun e => (eval_put_other' _ _ (by decide)).trans (f3 e)), (fun e => (eval_put_other' _ _ (by decide)).trans (f4 e)), (fun _ => eval_put_same' _ _ _ (by rw [so.size]; show (54 : Nat) < _; omega)), (fun e => by rw [show more l 5 8 = l 8 from rfl, n8] at e; cases e), (fun _ => w2), (fun _ => rfl), d7_6, d2_0, d2_1, (fun _ => w3), (fun _ => w4), d6_2, (fun _ => rfl), d8_7⟩⟩
    · have ws := o6.waits ho hwait
      have w2 := ws 2 (by simp)
      have w5 := ws 5 (by simp)
      have w0 := d2_0 w2
      have w1 := d2_1 w2
      have w3 := d5_3 w5
      have w4 := d5_4 w5
      have n7 : l 7 = false := by cases hx : l 7 with | false => rfl | true => have := d7_6 hx; rw [hl] at this; cases this
      have n8 : l 8 = false := by cases hx : l 8 with | false => rfl | true => have := d8_7 hx; rw [n7] at this; cases this
      have st0 : SwN wS wx g4 g5 pp qq 2 D w := by
        have hst := st
        simp only [hl, n7, Bool.false_eq_true, if_false, if_true, w5] at hst
        exact hst
      refine o6.storeA Tryz.patchSize ((show _ = a1.eval _ from by simp only [Act.eval, Array.getD_eq_getD_getElem?, so.out 4 (by decide)]).trans e4) (f2 w2) (hb4.later st0.1) h4s ?_
      intro w' hb' ht'
      have st1 : SwN wS wx g4 g5 pp qq 3 D w' := ⟨⟨w, st0.1, ht'⟩, hb', st0.2.1.off ht' hg4, st0.2.2.off ht' hg4⟩
      have st2 : SwN wS wx g4 g5 pp qq (if (more l 6) 7 = true then 4 else (if (more l 6) 6 = true then 3 else (if (more l 6) 5 = true then 2 else (if (more l 6) 2 = true then 1 else 0)))) (D) w' := by
        rw [if_neg (show ¬ (more l 6 7 = true) from by rw [show more l 6 7 = l 7 from rfl, n7]; simp), if_pos (show more l 6 6 = true from rfl)]
        exact st1
      exact ⟨D, so, st2, f0, f1, f2, f3, f4, f5, (fun e => by rw [show more l 6 8 = l 8 from rfl, n8] at e; cases e), d5_2, (fun _ => w5), (fun _ => rfl), d2_0, d2_1, d5_3, d5_4, (fun _ => w2), d7_5, d8_7⟩
    · have ws := o7.waits ho hwait
      have w5 := ws 5 (by simp)
      have w6 := ws 6 (by simp)
      have w2 := d5_2 w5
      have w0 := d2_0 w2
      have w1 := d2_1 w2
      have w3 := d5_3 w5
      have w4 := d5_4 w5
      have n8 : l 8 = false := by cases hx : l 8 with | false => rfl | true => have := d8_7 hx; rw [hl] at this; cases this
      have st0 : SwN wS wx g4 g5 pp qq 3 D w := by
        have hst := st
        simp only [hl, Bool.false_eq_true, if_false, if_true, w6] at hst
        exact hst
      obtain ⟨V1, hl1, ht1⟩ := st0.1
      refine o7.storeA Tryz.patchSize ((show _ = a1.eval _ from by simp only [Act.eval, Array.getD_eq_getD_getElem?, so.out 5 (by decide)]).trans e5) (f5 w5) ((hb5.later hl1).other ht1 (fun e => h45 e.symm)) h5s ?_
      intro w' hb' ht'
      have st1 : SwN wS wx g4 g5 pp qq 4 D w' := ⟨⟨V1, w, hl1, ht1, ht'⟩, st0.2.1.other ht' h45, hb', st0.2.2.1.off ht' hg5, st0.2.2.2.off ht' hg5⟩
      have st2 : SwN wS wx g4 g5 pp qq (if (more l 7) 7 = true then 4 else (if (more l 7) 6 = true then 3 else (if (more l 7) 5 = true then 2 else (if (more l 7) 2 = true then 1 else 0)))) (D) w' := by
        rw [if_pos (show more l 7 7 = true from rfl)]
        exact st1
      exact ⟨D, so, st2, f0, f1, f2, f3, f4, f5, (fun e => by rw [show more l 7 8 = l 8 from rfl, n8] at e; cases e), d5_2, d6_5, (fun _ => w6), d2_0, d2_1, d5_3, d5_4, d6_2, (fun _ => w5), (fun _ => rfl)⟩
    · have ws := o8.waits ho hwait
      have w7 := ws 7 (by simp)
      have w6 := d7_6 w7
      have w2 := d6_2 w6
      have w5 := d7_5 w7
      have w0 := d2_0 w2
      have w1 := d2_1 w2
      have w3 := d5_3 w5
      have w4 := d5_4 w5
      have st0 := st
      refine o8.assignB ?_
      exact ⟨D, (so.put (by decide) _), st, (fun e => (eval_put_other' _ _ (by decide)).trans (f0 e)), (fun e => (eval_put_other' _ _ (by decide)).trans (f1 e)), (fun e => (eval_put_other' _ _ (by decide)).trans (f2 e)), (fun e => (eval_put_other' _ _ (by decide)).trans (f3 e)), (fun e => (eval_put_other' _ _ (by decide)).trans (f4 e)), (fun e => (eval_put_other' _ _ (by decide)).trans (f5 e)), (fun _ => eval_put_same' _ _ _ (by rw [so.size]; show (6 : Nat) < _; omega)), d5_2, d6_5, d7_6, d2_0, d2_1, d5_3, d5_4, d6_2, d7_5, (fun _ => w7)⟩
  · intro l a w hall ⟨D, so, st, f0, f1, f2, f3, f4, f5, f8, d5_2, d6_5, d7_6, d2_0, d2_1, d5_3, d5_4, d6_2, d7_5, d8_7⟩
    rw [hn] at hall
    have hst : SwN wS wx g4 g5 pp qq 4 D w := by
      have hst := st
      simp only [hall 7 (by decide), if_true] at hst
      exact hst
    exact hend D a w so (f8 (hall 8 (by decide))) hst
  · have h0 : SwN wS wx g4 g5 pp qq 0 ⟨zeroN, zeroN⟩ { wx with drawn := wx.drawn + 1 } := (Later.refl wx).drew
    exact ⟨⟨zeroN, zeroN⟩, SameOut.refl _ _, h0, (fun e => by cases e), (fun e => by cases e), (fun e => by cases e), (fun e => by cases e), (fun e => by cases e), (fun e => by cases e), (fun e => by cases e), (fun e => by cases e), (fun e => by cases e), (fun e => by cases e), (fun e => by cases e), (fun e => by cases e), (fun e => by cases e), (fun e => by cases e), (fun e => by cases e), (fun e => by cases e), (fun e => by cases e)⟩

end Go.Proofs.YtlnjhimbgckdcaaGreat

/-
  What is wrong with a number of a patch's dependences: the closure, and the functions that ask it, as calls.
-/
namespace Go.Proofs.YtlnjhimbgckdcaaGreat
open Go.RowKit Go.Maps

def closeW (bl bp : Nat) : Value := .func (.func 59) #[] #[.pointer (some ⟨bl, 0, none⟩), .pointer (some ⟨bp, 0, none⟩)]
set_option maxRecDepth 100000 in
set_option maxHeartbeats 400000 in
theorem wrong_any (x : PaC) (bl bp : Nat) (last d : Int) (w : World) (hl : BoxAt w bl #[.int .i64 last] 3) (hp : BoxAt w bp (paL x).toArray 30) (hne : bp ≠ bl) :
    Calls Tryz.prog 59 #[.int .i64 d, .pointer (some ⟨bl, 0, none⟩), .pointer (some ⟨bp, 0, none⟩)] w fun e w' => e = .returned (.bool (wrongN x.v.id last d)) /\ w' = w.setCell ⟨bl, 0, none⟩ (.int .i64 d) := by
  have c0 := hl.cell (i := 0) rfl; have f0 := hl.frozen 0
  simp only [List.getElem_toArray, List.getElem_cons_zero] at c0
  have p0 : (w.setCell ⟨bl, 0, none⟩ (.int .i64 d)).cell? ⟨bp, 0, none⟩ = some (.int .i64 x.v.id) := (hp.other (turned_set w bl 0 _) hne).cell rfl
  have HN := Lib.hid (numbers_any d (w.setCell ⟨bl, 0, none⟩ (.int .i64 d)))
  clear hl hp
  by_cases h1 : d <= last
  · rw [show wrongN x.v.id last d = true from by simp [wrongN, h1]]
    go_enter Tryz.func59, Tryz.ntmps59
    go_wp2
    go_ret
    exact ⟨rfl, rfl⟩
  · by_cases h2 : 1 <= d /\ d <= 1000000000
    · rw [decide_eq_true h2] at HN
      rw [show wrongN x.v.id last d = decide (d = x.v.id) from by simp [wrongN, h1, h2]]
      go_enter Tryz.func59, Tryz.ntmps59
      go_wp2_with fail
      refine HN.out.mono ?_
      rintro e w' ⟨rfl, rfl⟩
      go_wp2
      go_ret
      exact ⟨rfl, rfl⟩
    · rw [decide_eq_false h2] at HN
      rw [show wrongN x.v.id last d = true from by simp only [wrongN, decide_eq_false h2]; simp]
      go_enter Tryz.func59, Tryz.ntmps59
      go_wp2_with fail
      refine HN.out.mono ?_
      rintro e w' ⟨rfl, rfl⟩
      go_wp2
      go_ret
      exact ⟨rfl, rfl⟩

def wrongAt (id : Int) (l : List Int) (j : Nat) : Bool := wrongN id (lastN l j) (l.getD j 0)
theorem wrongAt_any {id : Int} {l : List Int} : anyWrong id 0 l = true ↔ ∃ j, j < l.length /\ wrongAt id l j = true := by
  rw [anyWrong_at]
  constructor
  · rintro ⟨k, d, h1, h2⟩
    obtain ⟨hk, rfl⟩ := List.getElem?_eq_some_iff.1 h1
    refine ⟨k, hk, ?_⟩
    unfold wrongAt lastN
    rw [show l.getD k 0 = l[k] from by simp [List.getD, List.getElem?_eq_getElem hk]]
    exact h2
  · rintro ⟨k, hk, h⟩
    refine ⟨k, l[k], List.getElem?_eq_getElem hk, ?_⟩
    unfold wrongAt lastN at h
    rw [show l.getD k 0 = l[k] from by simp [List.getD, List.getElem?_eq_getElem hk]] at h
    exact h
theorem lastN_succ (l : List Int) (k : Nat) : lastN l (k + 1) = l.getD k 0 := by simp [lastN]
theorem RowI.off {w w' : World} {A : Option Addr} {n g : Nat} {l : List Int} (h : RowI w A n l) (hg : Turned g w w') (ho : l ≠ [] -> Off g (.slice A n n)) : RowI w' A n l := RowK.offK (c := n) h hg (fun e => ho (map_ne e))

set_option maxRecDepth 100000 in
set_option maxHeartbeats 800000 in
theorem indexW_any (x : PaC) (bl bp : Nat) (A : Option Addr) (n c : Nat) (l : List Int) (w : World) (hx : RowI w A n l) (hn : n <= 65536) (hl : BoxAt w bl #[.int .i64 0] 3) (hp : BoxAt w bp (paL x).toArray 30) (hne : bp ≠ bl) (ho : l ≠ [] -> Off bl (.slice A n n)) :
    Calls Tryz.prog 71 #[.slice A n c, closeW bl bp] w fun e w' => (∃ k : Int, e = .returned (.int .i64 k) /\ (0 <= k ↔ anyWrong x.v.id 0 l = true)) /\ Turned bl w w' := by
  have HX := Lib.hid hx; have HP := Lib.hid hp; have HO := Lib.hid ho
  have HL0 : Hid (BoxAt w bl #[.int .i64 (lastN l 0)] 3) := hl
  have eg : ∀ (args : Array Value) (w : World), (callFunc 59 args).run Tryz.prog w = .ok (.enter 59 args) w := enters_of Tryz.func59 (by kernel_rfl) rfl
  clear hx hp hl ho
  unfold closeW
  go_enter Tryz.func71, Tryz.ntmps71
  go_wp2
  go_loopg [5, 8] (n + 1) (fun g s5 s8 wr => ∃ k : Nat, k <= n /\ n - k <= g /\ s8 = .int .i64 k /\ Hid (BoxAt wr bl #[.int .i64 (lastN l k)] 3) /\ Hid (Turned bl w wr) /\ Hid (∀ j : Nat, j < k -> wrongAt x.v.id l j = false))
  case atStart => exact ⟨0, Nat.zero_le _, by omega, rfl, HL0, Turned.refl _ _, fun j hj => absurd hj (Nat.not_lt_zero _)⟩
  case round =>
    obtain ⟨k, hk, hg, rfl, hbl, ht, hall⟩ := hrel
    by_cases hlt : k < n
    · obtain ⟨b1, o1, rfl, g1⟩ := (HX.out.off ht.out HO.out).get hlt
      have HF := Lib.hid (wrong_any x bl bp (lastN l k) (l.getD k 0) wr hbl.out (HP.out.other ht.out hne) hne)
      have HW : Hid (wrongN x.v.id (lastN l k) (l.getD k 0) = wrongAt x.v.id l k) := rfl
      have HN : Hid (BoxAt (wr.setCell ⟨bl, 0, none⟩ (.int .i64 (l.getD k 0))) bl #[.int .i64 (lastN l (k + 1))] 3) := by rw [lastN_succ]; exact hbl.out.set 0 _
      have HT : Hid (Turned bl w (wr.setCell ⟨bl, 0, none⟩ (.int .i64 (l.getD k 0)))) := ht.out.trans (turned_set wr bl 0 _)
      rw [HW.out] at HF
      clear hbl ht HW
      generalize l.getD k 0 = y at g1 HF HN HT
      cases he : wrongAt x.v.id l k
      · rw [he] at HF
        have HA : Hid (∀ j : Nat, j < k + 1 -> wrongAt x.v.id l j = false) := fun j hj => by
          by_cases e : j = k
          · rw [e]; exact he
          · exact hall.out j (by omega)
        clear hall he
        go_wp2_with (go_at_fn 59; refine HF.out.mono ?_; rintro e w' ⟨rfl, rfl⟩)
        go_roundg (n - (k + 1))
        case measure => omega
        case rel => exact ⟨k + 1, by omega, Nat.le_refl _, by go_num, HN, HT, HA⟩
      · rw [he] at HF
        have HE : Hid (anyWrong x.v.id 0 l = true) := wrongAt_any.2 ⟨k, by rw [HX.out.len]; exact hlt, he⟩
        clear hall he
        go_wp2_with (go_at_fn 59; refine HF.out.mono ?_; rintro e w' ⟨rfl, rfl⟩)
        go_ret
        exact ⟨⟨k, rfl, fun _ => HE.out, fun _ => by omega⟩, HT.out⟩
    · have E : Hid (¬ anyWrong x.v.id 0 l = true) := by
        intro h
        obtain ⟨j, hj, e⟩ := wrongAt_any.1 h
        rw [hall.out j (by rw [HX.out.len] at hj; omega)] at e
        cases e
      clear hall
      go_wp2
      go_ret
      exact ⟨⟨-1, rfl, fun h => absurd h (by omega), fun h => absurd h E.out⟩, ht.out⟩

set_option maxRecDepth 100000 in
set_option maxHeartbeats 400000 in
theorem containsW_any (x : PaC) (bl bp : Nat) (A : Option Addr) (n c : Nat) (l : List Int) (w : World) (hx : RowI w A n l) (hn : n <= 65536) (hl : BoxAt w bl #[.int .i64 0] 3) (hp : BoxAt w bp (paL x).toArray 30) (hne : bp ≠ bl) (ho : l ≠ [] -> Off bl (.slice A n n)) :
    Calls Tryz.prog 60 #[.slice A n c, closeW bl bp] w fun e w' => e = .returned (.bool (anyWrong x.v.id 0 l)) /\ Turned bl w w' := by
  have HI := Lib.hid (indexW_any x bl bp A n c l w hx hn hl hp hne ho)
  clear hx hl hp ho
  unfold closeW at HI ⊢
  generalize anyWrong x.v.id 0 l = b at HI ⊢
  go_enter Tryz.func60, Tryz.ntmps60
  go_wp2_with fail
  refine HI.out.mono ?_
  rintro e w' ⟨⟨k, rfl, hk⟩, ht⟩
  have e1 : decide (0 <= k) = b := by
    rw [Bool.eq_iff_iff, decide_eq_true_eq, hk]
  have E1 := Lib.hid e1; have HT := Lib.hid ht
  clear e1 hk HI ht
  go_wp2
  go_ret
  refine ⟨?_, HT.out⟩
  first | exact ret_bool E1.out | (rw [← E1.out]; rfl) | (rw [← E1.out]; simp)

set_option maxRecDepth 100000 in
set_option maxHeartbeats 800000 in
theorem rightDeps_any (x : PaC) (w : World) (hx : PaOk w x) :
    Calls Tryz.prog 44 #[paV x] w (Says (decide (x.v.deps.length <= 8) && !anyWrong x.v.id 0 x.v.deps) w) := by
  have hlen : x.v.deps.length = x.nd := by have := hx.deps.len; simpa using this
  have hb0 : BoxAt ((w.alloc (.cells #[.int .i64 x.v.id, .string x.v.note, .slice x.D x.nd x.cd, .slice x.L x.nl x.cl] 30)).alloc (.cells #[.int .i64 0] 3)) w.heap.size (paL x).toArray 30 := (BoxAt.made w (paL x).toArray 30).alloc _
  have hb1 : BoxAt ((w.alloc (.cells #[.int .i64 x.v.id, .string x.v.note, .slice x.D x.nd x.cd, .slice x.L x.nl x.cl] 30)).alloc (.cells #[.int .i64 0] 3)) (w.heap.size + 1) #[.int .i64 0] 3 := by
    have := BoxAt.made (w.alloc (.cells #[.int .i64 x.v.id, .string x.v.note, .slice x.D x.nd x.cd, .slice x.L x.nl x.cl] 30)) #[.int .i64 0] 3
    rw [World.size_alloc] at this
    exact this
  have hlD : Later w ((w.alloc (.cells #[.int .i64 x.v.id, .string x.v.note, .slice x.D x.nd x.cd, .slice x.L x.nl x.cl] 30)).alloc (.cells #[.int .i64 0] 3)) := ((Later.refl w).alloc _).alloc _
  have HC := Lib.hid (containsW_any x (w.heap.size + 1) w.heap.size x.D x.nd x.cd x.v.deps _ (RowK.later hx.deps hlD) hx.dmost hb1 hb0 (by omega) (fun e => RowK.awayK hx.deps (by decide) (by omega) (map_ne' e)))
  have HL := Lib.hid hlD; have HB1 := Lib.hid hb1; have HB0 := Lib.hid hb0
  rw [hlen]
  clear hb0 hb1 hlD hx
  unfold closeW at HC
  unfold paV
  by_cases h8 : x.nd <= 8
  · rw [decide_eq_true h8, Bool.true_and]
    generalize anyWrong x.v.id 0 x.v.deps = b at HC ⊢
    go_enter Tryz.func44, Tryz.ntmps44
    go_wp2_with fail
    refine HC.out.mono ?_
    rintro e w' ⟨rfl, ht⟩
    have HT := Lib.hid (HL.out.turn ht (by omega))
    clear ht HC
    go_wp2
    go_ret
    exact ⟨by cases b <;> rfl, HT.out⟩
  · rw [decide_eq_false h8, Bool.false_and]
    have h8' : ¬ (x.nd : Int) <= 8 := by omega
    go_enter Tryz.func44, Tryz.ntmps44
    go_wp2
    go_ret
    exact ⟨rfl, HL.out⟩

end Go.Proofs.YtlnjhimbgckdcaaGreat

/-
  What Right of rows comes to, as a call, and the document's.
-/
namespace Go.Proofs.YtlnjhimbgckdcaaGreat
open Go.RowKit Go.Maps

set_option maxRecDepth 100000 in
set_option maxHeartbeats 800000 in
theorem seqRight_any (A : Option Addr) (n c : Nat) (xs : List PrC) (w : World) (hx : PsOk w A n xs) (hn : n <= 65536) :
    Calls Tryz.prog 45 #[.slice A n c] w (Says ((valsP xs).all rightP) w) := by
  have HX := Lib.hid hx; clear hx
  go_enter Tryz.func45, Tryz.ntmps45
  go_wp2
  go_loopg [7] (n + 1) (fun g s7 wr => ∃ k : Nat, k <= n /\ n - k <= g /\ s7 = .int .i64 k /\ Hid (((valsP xs).take k).all rightP = true) /\ Hid (Later w wr))
  case atStart => exact ⟨0, Nat.zero_le _, by omega, rfl, by simp [Hid], Later.refl w⟩
  case round =>
    obtain ⟨k, hk, hg, rfl, hall, hwr⟩ := hrel
    by_cases hlt : k < n
    · obtain ⟨b, o, x, rfl, hz, hok, g0, g1, g2, g3, g4, g5⟩ := (HX.out.later hwr.out).get hlt
      have HLB : Hid (Later wr (wr.alloc (.cells #[.int .i64 x.v.kind, .string x.v.name, .string x.v.to, .int .i64 x.v.place, .slice x.A x.n x.c, .slice x.B x.m x.d] 58))) := (Later.refl wr).alloc _
      have HR := Lib.hid (primRight_any x _ (hok.later HLB.out))
      have HTK := Lib.hid (valsP_take hz); have HAT := Lib.hid (List.mem_of_getElem? (valsP_at hz))
      clear hok hz
      unfold prV at HR
      cases hr : rightP x.v
      · rw [hr] at HR
        have HNO : Hid ((valsP xs).all rightP = false) := List.all_eq_false.2 ⟨x.v, HAT.out, by simp [hr]⟩
        clear hr
        go_wp2_with fail
        refine HR.out.mono ?_
        rintro e w2 ⟨rfl, hl2⟩
        have HL2 := Lib.hid hl2
        clear hl2 HR
        go_wp2
        go_ret
        exact ⟨by rw [HNO.out]; rfl, (hwr.out.trans HLB.out).trans HL2.out⟩
      · rw [hr] at HR
        have HNX : Hid (((valsP xs).take (k + 1)).all rightP = true) := by
          show _ = true
          rw [HTK.out, List.all_append, hall.out]; simp [hr]
        clear hr
        go_wp2_with fail
        refine HR.out.mono ?_
        rintro e w2 ⟨rfl, hl2⟩
        have HL2 := Lib.hid hl2
        clear hl2 HR
        go_wp2
        go_roundg (n - (k + 1))
        case measure => omega
        case rel => exact ⟨k + 1, by omega, Nat.le_refl _, by go_num, HNX, (hwr.out.trans HLB.out).trans HL2.out⟩
    · have HE : Hid ((valsP xs).all rightP = true) := by
        have := hall.out
        rw [List.take_of_length_le (by rw [valsP_length, HX.out.len]; omega)] at this
        exact this
      go_wp2
      go_ret
      exact ⟨by rw [HE.out]; rfl, hwr.out⟩

set_option maxRecDepth 100000 in
set_option maxHeartbeats 800000 in
theorem refRight5_any (A : Option Addr) (n c : Nat) (xs : List PrC) (w : World) (hx : PsOk w A n xs) (hn : n <= 65536) :
    Calls Tryz.prog 37 #[.slice A n c] w (Says ((valsP xs).all rightP) w) := by
  have HX := Lib.hid hx; clear hx
  go_enter Tryz.func37, Tryz.ntmps37
  go_wp2
  go_loopg [3] (n + 1) (fun g s7 wr => ∃ k : Nat, k <= n /\ n - k <= g /\ s7 = .int .i64 k /\ Hid (((valsP xs).take k).all rightP = true) /\ Hid (Later w wr))
  case atStart => exact ⟨0, Nat.zero_le _, by omega, rfl, by simp [Hid], Later.refl w⟩
  case round =>
    obtain ⟨k, hk, hg, rfl, hall, hwr⟩ := hrel
    by_cases hlt : k < n
    · obtain ⟨b, o, x, rfl, hz, hok, g0, g1, g2, g3, g4, g5⟩ := (HX.out.later hwr.out).get hlt
      have HLB : Hid (Later wr (wr)) := Later.refl wr
      have HR := Lib.hid (refRightP_any x _ (hok.later HLB.out))
      have HTK := Lib.hid (valsP_take hz); have HAT := Lib.hid (List.mem_of_getElem? (valsP_at hz))
      clear hok hz
      unfold prV at HR
      cases hr : rightP x.v
      · rw [hr] at HR
        have HNO : Hid ((valsP xs).all rightP = false) := List.all_eq_false.2 ⟨x.v, HAT.out, by simp [hr]⟩
        clear hr
        go_wp2_with fail
        refine HR.out.mono ?_
        rintro e w2 ⟨rfl, hl2⟩
        have HL2 := Lib.hid hl2
        clear hl2 HR
        go_wp2
        go_ret
        exact ⟨by rw [HNO.out]; rfl, (hwr.out.trans HLB.out).trans HL2.out⟩
      · rw [hr] at HR
        have HNX : Hid (((valsP xs).take (k + 1)).all rightP = true) := by
          show _ = true
          rw [HTK.out, List.all_append, hall.out]; simp [hr]
        clear hr
        go_wp2_with fail
        refine HR.out.mono ?_
        rintro e w2 ⟨rfl, hl2⟩
        have HL2 := Lib.hid hl2
        clear hl2 HR
        go_wp2
        go_roundg (n - (k + 1))
        case measure => omega
        case rel => exact ⟨k + 1, by omega, Nat.le_refl _, by go_num, HNX, (hwr.out.trans HLB.out).trans HL2.out⟩
    · have HE : Hid ((valsP xs).all rightP = true) := by
        have := hall.out
        rw [List.take_of_length_le (by rw [valsP_length, HX.out.len]; omega)] at this
        exact this
      go_wp2
      go_ret
      exact ⟨by rw [HE.out]; rfl, hwr.out⟩


end Go.Proofs.YtlnjhimbgckdcaaGreat

/-
  What named's Right comes to, as a call.
-/
namespace Go.Proofs.YtlnjhimbgckdcaaGreat
open Go.RowKit Go.Maps

theorem paOk_length {w : World} {x : PaC} (hx : PaOk w x) : x.v.l.length = x.nl := by rw [← hx.is, valsP_length]; exact hx.row.len
set_option maxRecDepth 100000 in
set_option maxHeartbeats 800000 in
theorem right7_any (x : PaC) (w : World) (hx : PaOk w x) : Calls Tryz.prog 26 #[paV x] w (Says (rightN x.v) w) := by
  have hlen := paOk_length hx
  have HLB : Hid (Later w (w.alloc (.cells #[.int .i64 x.v.id, .string x.v.note, .slice x.D x.nd x.cd, .slice x.L x.nl x.cl] 30))) := (Later.refl w).alloc _
  have HB : Hid (BoxAt (w.alloc (.cells #[.int .i64 x.v.id, .string x.v.note, .slice x.D x.nd x.cd, .slice x.L x.nl x.cl] 30)) w.heap.size (paL x).toArray 30) := BoxAt.made w (paL x).toArray 30
  have HN := Lib.hid (numbers_any x.v.id (w.alloc (.cells #[.int .i64 x.v.id, .string x.v.note, .slice x.D x.nd x.cd, .slice x.L x.nl x.cl] 30)))
  have HR := Lib.hid (right_any x.v.note (w.alloc (.cells #[.int .i64 x.v.id, .string x.v.note, .slice x.D x.nd x.cd, .slice x.L x.nl x.cl] 30)) hx.note)
  have HD := Lib.hid (rightDeps_any x _ (hx.later HLB.out))
  have HS : Hid (∀ w', Later w w' -> Calls Tryz.prog 45 #[.slice x.L x.nl x.cl] w' (Says (x.v.l.all rightP) w')) := fun w' hl => by
    rw [← hx.is]
    exact seqRight_any x.L x.nl x.cl x.xs w' (hx.row.later hl) (by have := hx.lmost; omega)
  have hm := hx.lmost
  rw [rightN_parts, hlen]
  generalize hRR : (decide (1 <= x.v.id /\ x.v.id <= 1000000000) && (rightB x.v.note && ((decide (x.v.deps.length <= 8) && !anyWrong x.v.id 0 x.v.deps) && (decide (1 <= x.nl) && (decide (x.nl <= 24) && x.v.l.all rightP))))) = r
  have HRR := Lib.hid hRR
  clear hx hRR
  unfold paV at HD ⊢
  cases hb1 : decide (1 <= x.v.id /\ x.v.id <= 1000000000)
  · rw [hb1] at HN
    go_enter Tryz.func26, Tryz.ntmps26
    go_wp2_with fail
    refine HN.out.mono ?_
    rintro e w' ⟨rfl, rfl⟩
    go_wp2
    go_ret
    exact ⟨by rw [← HRR.out, hb1]; rfl, HLB.out⟩
  · rw [hb1] at HN
    cases hb2 : rightB x.v.note
    · rw [hb2] at HR
      go_enter Tryz.func26, Tryz.ntmps26
      go_wp2_with fail
      refine HN.out.mono ?_
      rintro e w' ⟨rfl, rfl⟩
      go_wp2_with fail
      refine HR.out.mono ?_
      rintro e w' ⟨rfl, rfl⟩
      go_wp2
      go_ret
      exact ⟨by rw [← HRR.out, hb1, hb2]; rfl, HLB.out⟩
    · rw [hb2] at HR
      generalize (decide (x.v.deps.length <= 8) && !anyWrong x.v.id 0 x.v.deps) = dd at HD HRR
      go_enter Tryz.func26, Tryz.ntmps26
      go_wp2_with fail
      refine HN.out.mono ?_
      rintro e w' ⟨rfl, rfl⟩
      go_wp2_with fail
      refine HR.out.mono ?_
      rintro e w' ⟨rfl, rfl⟩
      go_wp2_with fail
      refine HD.out.mono ?_
      rintro e w3 ⟨rfl, hl3⟩
      have HB3 := Lib.hid (HB.out.later hl3)
      have HL3 := Lib.hid (HLB.out.trans hl3)
      clear hl3 HN HR HD
      have q0 := HB3.out.cell (i := 3) rfl
      simp only [paL, List.getElem_toArray, List.getElem_cons_zero, List.getElem_cons_succ] at q0
      cases dd with
      | false =>
        go_wp2
        go_ret
        exact ⟨by rw [← HRR.out, hb1, hb2]; rfl, HL3.out⟩
      | true =>
        by_cases g1 : 1 <= x.nl
        · by_cases g2 : x.nl <= 24
          · have HS3 := Lib.hid (HS.out w3 HL3.out)
            generalize x.v.l.all rightP = b at HS3 HRR
            clear HS
            go_wp2_with fail
            refine HS3.out.mono ?_
            rintro e w4 ⟨rfl, hl4⟩
            have HL4 := Lib.hid (HL3.out.trans hl4)
            clear hl4 HS3
            go_wp2
            go_ret
            exact ⟨by rw [← HRR.out, hb1, hb2, decide_eq_true g1, decide_eq_true g2]; rfl, HL4.out⟩
          · have g2' : ¬ (x.nl : Int) <= 24 := by omega
            go_wp2
            go_ret
            exact ⟨by rw [← HRR.out, hb1, hb2, decide_eq_true g1, decide_eq_false g2]; rfl, HL3.out⟩
        · have g1' : ¬ (1 : Int) <= (x.nl : Int) := by omega
          go_wp2
          go_ret
          exact ⟨by rw [← HRR.out, hb1, hb2, decide_eq_false g1]; rfl, HL3.out⟩

end Go.Proofs.YtlnjhimbgckdcaaGreat
