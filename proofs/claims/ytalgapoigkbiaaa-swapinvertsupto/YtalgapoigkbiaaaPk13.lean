import Derived.Test.YtalgapoigkbiaaaPk12
import Derived.Test.YtalgapoigkbiaaaPk5

/-
  A statement that undoes two prims, swaps them, and keeps both: in whatever order its operations come.
-/
namespace Go.Proofs.Ytalgapoigkbiaaa
open Go.RowKit Go.Maps

set_option maxHeartbeats 1600000 in
theorem iv_region {ops : Array Oper} (hn : ops.size = 14) (hg : goesBack ops = true)
    (o0 : OpIs ops 0 (.load 27 (.tmp 6)) (some 29) [])
    (o1 : OpIs ops 1 (.call { callee := .value (.func 23), args := #[.tmp 29], argTypes := #[27] }) (some 30) [0])
    (o2 : OpIs ops 2 (.load 27 (.tmp 5)) (some 31) [])
    (o3 : OpIs ops 3 (.call { callee := .value (.func 23), args := #[.tmp 31], argTypes := #[27] }) (some 32) [2])
    (o4 : OpIs ops 4 (.call { callee := .value (.func 12), args := #[.tmp 30, .tmp 32], argTypes := #[27, 27] }) (some 33) [1, 3])
    (o5 : OpIs ops 5 (.move (.tmp 33)) (some 28) [4])
    (o6 : OpIs ops 6 (.extract (.tmp 28) 0) (some 34) [5])
    (o7 : OpIs ops 7 (.extract (.tmp 28) 1) (some 35) [5])
    (o8 : OpIs ops 8 (.extract (.tmp 28) 2) (some 36) [5])
    (o9 : OpIs ops 9 (.alloc 27) (some 10) [])
    (o10 : OpIs ops 10 (.alloc 27) (some 11) [])
    (o11 : OpIs ops 11 (.store 27 (.tmp 10) (.tmp 34)) none [9, 6, 4, 10])
    (o12 : OpIs ops 12 (.store 27 (.tmp 11) (.tmp 35)) none [10, 7, 4, 9])
    (o13 : OpIs ops 13 (.assign (.tmp 36)) (some 12) [8])
    {a1 : Act} (hs : 62 ≤ a1.tmps.size) {wx : World} {x y : PrC} {gx gy : Nat} (e5 : a1.eval (.tmp 5) = .pointer (some ⟨gx, 0, none⟩)) (e6 : a1.eval (.tmp 6) = .pointer (some ⟨gy, 0, none⟩)) (bx : BoxAt wx gx (prL x).toArray 27) (by_ : BoxAt wx gy (prL y).toArray 27) (ox_ : PrOk wx x) (oy_ : PrOk wx y) {r s : Pr} {t : Bool} (hsw : swapR (swapP (invertP y.v) (invertP x.v)) = (r, s, t))
    {Q : Exit → Act → World → Prop} {id : Nat} (hend : ∀ (D : Dat) (a : Act) (w : World), SameOut a1 a [29, 30, 31, 32, 33, 28, 34, 35, 36, 10, 11, 12] → a.eval (.tmp 10) = .pointer (some ⟨D.g8, 0, none⟩) → a.eval (.tmp 11) = .pointer (some ⟨D.g9, 0, none⟩) → a.eval (.tmp 12) = .bool t → Wd wx (invertP y.v) (invertP x.v) r s true true true true true true true D w → Q .normal a w) :
    (Code.region id ops true).wp Try.prog Q a1 wx := by
  refine region_inv (by kernel_rfl) hg (fun l a w => ∃ D : Dat, SameOut a1 a [29, 30, 31, 32, 33, 28, 34, 35, 36, 10, 11, 12] ∧ Wd wx (invertP y.v) (invertP x.v) r s (l 1) (l 3) (l 4) (l 9) (l 10) (l 11) (l 12) D w ∧ (l 0 = true → a.eval (.tmp 29) = prV y) ∧ (l 1 = true → a.eval (.tmp 30) = prV D.i) ∧ (l 2 = true → a.eval (.tmp 31) = prV x) ∧ (l 3 = true → a.eval (.tmp 32) = prV D.j) ∧ (l 4 = true → a.eval (.tmp 33) = .tuple #[prV D.c, prV D.d, .bool t]) ∧ (l 5 = true → a.eval (.tmp 28) = .tuple #[prV D.c, prV D.d, .bool t]) ∧ (l 6 = true → a.eval (.tmp 34) = prV D.c) ∧ (l 7 = true → a.eval (.tmp 35) = prV D.d) ∧ (l 8 = true → a.eval (.tmp 36) = .bool t) ∧ (l 9 = true → a.eval (.tmp 10) = .pointer (some ⟨D.g8, 0, none⟩)) ∧ (l 10 = true → a.eval (.tmp 11) = .pointer (some ⟨D.g9, 0, none⟩)) ∧ (l 13 = true → a.eval (.tmp 12) = .bool t) ∧ (l 5 = true → l 4 = true) ∧ (l 6 = true → l 4 = true) ∧ (l 7 = true → l 4 = true) ∧ (l 11 = true → l 4 = true) ∧ (l 12 = true → l 4 = true) ∧ (l 11 = true → l 9 = true) ∧ (l 12 = true → l 10 = true)) ?_ ?_ ?_
  · intro l a w i o ho hl hwait ⟨D, so, wd, f0, f1, f2, f3, f4, f5, f6, f7, f8, f9, f10, f13, d5_4, d6_4, d7_4, d11_4, d12_4, d11_9, d12_10⟩
    have hi : i < 14 := by rw [← hn]; exact (Array.getElem?_eq_some_iff.1 ho).1
    have hc : i = 0 ∨ i = 1 ∨ i = 2 ∨ i = 3 ∨ i = 4 ∨ i = 5 ∨ i = 6 ∨ i = 7 ∨ i = 8 ∨ i = 9 ∨ i = 10 ∨ i = 11 ∨ i = 12 ∨ i = 13 := by omega
    rcases hc with rfl | rfl | rfl | rfl | rfl | rfl | rfl | rfl | rfl | rfl | rfl | rfl | rfl | rfl
    · refine o0.load Try.underlying27 Try.primSize ((show _ = a1.eval _ from by simp only [Act.eval, Array.getD_eq_getD_getElem?, so.out 6 (by decide)]).trans e6) (by_.later wd.later) ?_
      exact ⟨D, (so.put (by decide) _), wd, (fun _ => eval_put_same' _ _ _ (by rw [so.size]; show (29 : Nat) < _; omega)), (fun e => (eval_put_other' _ _ (by decide)).trans (f1 e)), (fun e => (eval_put_other' _ _ (by decide)).trans (f2 e)), (fun e => (eval_put_other' _ _ (by decide)).trans (f3 e)), (fun e => (eval_put_other' _ _ (by decide)).trans (f4 e)), (fun e => (eval_put_other' _ _ (by decide)).trans (f5 e)), (fun e => (eval_put_other' _ _ (by decide)).trans (f6 e)), (fun e => (eval_put_other' _ _ (by decide)).trans (f7 e)), (fun e => (eval_put_other' _ _ (by decide)).trans (f8 e)), (fun e => (eval_put_other' _ _ (by decide)).trans (f9 e)), (fun e => (eval_put_other' _ _ (by decide)).trans (f10 e)), (fun e => (eval_put_other' _ _ (by decide)).trans (f13 e)), d5_4, d6_4, d7_4, d11_4, d12_4, d11_9, d12_10⟩
    · have ws := o1.waits ho hwait
      have w0 := ws 0 (by simp)
      refine o1.call1 (enters_of Try.func23 (by kernel_rfl) rfl) (f0 w0) (invert_v (oy_.later wd.later).at) ?_
      rintro e w' ⟨v, rfl, ⟨z, rfl, hz, oz⟩, hl'⟩
      exact ⟨_, rfl, { D with i := z }, (so.put (by decide) _), wd.inv1 hl' hz oz, (fun e => (eval_put_other' _ _ (by decide)).trans (f0 e)), (fun _ => eval_put_same' _ _ _ (by rw [so.size]; show (30 : Nat) < _; omega)), (fun e => (eval_put_other' _ _ (by decide)).trans (f2 e)), (fun e => (eval_put_other' _ _ (by decide)).trans (f3 e)), (fun e => (eval_put_other' _ _ (by decide)).trans (f4 e)), (fun e => (eval_put_other' _ _ (by decide)).trans (f5 e)), (fun e => (eval_put_other' _ _ (by decide)).trans (f6 e)), (fun e => (eval_put_other' _ _ (by decide)).trans (f7 e)), (fun e => (eval_put_other' _ _ (by decide)).trans (f8 e)), (fun e => (eval_put_other' _ _ (by decide)).trans (f9 e)), (fun e => (eval_put_other' _ _ (by decide)).trans (f10 e)), (fun e => (eval_put_other' _ _ (by decide)).trans (f13 e)), d5_4, d6_4, d7_4, d11_4, d12_4, d11_9, d12_10⟩
    · refine o2.load Try.underlying27 Try.primSize ((show _ = a1.eval _ from by simp only [Act.eval, Array.getD_eq_getD_getElem?, so.out 5 (by decide)]).trans e5) (bx.later wd.later) ?_
      exact ⟨D, (so.put (by decide) _), wd, (fun e => (eval_put_other' _ _ (by decide)).trans (f0 e)), (fun e => (eval_put_other' _ _ (by decide)).trans (f1 e)), (fun _ => eval_put_same' _ _ _ (by rw [so.size]; show (31 : Nat) < _; omega)), (fun e => (eval_put_other' _ _ (by decide)).trans (f3 e)), (fun e => (eval_put_other' _ _ (by decide)).trans (f4 e)), (fun e => (eval_put_other' _ _ (by decide)).trans (f5 e)), (fun e => (eval_put_other' _ _ (by decide)).trans (f6 e)), (fun e => (eval_put_other' _ _ (by decide)).trans (f7 e)), (fun e => (eval_put_other' _ _ (by decide)).trans (f8 e)), (fun e => (eval_put_other' _ _ (by decide)).trans (f9 e)), (fun e => (eval_put_other' _ _ (by decide)).trans (f10 e)), (fun e => (eval_put_other' _ _ (by decide)).trans (f13 e)), d5_4, d6_4, d7_4, d11_4, d12_4, d11_9, d12_10⟩
    · have ws := o3.waits ho hwait
      have w2 := ws 2 (by simp)
      refine o3.call1 (enters_of Try.func23 (by kernel_rfl) rfl) (f2 w2) (invert_v (ox_.later wd.later).at) ?_
      rintro e w' ⟨v, rfl, ⟨z, rfl, hz, oz⟩, hl'⟩
      exact ⟨_, rfl, { D with j := z }, (so.put (by decide) _), wd.inv2 hl' hz oz, (fun e => (eval_put_other' _ _ (by decide)).trans (f0 e)), (fun e => (eval_put_other' _ _ (by decide)).trans (f1 e)), (fun e => (eval_put_other' _ _ (by decide)).trans (f2 e)), (fun _ => eval_put_same' _ _ _ (by rw [so.size]; show (32 : Nat) < _; omega)), (fun e => (eval_put_other' _ _ (by decide)).trans (f4 e)), (fun e => (eval_put_other' _ _ (by decide)).trans (f5 e)), (fun e => (eval_put_other' _ _ (by decide)).trans (f6 e)), (fun e => (eval_put_other' _ _ (by decide)).trans (f7 e)), (fun e => (eval_put_other' _ _ (by decide)).trans (f8 e)), (fun e => (eval_put_other' _ _ (by decide)).trans (f9 e)), (fun e => (eval_put_other' _ _ (by decide)).trans (f10 e)), (fun e => (eval_put_other' _ _ (by decide)).trans (f13 e)), d5_4, d6_4, d7_4, d11_4, d12_4, d11_9, d12_10⟩
    · have ws := o4.waits ho hwait
      have w1 := ws 1 (by simp)
      have w3 := ws 3 (by simp)
      have hb8 : l 11 = false := by cases hx : l 11 with | false => rfl | true => have := d11_4 hx; rw [hl] at this; cases this
      have hb9 : l 12 = false := by cases hx : l 12 with | false => rfl | true => have := d12_4 hx; rw [hl] at this; cases this
      have hc := swap_fresh D.i D.j w (wd.wi w1 hl).2 (wd.wj w3 hl).2
      rw [(wd.wi w1 hl).1, (wd.wj w3 hl).1, hsw] at hc
      refine o4.call2 (enters_of Try.func12 (by kernel_rfl) rfl) (f1 w1) (f3 w3) hc ?_
      rintro e w' ⟨c, d, rfl, hc1, hd1, oc, od, fc, fd, hl'⟩
      have wd1 := wd.swap' hl hb8 hb9 hl' hc1 hd1 oc od fc fd
      exact ⟨_, rfl, { D with c := c, d := d }, (so.put (by decide) _), wd1, (fun e => (eval_put_other' _ _ (by decide)).trans (f0 e)), (fun e => (eval_put_other' _ _ (by decide)).trans (f1 e)), (fun e => (eval_put_other' _ _ (by decide)).trans (f2 e)), (fun e => (eval_put_other' _ _ (by decide)).trans (f3 e)), (fun _ => eval_put_same' _ _ _ (by rw [so.size]; show (33 : Nat) < _; omega)), (fun e => by have := d5_4 e; rw [hl] at this; cases this), (fun e => by have := d6_4 e; rw [hl] at this; cases this), (fun e => by have := d7_4 e; rw [hl] at this; cases this), (fun e => (eval_put_other' _ _ (by decide)).trans (f8 e)), (fun e => (eval_put_other' _ _ (by decide)).trans (f9 e)), (fun e => (eval_put_other' _ _ (by decide)).trans (f10 e)), (fun e => (eval_put_other' _ _ (by decide)).trans (f13 e)), (fun _ => rfl), (fun _ => rfl), (fun _ => rfl), (fun _ => rfl), (fun _ => rfl), d11_9, d12_10⟩
    · have ws := o5.waits ho hwait
      have w4 := ws 4 (by simp)
      refine o5.move ?_
      rw [f4 w4]
      exact ⟨D, (so.put (by decide) _), wd, (fun e => (eval_put_other' _ _ (by decide)).trans (f0 e)), (fun e => (eval_put_other' _ _ (by decide)).trans (f1 e)), (fun e => (eval_put_other' _ _ (by decide)).trans (f2 e)), (fun e => (eval_put_other' _ _ (by decide)).trans (f3 e)), (fun e => (eval_put_other' _ _ (by decide)).trans (f4 e)), (fun _ => eval_put_same' _ _ _ (by rw [so.size]; show (28 : Nat) < _; omega)), (fun e => (eval_put_other' _ _ (by decide)).trans (f6 e)), (fun e => (eval_put_other' _ _ (by decide)).trans (f7 e)), (fun e => (eval_put_other' _ _ (by decide)).trans (f8 e)), (fun e => (eval_put_other' _ _ (by decide)).trans (f9 e)), (fun e => (eval_put_other' _ _ (by decide)).trans (f10 e)), (fun e => (eval_put_other' _ _ (by decide)).trans (f13 e)), (fun _ => w4), d6_4, d7_4, d11_4, d12_4, d11_9, d12_10⟩
    · have ws := o6.waits ho hwait
      have w5 := ws 5 (by simp)
      have w4 := d5_4 w5
      refine o6.extract (f5 w5) rfl ?_
      exact ⟨D, (so.put (by decide) _), wd, (fun e => (eval_put_other' _ _ (by decide)).trans (f0 e)), (fun e => (eval_put_other' _ _ (by decide)).trans (f1 e)), (fun e => (eval_put_other' _ _ (by decide)).trans (f2 e)), (fun e => (eval_put_other' _ _ (by decide)).trans (f3 e)), (fun e => (eval_put_other' _ _ (by decide)).trans (f4 e)), (fun e => (eval_put_other' _ _ (by decide)).trans (f5 e)), (fun _ => eval_put_same' _ _ _ (by rw [so.size]; show (34 : Nat) < _; omega)), (fun e => (eval_put_other' _ _ (by decide)).trans (f7 e)), (fun e => (eval_put_other' _ _ (by decide)).trans (f8 e)), (fun e => (eval_put_other' _ _ (by decide)).trans (f9 e)), (fun e => (eval_put_other' _ _ (by decide)).trans (f10 e)), (fun e => (eval_put_other' _ _ (by decide)).trans (f13 e)), d5_4, (fun _ => w4), d7_4, d11_4, d12_4, d11_9, d12_10⟩
    · have ws := o7.waits ho hwait
      have w5 := ws 5 (by simp)
      have w4 := d5_4 w5
      refine o7.extract (f5 w5) rfl ?_
      exact ⟨D, (so.put (by decide) _), wd, (fun e => (eval_put_other' _ _ (by decide)).trans (f0 e)), (fun e => (eval_put_other' _ _ (by decide)).trans (f1 e)), (fun e => (eval_put_other' _ _ (by decide)).trans (f2 e)), (fun e => (eval_put_other' _ _ (by decide)).trans (f3 e)), (fun e => (eval_put_other' _ _ (by decide)).trans (f4 e)), (fun e => (eval_put_other' _ _ (by decide)).trans (f5 e)), (fun e => (eval_put_other' _ _ (by decide)).trans (f6 e)), (fun _ => eval_put_same' _ _ _ (by rw [so.size]; show (35 : Nat) < _; omega)), (fun e => (eval_put_other' _ _ (by decide)).trans (f8 e)), (fun e => (eval_put_other' _ _ (by decide)).trans (f9 e)), (fun e => (eval_put_other' _ _ (by decide)).trans (f10 e)), (fun e => (eval_put_other' _ _ (by decide)).trans (f13 e)), d5_4, d6_4, (fun _ => w4), d11_4, d12_4, d11_9, d12_10⟩
    · have ws := o8.waits ho hwait
      have w5 := ws 5 (by simp)
      have w4 := d5_4 w5
      refine o8.extract (f5 w5) rfl ?_
      exact ⟨D, (so.put (by decide) _), wd, (fun e => (eval_put_other' _ _ (by decide)).trans (f0 e)), (fun e => (eval_put_other' _ _ (by decide)).trans (f1 e)), (fun e => (eval_put_other' _ _ (by decide)).trans (f2 e)), (fun e => (eval_put_other' _ _ (by decide)).trans (f3 e)), (fun e => (eval_put_other' _ _ (by decide)).trans (f4 e)), (fun e => (eval_put_other' _ _ (by decide)).trans (f5 e)), (fun e => (eval_put_other' _ _ (by decide)).trans (f6 e)), (fun e => (eval_put_other' _ _ (by decide)).trans (f7 e)), (fun _ => eval_put_same' _ _ _ (by rw [so.size]; show (36 : Nat) < _; omega)), (fun e => (eval_put_other' _ _ (by decide)).trans (f9 e)), (fun e => (eval_put_other' _ _ (by decide)).trans (f10 e)), (fun e => (eval_put_other' _ _ (by decide)).trans (f13 e)), d5_4, d6_4, d7_4, d11_4, d12_4, d11_9, d12_10⟩
    · have hb : l 11 = false := by cases hx : l 11 with | false => rfl | true => have := d11_9 hx; rw [hl] at this; cases this
      have wd1 := wd.alloc8' hl hb
      refine o9.alloc ?_
      exact ⟨{ D with g8 := w.heap.size }, (so.put (by decide) _), wd1, (fun e => (eval_put_other' _ _ (by decide)).trans (f0 e)), (fun e => (eval_put_other' _ _ (by decide)).trans (f1 e)), (fun e => (eval_put_other' _ _ (by decide)).trans (f2 e)), (fun e => (eval_put_other' _ _ (by decide)).trans (f3 e)), (fun e => (eval_put_other' _ _ (by decide)).trans (f4 e)), (fun e => (eval_put_other' _ _ (by decide)).trans (f5 e)), (fun e => (eval_put_other' _ _ (by decide)).trans (f6 e)), (fun e => (eval_put_other' _ _ (by decide)).trans (f7 e)), (fun e => (eval_put_other' _ _ (by decide)).trans (f8 e)), (fun _ => eval_put_same' _ _ _ (by rw [so.size]; show (10 : Nat) < _; omega)), (fun e => (eval_put_other' _ _ (by decide)).trans (f10 e)), (fun e => (eval_put_other' _ _ (by decide)).trans (f13 e)), d5_4, d6_4, d7_4, d11_4, d12_4, (fun _ => rfl), d12_10⟩
    · have hb : l 12 = false := by cases hx : l 12 with | false => rfl | true => have := d12_10 hx; rw [hl] at this; cases this
      have wd1 := wd.alloc9' hl hb
      refine o10.alloc ?_
      exact ⟨{ D with g9 := w.heap.size }, (so.put (by decide) _), wd1, (fun e => (eval_put_other' _ _ (by decide)).trans (f0 e)), (fun e => (eval_put_other' _ _ (by decide)).trans (f1 e)), (fun e => (eval_put_other' _ _ (by decide)).trans (f2 e)), (fun e => (eval_put_other' _ _ (by decide)).trans (f3 e)), (fun e => (eval_put_other' _ _ (by decide)).trans (f4 e)), (fun e => (eval_put_other' _ _ (by decide)).trans (f5 e)), (fun e => (eval_put_other' _ _ (by decide)).trans (f6 e)), (fun e => (eval_put_other' _ _ (by decide)).trans (f7 e)), (fun e => (eval_put_other' _ _ (by decide)).trans (f8 e)), (fun e => (eval_put_other' _ _ (by decide)).trans (f9 e)), (fun _ => eval_put_same' _ _ _ (by rw [so.size]; show (11 : Nat) < _; omega)), (fun e => (eval_put_other' _ _ (by decide)).trans (f13 e)), d5_4, d6_4, d7_4, d11_4, d12_4, d11_9, (fun _ => rfl)⟩
    · have ws := o11.waits ho hwait
      have w9 := ws 9 (by simp)
      have w6 := ws 6 (by simp)
      have w4 := ws 4 (by simp)
      have w10 := ws 10 (by simp)
      obtain ⟨_, cs, hcs, hbx, _⟩ := wd.w8 w9
      refine o11.store (f9 w9) (f6 w6) hbx hcs ?_
      intro w' hb' ht'
      have wd1 := wd.st8' w4 w9 w10 hb' ht'
      exact ⟨D, so, wd1, f0, f1, f2, f3, f4, f5, f6, f7, f8, f9, f10, f13, d5_4, d6_4, d7_4, (fun _ => w4), d12_4, (fun _ => w9), d12_10⟩
    · have ws := o12.waits ho hwait
      have w10 := ws 10 (by simp)
      have w7 := ws 7 (by simp)
      have w4 := ws 4 (by simp)
      have w9 := ws 9 (by simp)
      obtain ⟨_, cs, hcs, hbx, _⟩ := wd.w9 w10
      refine o12.store (f10 w10) (f7 w7) hbx hcs ?_
      intro w' hb' ht'
      have wd1 := wd.st9' w4 w9 w10 hb' ht'
      exact ⟨D, so, wd1, f0, f1, f2, f3, f4, f5, f6, f7, f8, f9, f10, f13, d5_4, d6_4, d7_4, d11_4, (fun _ => w4), d11_9, (fun _ => w10)⟩
    · have ws := o13.waits ho hwait
      have w8 := ws 8 (by simp)
      refine o13.assign ?_
      rw [f8 w8]
      exact ⟨D, (so.put (by decide) _), wd, (fun e => (eval_put_other' _ _ (by decide)).trans (f0 e)), (fun e => (eval_put_other' _ _ (by decide)).trans (f1 e)), (fun e => (eval_put_other' _ _ (by decide)).trans (f2 e)), (fun e => (eval_put_other' _ _ (by decide)).trans (f3 e)), (fun e => (eval_put_other' _ _ (by decide)).trans (f4 e)), (fun e => (eval_put_other' _ _ (by decide)).trans (f5 e)), (fun e => (eval_put_other' _ _ (by decide)).trans (f6 e)), (fun e => (eval_put_other' _ _ (by decide)).trans (f7 e)), (fun e => (eval_put_other' _ _ (by decide)).trans (f8 e)), (fun e => (eval_put_other' _ _ (by decide)).trans (f9 e)), (fun e => (eval_put_other' _ _ (by decide)).trans (f10 e)), (fun _ => eval_put_same' _ _ _ (by rw [so.size]; show (12 : Nat) < _; omega)), d5_4, d6_4, d7_4, d11_4, d12_4, d11_9, d12_10⟩
  · intro l a w hall ⟨D, so, wd, f0, f1, f2, f3, f4, f5, f6, f7, f8, f9, f10, f13, d5_4, d6_4, d7_4, d11_4, d12_4, d11_9, d12_10⟩
    rw [hn] at hall
    rw [hall 1 (by decide), hall 3 (by decide), hall 4 (by decide), hall 9 (by decide), hall 10 (by decide), hall 11 (by decide), hall 12 (by decide)] at wd
    exact hend D a w so (f9 (hall 9 (by decide))) (f10 (hall 10 (by decide))) (f13 (hall 13 (by decide))) wd
  · exact ⟨⟨x, x, x, x, 0, 0⟩, SameOut.refl _ _, Wd.start _ ((Later.refl wx).drew), (fun e => by cases e), (fun e => by cases e), (fun e => by cases e), (fun e => by cases e), (fun e => by cases e), (fun e => by cases e), (fun e => by cases e), (fun e => by cases e), (fun e => by cases e), (fun e => by cases e), (fun e => by cases e), (fun e => by cases e), (fun e => by cases e), (fun e => by cases e), (fun e => by cases e), (fun e => by cases e), (fun e => by cases e), (fun e => by cases e), (fun e => by cases e)⟩

end Go.Proofs.Ytalgapoigkbiaaa

/-
  A row of two prims, written out.
-/
namespace Go.Proofs.Ytalgapoigkbiaaa
open Go.RowKit Go.Maps

theorem prims_two {w w0 : World} {x y : PrC} (hx : CameP w x) (hy : CameP w y) (hl : Later w w0) (t : TypeId) : Prims (w0.alloc (.cells #[.int .i64 x.v.kind, .string x.v.name, .string x.v.to, .int .i64 x.v.place, .slice x.A x.n x.c, .slice x.B x.m x.d, .int .i64 y.v.kind, .string y.v.name, .string y.v.to, .int .i64 y.v.place, .slice y.A y.n y.c, .slice y.B y.m y.d] t)) (some ⟨w0.heap.size, 0, none⟩) 2 [x, y] := by
  refine ⟨⟨rfl, fun cs hcs => ?_, fun _ => ⟨_, _, rfl, fun j i cs v hj hi => ?_⟩⟩, fun z hz => ?_⟩
  · simp at hcs
    rcases hcs with rfl | rfl <;> rfl
  · have hb : (w0.alloc (.cells #[.int .i64 x.v.kind, .string x.v.name, .string x.v.to, .int .i64 x.v.place, .slice x.A x.n x.c, .slice x.B x.m x.d, .int .i64 y.v.kind, .string y.v.name, .string y.v.to, .int .i64 y.v.place, .slice y.A y.n y.c, .slice y.B y.m y.d] t)).heap[w0.heap.size]? = some (.cells #[.int .i64 x.v.kind, .string x.v.name, .string x.v.to, .int .i64 x.v.place, .slice x.A x.n x.c, .slice x.B x.m x.d, .int .i64 y.v.kind, .string y.v.name, .string y.v.to, .int .i64 y.v.place, .slice y.A y.n y.c, .slice y.B y.m y.d] t (0, 0)) := heap_alloc_new w0 _
    have key : ∀ (k : Nat) v, (prL x ++ prL y)[k]? = some v → (w0.alloc (.cells #[.int .i64 x.v.kind, .string x.v.name, .string x.v.to, .int .i64 x.v.place, .slice x.A x.n x.c, .slice x.B x.m x.d, .int .i64 y.v.kind, .string y.v.name, .string y.v.to, .int .i64 y.v.place, .slice y.A y.n y.c, .slice y.B y.m y.d] t)).cell? ⟨w0.heap.size, k, none⟩ = some v := fun k v hk => by
      simp only [World.cell?, hb]
      show (prL x ++ prL y).toArray[k]? = some v
      rw [List.getElem?_toArray]
      exact hk
    match j, hj with
    | 0, hj =>
      simp at hj; subst hj
      have hil : i < (prL x).length := (List.getElem?_eq_some_iff.1 hi).1
      rw [Nat.zero_mul, Nat.zero_add]
      exact key i v (by rw [List.getElem?_append_left hil]; exact hi)
    | 1, hj =>
      simp at hj; subst hj
      rw [Nat.one_mul, Nat.zero_add]
      exact key (6 + i) v (by rw [List.getElem?_append_right (by show 6 ≤ 6 + i; omega), show 6 + i - (prL x).length = i from by show 6 + i - 6 = i; omega]; exact hi)
  · simp at hz
    rcases hz with rfl | rfl
    · exact hx.later (hl.alloc _)
    · exact hy.later (hl.alloc _)
theorem weightPs_two (x y : PrC) : weightPs [x, y] = weightP x.v + weightP y.v := by simp [weightPs]

end Go.Proofs.Ytalgapoigkbiaaa
