import Derived.Test.YtnhhdjcbifmfgaaPk10
import Derived.Test.YtnhhdjcbifmfgaaPk3
import Derived.OpenShut
import Derived.Test.YtnhhdjcbifmfgaaPk5

/-
  A statement that swaps two places of an array of three prims, and keeps both: in whatever order its operations come.
-/
namespace Go.Proofs.Ytnhhdjcbifmfgaa
open Go.RowKit Go.Maps

/-- The cells of three prims. -/
def prL3 (x y z : PrC) : List Value := prL x ++ (prL y ++ prL z)
section
variable {ops : Array Oper} {Q : Exit → Act → World → Prop} {K : Act → World → Prop} {i : Nat} {dst : Option Tmp} {js : List Nat} {a : Act} {w : World}
theorem OpIs.index3 {j k : Tmp} {g m : Nat} (h : OpIs ops i (.indexAddr 29 (.tmp j) (.tmp k)) dst js) (hj : a.eval (.tmp j) = .pointer (some ⟨g, 0, none⟩)) (hk' : a.eval (.tmp k) = .int .i64 (m : Nat)) (hm : m < 3) (hk : K (a.put dst (.pointer (some ⟨g, m * 6, none⟩))) w) : wpOp Try.prog ops Q i K a w :=
  h.go fun op h1 h2 => by
    have hr : (execOp a.eval op).run Try.prog w = .ok (.value (.pointer (some ⟨g, m * 6, none⟩))) w := by
      unfold execOp
      rw [h1]
      dsimp only
      rw [hj, hk']
      have hm3 : m = 0 ∨ m = 1 ∨ m = 2 := by omega
      rcases hm3 with rfl | rfl | rfl <;> go_simp
    unfold Oper.wp
    rw [hr]
    show K _ _
    rw [h2]
    exact hk
theorem OpIs.add1 {k : Tmp} {m : Nat} (h : OpIs ops i (.binOp .add 3 (.tmp k) (.const (.int .i64 1)) 3) dst js) (he : a.eval (.tmp k) = .int .i64 (m : Nat)) (hm : m < 3) (hk : K (a.put dst (.int .i64 (m + 1 : Nat))) w) : wpOp Try.prog ops Q i K a w :=
  h.go fun op h1 h2 => by
    have hr : (execOp a.eval op).run Try.prog w = .ok (.value (.int .i64 (m + 1 : Nat))) w := by
      unfold execOp
      rw [h1]
      dsimp only
      rw [he]
      have hm3 : m = 0 ∨ m = 1 ∨ m = 2 := by omega
      rcases hm3 with rfl | rfl | rfl <;> (go_simp; rfl)
    unfold Oper.wp
    rw [hr]
    show K _ _
    rw [h2]
    exact hk
/-- A prim of the array is read. -/
theorem OpIs.load3 {k : Tmp} {g m : Nat} {x : PrC} {cs : Array Value} {t : TypeId} (h : OpIs ops i (.load 28 (.tmp k)) dst js) (he : a.eval (.tmp k) = .pointer (some ⟨g, m * 6, none⟩)) (hb : BoxAt w g cs t) (hx : ∀ j u, (prL x)[j]? = some u → cs[m * 6 + j]? = some u) (hk : K (a.put dst (prV x)) w) : wpOp Try.prog ops Q i K a w :=
  h.go fun op h1 h2 => by
    have g0 : w.cell? ⟨g, m * 6, none⟩ = some (.int .i64 x.v.kind) := hb.cell (hx 0 _ rfl)
    have g1 : w.cell? ⟨g, m * 6 + 1, none⟩ = some (.string x.v.name) := hb.cell (hx 1 _ rfl)
    have g2 : w.cell? ⟨g, m * 6 + 2, none⟩ = some (.string x.v.to) := hb.cell (hx 2 _ rfl)
    have g3 : w.cell? ⟨g, m * 6 + 3, none⟩ = some (.int .i64 x.v.place) := hb.cell (hx 3 _ rfl)
    have g4 : w.cell? ⟨g, m * 6 + 4, none⟩ = some (.slice x.A x.n x.c) := hb.cell (hx 4 _ rfl)
    have g5 : w.cell? ⟨g, m * 6 + 5, none⟩ = some (.slice x.B x.m x.d) := hb.cell (hx 5 _ rfl)
    have hrun : (execOp a.eval op).run Try.prog w = .ok (.value (prV x)) w := by
      clear hb hk hx
      unfold prV execOp
      rw [h1]
      dsimp only
      rw [he]
      go_simp
    unfold Oper.wp
    rw [hrun]
    show K _ _
    rw [h2]
    exact hk
end

set_option maxHeartbeats 1600000 in
theorem sw3_region {ops : Array Oper} (hn : ops.size = 17) (hg : goesBack ops = true)
    (o0 : OpIs ops 0 (.move (.tmp 8)) (some 20) [])
    (o1 : OpIs ops 1 (.indexAddr 29 (.tmp 2) (.tmp 20)) (some 21) [0])
    (o2 : OpIs ops 2 (.load 28 (.tmp 21)) (some 22) [1])
    (o3 : OpIs ops 3 (.move (.tmp 8)) (some 23) [])
    (o4 : OpIs ops 4 (.binOp .add 3 (.tmp 23) (.const (.int .i64 1)) 3) (some 24) [3])
    (o5 : OpIs ops 5 (.indexAddr 29 (.tmp 2) (.tmp 24)) (some 25) [4])
    (o6 : OpIs ops 6 (.load 28 (.tmp 25)) (some 26) [5])
    (o7 : OpIs ops 7 (.call { callee := .value (.func 9), args := #[.tmp 22, .tmp 26], argTypes := #[28, 28] }) (some 27) [2, 6])
    (o8 : OpIs ops 8 (.move (.tmp 27)) (some 19) [7])
    (o9 : OpIs ops 9 (.extract (.tmp 19) 0) (some 28) [8])
    (o10 : OpIs ops 10 (.extract (.tmp 19) 1) (some 29) [8])
    (o11 : OpIs ops 11 (.extract (.tmp 19) 2) (some 30) [8])
    (o12 : OpIs ops 12 (.alloc 28) (some 9) [])
    (o13 : OpIs ops 13 (.alloc 28) (some 10) [])
    (o14 : OpIs ops 14 (.store 28 (.tmp 9) (.tmp 28)) none [12, 9, 7, 13])
    (o15 : OpIs ops 15 (.store 28 (.tmp 10) (.tmp 29)) none [13, 10, 7, 12])
    (o16 : OpIs ops 16 (.assign (.tmp 30)) (some 11) [11])
    {a1 : Act} (hs : 43 ≤ a1.tmps.size) {wx : World} {x y : PrC} {g2 g4 k : Nat} {cs : Array Value} (hg4 : g4 < wx.heap.size) (hk : k < 2) (e2 : a1.eval (.tmp 2) = .pointer (some ⟨g2, 0, none⟩)) (e8 : a1.eval (.tmp 8) = .int .i64 (k : Nat)) (hb : BoxAt wx g2 cs 29) (hcx : ∀ j u, (prL x)[j]? = some u → cs[k * 6 + j]? = some u) (hcy : ∀ j u, (prL y)[j]? = some u → cs[(k + 1) * 6 + j]? = some u) (ox : PrOk wx x) (oy : PrOk wx y) {r s : Pr} {t : Bool} (hsw : swapR (swapP x.v y.v) = (r, s, t))
    {Q : Exit → Act → World → Prop} {id : Nat} (hend : ∀ (D : Dat) (a : Act) (w : World), SameOut a1 a [20, 21, 22, 23, 24, 25, 26, 27, 19, 28, 29, 30, 9, 10, 11] → a.eval (.tmp 9) = .pointer (some ⟨D.g8, 0, none⟩) → a.eval (.tmp 10) = .pointer (some ⟨D.g9, 0, none⟩) → a.eval (.tmp 11) = .bool t → ((Away g2 D.c ∧ Away g4 D.c) ∧ Away g2 D.d ∧ Away g4 D.d) → Wd wx zeroPr zeroPr r s false false true true true true true D w → Q .normal a w) :
    (Code.region id ops true).wp Try.prog Q a1 wx := by
  have hg2 := hb.lt
  refine region_inv (by kernel_rfl) hg (fun l a w => ∃ D : Dat, SameOut a1 a [20, 21, 22, 23, 24, 25, 26, 27, 19, 28, 29, 30, 9, 10, 11] ∧ Wd wx zeroPr zeroPr r s false false (l 7) (l 12) (l 13) (l 14) (l 15) D w ∧ (l 7 = true → (Away g2 D.c ∧ Away g4 D.c) ∧ Away g2 D.d ∧ Away g4 D.d) ∧ (l 0 = true → a.eval (.tmp 20) = .int .i64 (k : Nat)) ∧ (l 1 = true → a.eval (.tmp 21) = .pointer (some ⟨g2, k * 6, none⟩)) ∧ (l 2 = true → a.eval (.tmp 22) = prV x) ∧ (l 3 = true → a.eval (.tmp 23) = .int .i64 (k : Nat)) ∧ (l 4 = true → a.eval (.tmp 24) = .int .i64 (k + 1 : Nat)) ∧ (l 5 = true → a.eval (.tmp 25) = .pointer (some ⟨g2, (k + 1) * 6, none⟩)) ∧ (l 6 = true → a.eval (.tmp 26) = prV y) ∧ (l 7 = true → a.eval (.tmp 27) = .tuple #[prV D.c, prV D.d, .bool t]) ∧ (l 8 = true → a.eval (.tmp 19) = .tuple #[prV D.c, prV D.d, .bool t]) ∧ (l 9 = true → a.eval (.tmp 28) = prV D.c) ∧ (l 10 = true → a.eval (.tmp 29) = prV D.d) ∧ (l 11 = true → a.eval (.tmp 30) = .bool t) ∧ (l 12 = true → a.eval (.tmp 9) = .pointer (some ⟨D.g8, 0, none⟩)) ∧ (l 13 = true → a.eval (.tmp 10) = .pointer (some ⟨D.g9, 0, none⟩)) ∧ (l 16 = true → a.eval (.tmp 11) = .bool t) ∧ (l 8 = true → l 7 = true) ∧ (l 9 = true → l 7 = true) ∧ (l 10 = true → l 7 = true) ∧ (l 14 = true → l 7 = true) ∧ (l 15 = true → l 7 = true) ∧ (l 14 = true → l 12 = true) ∧ (l 15 = true → l 13 = true)) ?_ ?_ ?_
  · intro l a w i o ho hl hwait ⟨D, so, wd, aw, f0, f1, f2, f3, f4, f5, f6, f7, f8, f9, f10, f11, f12, f13, f16, d8_7, d9_7, d10_7, d14_7, d15_7, d14_12, d15_13⟩
    have hi : i < 17 := by rw [← hn]; exact (Array.getElem?_eq_some_iff.1 ho).1
    have hc : i = 0 ∨ i = 1 ∨ i = 2 ∨ i = 3 ∨ i = 4 ∨ i = 5 ∨ i = 6 ∨ i = 7 ∨ i = 8 ∨ i = 9 ∨ i = 10 ∨ i = 11 ∨ i = 12 ∨ i = 13 ∨ i = 14 ∨ i = 15 ∨ i = 16 := by omega
    rcases hc with rfl | rfl | rfl | rfl | rfl | rfl | rfl | rfl | rfl | rfl | rfl | rfl | rfl | rfl | rfl | rfl | rfl
    · have ev : a.eval (.tmp 8) = .int .i64 (k : Nat) := ((show _ = a1.eval _ from by simp only [Act.eval, Array.getD_eq_getD_getElem?, so.out 8 (by decide)]).trans e8)
      refine o0.move ?_
      rw [ev]
      exact ⟨D, (so.put (by decide) _), wd, aw, (fun _ => eval_put_same' _ _ _ (by rw [so.size]; show (20 : Nat) < _; omega)), (fun e => (eval_put_other' _ _ (by decide)).trans (f1 e)), (fun e => (eval_put_other' _ _ (by decide)).trans (f2 e)), (fun e => (eval_put_other' _ _ (by decide)).trans (f3 e)), (fun e => (eval_put_other' _ _ (by decide)).trans (f4 e)), (fun e => (eval_put_other' _ _ (by decide)).trans (f5 e)), (fun e => (eval_put_other' _ _ (by decide)).trans (f6 e)), (fun e => (eval_put_other' _ _ (by decide)).trans (f7 e)), (fun e => (eval_put_other' _ _ (by decide)).trans (f8 e)), (fun e => (eval_put_other' _ _ (by decide)).trans (f9 e)), (fun e => (eval_put_other' _ _ (by decide)).trans (f10 e)), (fun e => (eval_put_other' _ _ (by decide)).trans (f11 e)), (fun e => (eval_put_other' _ _ (by decide)).trans (f12 e)), (fun e => (eval_put_other' _ _ (by decide)).trans (f13 e)), (fun e => (eval_put_other' _ _ (by decide)).trans (f16 e)), d8_7, d9_7, d10_7, d14_7, d15_7, d14_12, d15_13⟩
    · have ws := o1.waits ho hwait
      have w0 := ws 0 (by simp)
      refine o1.index3 ((show _ = a1.eval _ from by simp only [Act.eval, Array.getD_eq_getD_getElem?, so.out 2 (by decide)]).trans e2) (f0 w0) (by omega) ?_
      exact ⟨D, (so.put (by decide) _), wd, aw, (fun e => (eval_put_other' _ _ (by decide)).trans (f0 e)), (fun _ => eval_put_same' _ _ _ (by rw [so.size]; show (21 : Nat) < _; omega)), (fun e => (eval_put_other' _ _ (by decide)).trans (f2 e)), (fun e => (eval_put_other' _ _ (by decide)).trans (f3 e)), (fun e => (eval_put_other' _ _ (by decide)).trans (f4 e)), (fun e => (eval_put_other' _ _ (by decide)).trans (f5 e)), (fun e => (eval_put_other' _ _ (by decide)).trans (f6 e)), (fun e => (eval_put_other' _ _ (by decide)).trans (f7 e)), (fun e => (eval_put_other' _ _ (by decide)).trans (f8 e)), (fun e => (eval_put_other' _ _ (by decide)).trans (f9 e)), (fun e => (eval_put_other' _ _ (by decide)).trans (f10 e)), (fun e => (eval_put_other' _ _ (by decide)).trans (f11 e)), (fun e => (eval_put_other' _ _ (by decide)).trans (f12 e)), (fun e => (eval_put_other' _ _ (by decide)).trans (f13 e)), (fun e => (eval_put_other' _ _ (by decide)).trans (f16 e)), d8_7, d9_7, d10_7, d14_7, d15_7, d14_12, d15_13⟩
    · have ws := o2.waits ho hwait
      have w1 := ws 1 (by simp)
      refine o2.load3 (f1 w1) (hb.later wd.later) hcx ?_
      exact ⟨D, (so.put (by decide) _), wd, aw, (fun e => (eval_put_other' _ _ (by decide)).trans (f0 e)), (fun e => (eval_put_other' _ _ (by decide)).trans (f1 e)), (fun _ => eval_put_same' _ _ _ (by rw [so.size]; show (22 : Nat) < _; omega)), (fun e => (eval_put_other' _ _ (by decide)).trans (f3 e)), (fun e => (eval_put_other' _ _ (by decide)).trans (f4 e)), (fun e => (eval_put_other' _ _ (by decide)).trans (f5 e)), (fun e => (eval_put_other' _ _ (by decide)).trans (f6 e)), (fun e => (eval_put_other' _ _ (by decide)).trans (f7 e)), (fun e => (eval_put_other' _ _ (by decide)).trans (f8 e)), (fun e => (eval_put_other' _ _ (by decide)).trans (f9 e)), (fun e => (eval_put_other' _ _ (by decide)).trans (f10 e)), (fun e => (eval_put_other' _ _ (by decide)).trans (f11 e)), (fun e => (eval_put_other' _ _ (by decide)).trans (f12 e)), (fun e => (eval_put_other' _ _ (by decide)).trans (f13 e)), (fun e => (eval_put_other' _ _ (by decide)).trans (f16 e)), d8_7, d9_7, d10_7, d14_7, d15_7, d14_12, d15_13⟩
    · have ev : a.eval (.tmp 8) = .int .i64 (k : Nat) := ((show _ = a1.eval _ from by simp only [Act.eval, Array.getD_eq_getD_getElem?, so.out 8 (by decide)]).trans e8)
      refine o3.move ?_
      rw [ev]
      exact ⟨D, (so.put (by decide) _), wd, aw, (fun e => (eval_put_other' _ _ (by decide)).trans (f0 e)), (fun e => (eval_put_other' _ _ (by decide)).trans (f1 e)), (fun e => (eval_put_other' _ _ (by decide)).trans (f2 e)), (fun _ => eval_put_same' _ _ _ (by rw [so.size]; show (23 : Nat) < _; omega)), (fun e => (eval_put_other' _ _ (by decide)).trans (f4 e)), (fun e => (eval_put_other' _ _ (by decide)).trans (f5 e)), (fun e => (eval_put_other' _ _ (by decide)).trans (f6 e)), (fun e => (eval_put_other' _ _ (by decide)).trans (f7 e)), (fun e => (eval_put_other' _ _ (by decide)).trans (f8 e)), (fun e => (eval_put_other' _ _ (by decide)).trans (f9 e)), (fun e => (eval_put_other' _ _ (by decide)).trans (f10 e)), (fun e => (eval_put_other' _ _ (by decide)).trans (f11 e)), (fun e => (eval_put_other' _ _ (by decide)).trans (f12 e)), (fun e => (eval_put_other' _ _ (by decide)).trans (f13 e)), (fun e => (eval_put_other' _ _ (by decide)).trans (f16 e)), d8_7, d9_7, d10_7, d14_7, d15_7, d14_12, d15_13⟩
    · have ws := o4.waits ho hwait
      have w3 := ws 3 (by simp)
      refine o4.add1 (f3 w3) (by omega) ?_
      exact ⟨D, (so.put (by decide) _), wd, aw, (fun e => (eval_put_other' _ _ (by decide)).trans (f0 e)), (fun e => (eval_put_other' _ _ (by decide)).trans (f1 e)), (fun e => (eval_put_other' _ _ (by decide)).trans (f2 e)), (fun e => (eval_put_other' _ _ (by decide)).trans (f3 e)), (fun _ => eval_put_same' _ _ _ (by rw [so.size]; show (24 : Nat) < _; omega)), (fun e => (eval_put_other' _ _ (by decide)).trans (f5 e)), (fun e => (eval_put_other' _ _ (by decide)).trans (f6 e)), (fun e => (eval_put_other' _ _ (by decide)).trans (f7 e)), (fun e => (eval_put_other' _ _ (by decide)).trans (f8 e)), (fun e => (eval_put_other' _ _ (by decide)).trans (f9 e)), (fun e => (eval_put_other' _ _ (by decide)).trans (f10 e)), (fun e => (eval_put_other' _ _ (by decide)).trans (f11 e)), (fun e => (eval_put_other' _ _ (by decide)).trans (f12 e)), (fun e => (eval_put_other' _ _ (by decide)).trans (f13 e)), (fun e => (eval_put_other' _ _ (by decide)).trans (f16 e)), d8_7, d9_7, d10_7, d14_7, d15_7, d14_12, d15_13⟩
    · have ws := o5.waits ho hwait
      have w4 := ws 4 (by simp)
      refine o5.index3 ((show _ = a1.eval _ from by simp only [Act.eval, Array.getD_eq_getD_getElem?, so.out 2 (by decide)]).trans e2) (f4 w4) (by omega) ?_
      exact ⟨D, (so.put (by decide) _), wd, aw, (fun e => (eval_put_other' _ _ (by decide)).trans (f0 e)), (fun e => (eval_put_other' _ _ (by decide)).trans (f1 e)), (fun e => (eval_put_other' _ _ (by decide)).trans (f2 e)), (fun e => (eval_put_other' _ _ (by decide)).trans (f3 e)), (fun e => (eval_put_other' _ _ (by decide)).trans (f4 e)), (fun _ => eval_put_same' _ _ _ (by rw [so.size]; show (25 : Nat) < _; omega)), (fun e => (eval_put_other' _ _ (by decide)).trans (f6 e)), (fun e => (eval_put_other' _ _ (by decide)).trans (f7 e)), (fun e => (eval_put_other' _ _ (by decide)).trans (f8 e)), (fun e => (eval_put_other' _ _ (by decide)).trans (f9 e)), (fun e => (eval_put_other' _ _ (by decide)).trans (f10 e)), (fun e => (eval_put_other' _ _ (by decide)).trans (f11 e)), (fun e => (eval_put_other' _ _ (by decide)).trans (f12 e)), (fun e => (eval_put_other' _ _ (by decide)).trans (f13 e)), (fun e => (eval_put_other' _ _ (by decide)).trans (f16 e)), d8_7, d9_7, d10_7, d14_7, d15_7, d14_12, d15_13⟩
    · have ws := o6.waits ho hwait
      have w5 := ws 5 (by simp)
      refine o6.load3 (f5 w5) (hb.later wd.later) hcy ?_
      exact ⟨D, (so.put (by decide) _), wd, aw, (fun e => (eval_put_other' _ _ (by decide)).trans (f0 e)), (fun e => (eval_put_other' _ _ (by decide)).trans (f1 e)), (fun e => (eval_put_other' _ _ (by decide)).trans (f2 e)), (fun e => (eval_put_other' _ _ (by decide)).trans (f3 e)), (fun e => (eval_put_other' _ _ (by decide)).trans (f4 e)), (fun e => (eval_put_other' _ _ (by decide)).trans (f5 e)), (fun _ => eval_put_same' _ _ _ (by rw [so.size]; show (26 : Nat) < _; omega)), (fun e => (eval_put_other' _ _ (by decide)).trans (f7 e)), (fun e => (eval_put_other' _ _ (by decide)).trans (f8 e)), (fun e => (eval_put_other' _ _ (by decide)).trans (f9 e)), (fun e => (eval_put_other' _ _ (by decide)).trans (f10 e)), (fun e => (eval_put_other' _ _ (by decide)).trans (f11 e)), (fun e => (eval_put_other' _ _ (by decide)).trans (f12 e)), (fun e => (eval_put_other' _ _ (by decide)).trans (f13 e)), (fun e => (eval_put_other' _ _ (by decide)).trans (f16 e)), d8_7, d9_7, d10_7, d14_7, d15_7, d14_12, d15_13⟩
    · have ws := o7.waits ho hwait
      have w2 := ws 2 (by simp)
      have w6 := ws 6 (by simp)
      have hb8 : l 14 = false := by cases hx : l 14 with | false => rfl | true => have := d14_7 hx; rw [hl] at this; cases this
      have hb9 : l 15 = false := by cases hx : l 15 with | false => rfl | true => have := d15_7 hx; rw [hl] at this; cases this
      have hc := swap_fresh x y w (ox.later wd.later) (oy.later wd.later)
      rw [hsw] at hc
      refine o7.call2 (enters_of Try.func9 (by kernel_rfl) rfl) (f2 w2) (f6 w6) hc ?_
      rintro e w' ⟨c, d, rfl, hc1, hd1, oc, od, fc, fd, hl'⟩
      have wd1 := wd.swap' hl hb8 hb9 hl' hc1 hd1 oc od fc fd
      have hgw : g2 < w.heap.size := Nat.lt_of_lt_of_le hg2 wd.later.le
      have hgw4 : g4 < w.heap.size := Nat.lt_of_lt_of_le hg4 wd.later.le
      exact ⟨_, rfl, { D with c := c, d := d }, (so.put (by decide) _), wd1, (fun _ => ⟨⟨fc.away hgw, fc.away hgw4⟩, fd.away hgw, fd.away hgw4⟩), (fun e => (eval_put_other' _ _ (by decide)).trans (f0 e)), (fun e => (eval_put_other' _ _ (by decide)).trans (f1 e)), (fun e => (eval_put_other' _ _ (by decide)).trans (f2 e)), (fun e => (eval_put_other' _ _ (by decide)).trans (f3 e)), (fun e => (eval_put_other' _ _ (by decide)).trans (f4 e)), (fun e => (eval_put_other' _ _ (by decide)).trans (f5 e)), (fun e => (eval_put_other' _ _ (by decide)).trans (f6 e)), (fun _ => eval_put_same' _ _ _ (by rw [so.size]; show (27 : Nat) < _; omega)), (fun e => by have := d8_7 e; rw [hl] at this; cases this), (fun e => by have := d9_7 e; rw [hl] at this; cases this), (fun e => by have := d10_7 e; rw [hl] at this; cases this), (fun e => (eval_put_other' _ _ (by decide)).trans (f11 e)), (fun e => (eval_put_other' _ _ (by decide)).trans (f12 e)), (fun e => (eval_put_other' _ _ (by decide)).trans (f13 e)), (fun e => (eval_put_other' _ _ (by decide)).trans (f16 e)), (fun _ => rfl), (fun _ => rfl), (fun _ => rfl), (fun _ => rfl), (fun _ => rfl), d14_12, d15_13⟩
    · have ws := o8.waits ho hwait
      have w7 := ws 7 (by simp)
      refine o8.move ?_
      rw [f7 w7]
      exact ⟨D, (so.put (by decide) _), wd, aw, (fun e => (eval_put_other' _ _ (by decide)).trans (f0 e)), (fun e => (eval_put_other' _ _ (by decide)).trans (f1 e)), (fun e => (eval_put_other' _ _ (by decide)).trans (f2 e)), (fun e => (eval_put_other' _ _ (by decide)).trans (f3 e)), (fun e => (eval_put_other' _ _ (by decide)).trans (f4 e)), (fun e => (eval_put_other' _ _ (by decide)).trans (f5 e)), (fun e => (eval_put_other' _ _ (by decide)).trans (f6 e)), (fun e => (eval_put_other' _ _ (by decide)).trans (f7 e)), (fun _ => eval_put_same' _ _ _ (by rw [so.size]; show (19 : Nat) < _; omega)), (fun e => (eval_put_other' _ _ (by decide)).trans (f9 e)), (fun e => (eval_put_other' _ _ (by decide)).trans (f10 e)), (fun e => (eval_put_other' _ _ (by decide)).trans (f11 e)), (fun e => (eval_put_other' _ _ (by decide)).trans (f12 e)), (fun e => (eval_put_other' _ _ (by decide)).trans (f13 e)), (fun e => (eval_put_other' _ _ (by decide)).trans (f16 e)), (fun _ => w7), d9_7, d10_7, d14_7, d15_7, d14_12, d15_13⟩
    · have ws := o9.waits ho hwait
      have w8 := ws 8 (by simp)
      have w7 := d8_7 w8
      refine o9.extract (f8 w8) rfl ?_
      exact ⟨D, (so.put (by decide) _), wd, aw, (fun e => (eval_put_other' _ _ (by decide)).trans (f0 e)), (fun e => (eval_put_other' _ _ (by decide)).trans (f1 e)), (fun e => (eval_put_other' _ _ (by decide)).trans (f2 e)), (fun e => (eval_put_other' _ _ (by decide)).trans (f3 e)), (fun e => (eval_put_other' _ _ (by decide)).trans (f4 e)), (fun e => (eval_put_other' _ _ (by decide)).trans (f5 e)), (fun e => (eval_put_other' _ _ (by decide)).trans (f6 e)), (fun e => (eval_put_other' _ _ (by decide)).trans (f7 e)), (fun e => (eval_put_other' _ _ (by decide)).trans (f8 e)), (fun _ => eval_put_same' _ _ _ (by rw [so.size]; show (28 : Nat) < _; omega)), (fun e => (eval_put_other' _ _ (by decide)).trans (f10 e)), (fun e => (eval_put_other' _ _ (by decide)).trans (f11 e)), (fun e => (eval_put_other' _ _ (by decide)).trans (f12 e)), (fun e => (eval_put_other' _ _ (by decide)).trans (f13 e)), (fun e => (eval_put_other' _ _ (by decide)).trans (f16 e)), d8_7, (fun _ => w7), d10_7, d14_7, d15_7, d14_12, d15_13⟩
    · have ws := o10.waits ho hwait
      have w8 := ws 8 (by simp)
      have w7 := d8_7 w8
      refine o10.extract (f8 w8) rfl ?_
      exact ⟨D, (so.put (by decide) _), wd, aw, (fun e => (eval_put_other' _ _ (by decide)).trans (f0 e)), (fun e => (eval_put_other' _ _ (by decide)).trans (f1 e)), (fun e => (eval_put_other' _ _ (by decide)).trans (f2 e)), (fun e => (eval_put_other' _ _ (by decide)).trans (f3 e)), (fun e => (eval_put_other' _ _ (by decide)).trans (f4 e)), (fun e => (eval_put_other' _ _ (by decide)).trans (f5 e)), (fun e => (eval_put_other' _ _ (by decide)).trans (f6 e)), (fun e => (eval_put_other' _ _ (by decide)).trans (f7 e)), (fun e => (eval_put_other' _ _ (by decide)).trans (f8 e)), (fun e => (eval_put_other' _ _ (by decide)).trans (f9 e)), (fun _ => eval_put_same' _ _ _ (by rw [so.size]; show (29 : Nat) < _; omega)), (fun e => (eval_put_other' _ _ (by decide)).trans (f11 e)), (fun e => (eval_put_other' _ _ (by decide)).trans (f12 e)), (fun e => (eval_put_other' _ _ (by decide)).trans (f13 e)), (fun e => (eval_put_other' _ _ (by decide)).trans (f16 e)), d8_7, d9_7, (fun _ => w7), d14_7, d15_7, d14_12, d15_13⟩
    · have ws := o11.waits ho hwait
      have w8 := ws 8 (by simp)
      have w7 := d8_7 w8
      refine o11.extract (f8 w8) rfl ?_
      exact ⟨D, (so.put (by decide) _), wd, aw, (fun e => (eval_put_other' _ _ (by decide)).trans (f0 e)), (fun e => (eval_put_other' _ _ (by decide)).trans (f1 e)), (fun e => (eval_put_other' _ _ (by decide)).trans (f2 e)), (fun e => (eval_put_other' _ _ (by decide)).trans (f3 e)), (fun e => (eval_put_other' _ _ (by decide)).trans (f4 e)), (fun e => (eval_put_other' _ _ (by decide)).trans (f5 e)), (fun e => (eval_put_other' _ _ (by decide)).trans (f6 e)), (fun e => (eval_put_other' _ _ (by decide)).trans (f7 e)), (fun e => (eval_put_other' _ _ (by decide)).trans (f8 e)), (fun e => (eval_put_other' _ _ (by decide)).trans (f9 e)), (fun e => (eval_put_other' _ _ (by decide)).trans (f10 e)), (fun _ => eval_put_same' _ _ _ (by rw [so.size]; show (30 : Nat) < _; omega)), (fun e => (eval_put_other' _ _ (by decide)).trans (f12 e)), (fun e => (eval_put_other' _ _ (by decide)).trans (f13 e)), (fun e => (eval_put_other' _ _ (by decide)).trans (f16 e)), d8_7, d9_7, d10_7, d14_7, d15_7, d14_12, d15_13⟩
    · have hb : l 14 = false := by cases hx : l 14 with | false => rfl | true => have := d14_12 hx; rw [hl] at this; cases this
      have wd1 := wd.alloc8' hl hb
      refine o12.alloc ?_
      exact ⟨{ D with g8 := w.heap.size }, (so.put (by decide) _), wd1, aw, (fun e => (eval_put_other' _ _ (by decide)).trans (f0 e)), (fun e => (eval_put_other' _ _ (by decide)).trans (f1 e)), (fun e => (eval_put_other' _ _ (by decide)).trans (f2 e)), (fun e => (eval_put_other' _ _ (by decide)).trans (f3 e)), (fun e => (eval_put_other' _ _ (by decide)).trans (f4 e)), (fun e => (eval_put_other' _ _ (by decide)).trans (f5 e)), (fun e => (eval_put_other' _ _ (by decide)).trans (f6 e)), (fun e => (eval_put_other' _ _ (by decide)).trans (f7 e)), (fun e => (eval_put_other' _ _ (by decide)).trans (f8 e)), (fun e => (eval_put_other' _ _ (by decide)).trans (f9 e)), (fun e => (eval_put_other' _ _ (by decide)).trans (f10 e)), (fun e => (eval_put_other' _ _ (by decide)).trans (f11 e)), (fun _ => eval_put_same' _ _ _ (by rw [so.size]; show (9 : Nat) < _; omega)), (fun e => (eval_put_other' _ _ (by decide)).trans (f13 e)), (fun e => (eval_put_other' _ _ (by decide)).trans (f16 e)), d8_7, d9_7, d10_7, d14_7, d15_7, (fun _ => rfl), d15_13⟩
    · have hb : l 15 = false := by cases hx : l 15 with | false => rfl | true => have := d15_13 hx; rw [hl] at this; cases this
      have wd1 := wd.alloc9' hl hb
      refine o13.alloc ?_
      exact ⟨{ D with g9 := w.heap.size }, (so.put (by decide) _), wd1, aw, (fun e => (eval_put_other' _ _ (by decide)).trans (f0 e)), (fun e => (eval_put_other' _ _ (by decide)).trans (f1 e)), (fun e => (eval_put_other' _ _ (by decide)).trans (f2 e)), (fun e => (eval_put_other' _ _ (by decide)).trans (f3 e)), (fun e => (eval_put_other' _ _ (by decide)).trans (f4 e)), (fun e => (eval_put_other' _ _ (by decide)).trans (f5 e)), (fun e => (eval_put_other' _ _ (by decide)).trans (f6 e)), (fun e => (eval_put_other' _ _ (by decide)).trans (f7 e)), (fun e => (eval_put_other' _ _ (by decide)).trans (f8 e)), (fun e => (eval_put_other' _ _ (by decide)).trans (f9 e)), (fun e => (eval_put_other' _ _ (by decide)).trans (f10 e)), (fun e => (eval_put_other' _ _ (by decide)).trans (f11 e)), (fun e => (eval_put_other' _ _ (by decide)).trans (f12 e)), (fun _ => eval_put_same' _ _ _ (by rw [so.size]; show (10 : Nat) < _; omega)), (fun e => (eval_put_other' _ _ (by decide)).trans (f16 e)), d8_7, d9_7, d10_7, d14_7, d15_7, d14_12, (fun _ => rfl)⟩
    · have ws := o14.waits ho hwait
      have w12 := ws 12 (by simp)
      have w9 := ws 9 (by simp)
      have w7 := ws 7 (by simp)
      have w13 := ws 13 (by simp)
      obtain ⟨_, cs', hcs, hbx, _⟩ := wd.w8 w12
      refine o14.store (f12 w12) (f9 w9) hbx hcs ?_
      intro w' hb' ht'
      have wd1 := wd.st8' w7 w12 w13 hb' ht'
      exact ⟨D, so, wd1, aw, f0, f1, f2, f3, f4, f5, f6, f7, f8, f9, f10, f11, f12, f13, f16, d8_7, d9_7, d10_7, (fun _ => w7), d15_7, (fun _ => w12), d15_13⟩
    · have ws := o15.waits ho hwait
      have w13 := ws 13 (by simp)
      have w10 := ws 10 (by simp)
      have w7 := ws 7 (by simp)
      have w12 := ws 12 (by simp)
      obtain ⟨_, cs', hcs, hbx, _⟩ := wd.w9 w13
      refine o15.store (f13 w13) (f10 w10) hbx hcs ?_
      intro w' hb' ht'
      have wd1 := wd.st9' w7 w12 w13 hb' ht'
      exact ⟨D, so, wd1, aw, f0, f1, f2, f3, f4, f5, f6, f7, f8, f9, f10, f11, f12, f13, f16, d8_7, d9_7, d10_7, d14_7, (fun _ => w7), d14_12, (fun _ => w13)⟩
    · have ws := o16.waits ho hwait
      have w11 := ws 11 (by simp)
      refine o16.assign ?_
      rw [f11 w11]
      exact ⟨D, (so.put (by decide) _), wd, aw, (fun e => (eval_put_other' _ _ (by decide)).trans (f0 e)), (fun e => (eval_put_other' _ _ (by decide)).trans (f1 e)), (fun e => (eval_put_other' _ _ (by decide)).trans (f2 e)), (fun e => (eval_put_other' _ _ (by decide)).trans (f3 e)), (fun e => (eval_put_other' _ _ (by decide)).trans (f4 e)), (fun e => (eval_put_other' _ _ (by decide)).trans (f5 e)), (fun e => (eval_put_other' _ _ (by decide)).trans (f6 e)), (fun e => (eval_put_other' _ _ (by decide)).trans (f7 e)), (fun e => (eval_put_other' _ _ (by decide)).trans (f8 e)), (fun e => (eval_put_other' _ _ (by decide)).trans (f9 e)), (fun e => (eval_put_other' _ _ (by decide)).trans (f10 e)), (fun e => (eval_put_other' _ _ (by decide)).trans (f11 e)), (fun e => (eval_put_other' _ _ (by decide)).trans (f12 e)), (fun e => (eval_put_other' _ _ (by decide)).trans (f13 e)), (fun _ => eval_put_same' _ _ _ (by rw [so.size]; show (11 : Nat) < _; omega)), d8_7, d9_7, d10_7, d14_7, d15_7, d14_12, d15_13⟩
  · intro l a w hall ⟨D, so, wd, aw, f0, f1, f2, f3, f4, f5, f6, f7, f8, f9, f10, f11, f12, f13, f16, d8_7, d9_7, d10_7, d14_7, d15_7, d14_12, d15_13⟩
    rw [hn] at hall
    rw [hall 7 (by decide), hall 12 (by decide), hall 13 (by decide), hall 14 (by decide), hall 15 (by decide)] at wd
    exact hend D a w so (f12 (hall 12 (by decide))) (f13 (hall 13 (by decide))) (f16 (hall 16 (by decide))) (aw (hall 7 (by decide))) wd
  · exact ⟨⟨x, x, x, x, 0, 0⟩, SameOut.refl _ _, Wd.start _ ((Later.refl wx).drew), (fun e => by cases e), (fun e => by cases e), (fun e => by cases e), (fun e => by cases e), (fun e => by cases e), (fun e => by cases e), (fun e => by cases e), (fun e => by cases e), (fun e => by cases e), (fun e => by cases e), (fun e => by cases e), (fun e => by cases e), (fun e => by cases e), (fun e => by cases e), (fun e => by cases e), (fun e => by cases e), (fun e => by cases e), (fun e => by cases e), (fun e => by cases e), (fun e => by cases e), (fun e => by cases e), (fun e => by cases e), (fun e => by cases e)⟩

end Go.Proofs.Ytnhhdjcbifmfgaa

/-
  An array of three prims that comes in.
-/
namespace Go.Proofs.Ytnhhdjcbifmfgaa
open Go.ChangeShapes Go.WideShapes Go.ChangeAt Go.RowKit Go.Deep

theorem okWide_array {P : Program} {w : World} {r : Reach} {base n : Nat} {t e : TypeId} {v : Value} (ht : P.underlying t = some (.array n e)) (h : Value.okWide P w r base t v) : ∃ cs, v = .agg cs ∧ cs.size = P.cellsOf t := by
  simp only [Value.okWide, ht] at h
  obtain ⟨cs, h1, h2, _⟩ := h
  exact ⟨cs, h1, h2⟩
theorem Try.cells18 : Try.prog.cellsOf 25 = 18 := by kernel_rfl
theorem came_three {H : Type} {enc : TypeId × Value → H} {W : World} {cs : Array Value} {fuel : Nat} {x : DataW H × List MemPlace}
    (hf : DataW.trod enc Try.prog W 0 (fun _ => true) true fuel 25 (Value.agg cs).cells.toList = some x) (hb : Rows.uptoBulk x.1 ≤ 1048576) : ∃ a b c, Value.agg cs = .agg (prL3 a b c).toArray ∧ CameP W a ∧ CameP W b ∧ CameP W c := by
  obtain ⟨ys, n', _, hy, hcl, hyl, hfl⟩ := DataW.trod_array Try.underlying25 hf
  rw [Try.cells18] at hcl
  have h6 : Try.prog.cellsOf 24 = 6 := Try.primCells6
  rw [h6] at hfl
  have hcs : (Value.agg cs).cells.toList = cs.toList := rfl
  rw [hcs] at hcl hfl
  match ys, hyl with
  | [y0, y1, y2], _ =>
    subst hy
    simp only [List.map_cons, List.map_nil, Rows.uptoBulk, Rows.uptoBulkAll] at hb
    have e0 := hfl 0 (by decide); have e1 := hfl 1 (by decide); have e2 := hfl 2 (by decide)
    obtain ⟨a, ha, ca⟩ := came_prim (cs := ((cs.toList.drop (0 * 6)).take 6).toArray) (x := y0) e0 (by omega)
    obtain ⟨b, hb', cb⟩ := came_prim (cs := ((cs.toList.drop (1 * 6)).take 6).toArray) (x := y1) e1 (by omega)
    obtain ⟨c, hc, cc⟩ := came_prim (cs := ((cs.toList.drop (2 * 6)).take 6).toArray) (x := y2) e2 (by omega)
    refine ⟨a, b, c, ?_, ca, cb, cc⟩
    unfold prV at ha hb' hc
    simp only [Value.agg.injEq] at ha hb' hc
    have ha' := congrArg Array.toList ha
    have hb'' := congrArg Array.toList hb'
    have hc' := congrArg Array.toList hc
    simp only at ha' hb'' hc'
    congr 1
    apply Array.ext'
    have e : cs.toList = (cs.toList.drop (0 * 6)).take 6 ++ ((cs.toList.drop (1 * 6)).take 6 ++ (cs.toList.drop (2 * 6)).take 6) := by
      have h12 : (cs.toList.drop (2 * 6)).take 6 = cs.toList.drop 12 := List.take_of_length_le (by rw [List.length_drop, hcl]; decide)
      rw [h12]
      show cs.toList = cs.toList.take 6 ++ ((cs.toList.drop 6).take 6 ++ cs.toList.drop 12)
      have := List.take_append_drop 6 (cs.toList.drop 6)
      rw [List.drop_drop] at this
      rw [this, List.take_append_drop]
    rw [e, ha', hb'', hc']
    rfl

end Go.Proofs.Ytnhhdjcbifmfgaa

/-
  What follows of two prims in the other order: swapped again they are as they were; what undoes them is swapped, too. Nothing of any program.
-/
namespace Go.Proofs.Ytnhhdjcbifmfgaa
open Go.RowKit

theorem placed_placed (p : Pr) (a b : Int) : placed (placed p a) b = placed p b := rfl
theorem placed_self (p : Pr) : placed p p.place = p := rfl
theorem inFile_inFile (p : Pr) (a b : ByteArray) : inFile (inFile p a) b = inFile p b := rfl
theorem inFile_self (p : Pr) : inFile p p.name = p := rfl
theorem placed_to {p : Pr} {k : Int} (h : k = p.place) : placed p k = p := by subst h; rfl

section
variable {p q a b : Pr}
theorem inv_kind0 : (invertP p).kind = 0 ↔ p.kind = 0 := by
  unfold invertP
  by_cases h0 : p.kind = 0
  · simp [h0]
  by_cases h1 : p.kind = 1
  · simp [h1]
  by_cases h2 : p.kind = 2
  · simp [h2]
  by_cases h3 : p.kind = 3
  · simp [h3]
  simp [h0, h1, h2, h3]
theorem inv_kind3 : (invertP p).kind = 3 ↔ p.kind = 3 := by
  unfold invertP
  by_cases h0 : p.kind = 0
  · simp [h0]
  by_cases h1 : p.kind = 1
  · simp [h1]
  by_cases h2 : p.kind = 2
  · simp [h2]
  by_cases h3 : p.kind = 3
  · simp [h3]
  simp [h0, h1, h2, h3]
theorem inv_hunk (h : p.kind = 0) : invertP p = { p with old := p.new, new := p.old } := by simp [invertP, h]
theorem inv_move (h : p.kind = 3) : invertP p = { p with name := p.to, to := p.name } := by simp [invertP, h]
theorem inv_name (h : p.kind ≠ 3) : (invertP p).name = p.name := by
  unfold invertP
  by_cases h0 : p.kind = 0
  · simp [h0]
  by_cases h1 : p.kind = 1
  · simp [h1]
  by_cases h2 : p.kind = 2
  · simp [h2]
  simp [h0, h1, h2, h]
theorem inv_placed (h : p.kind = 0) (k : Int) : invertP (placed p k) = placed (invertP p) k := by simp [invertP, placed, h]
theorem inv_inFile (h : p.kind = 0) (n : ByteArray) : invertP (inFile p n) = inFile (invertP p) n := by simp [invertP, inFile, h]
theorem inv_names {n : ByteArray} : n ∈ namesP (invertP p) ↔ n ∈ namesP p := by
  rw [mem_names, mem_names, inv_kind3]
  by_cases h : p.kind = 3
  · rw [inv_move h]; simp only [h, true_and]; exact or_comm
  · rw [inv_name h]; simp [h]
theorem inv_common : commonP (invertP p) (invertP q) = commonP p q := by
  rw [Bool.eq_iff_iff, common_iff, common_iff]; simp only [inv_names]
theorem inv_common_left : commonP (invertP p) q = commonP p q := by
  rw [Bool.eq_iff_iff, common_iff, common_iff]; simp only [inv_names]
theorem bwd_inv (n : ByteArray) : bwdN (invertP p) n = fwdN p n := by
  unfold bwdN fwdN
  by_cases h : p.kind = 3
  · rw [if_pos (inv_kind3.2 h), if_pos h, inv_move h]
  · rw [if_neg (fun e => h (inv_kind3.1 e)), if_neg h, inv_name h]
theorem fwd_inv (n : ByteArray) : fwdN (invertP p) n = bwdN p n := by
  unfold bwdN fwdN
  by_cases h : p.kind = 3
  · rw [if_pos (inv_kind3.2 h), if_pos h, inv_move h]
  · rw [if_neg (fun e => h (inv_kind3.1 e)), if_neg h, inv_name h]

/-- Two Hunks that are swapped. -/
theorem swapHH_cases (h : swapHH p q = some (a, b)) :
    (p.name ≠ q.name ∧ a = q ∧ b = p) ∨
    (p.name = q.name ∧ q.place > p.place + p.new.length ∧ q.place - p.new.length + p.old.length ≤ 1048576 ∧ a = placed q (q.place - p.new.length + p.old.length) ∧ b = p) ∨
    (p.name = q.name ∧ q.place + q.old.length < p.place ∧ p.place + q.new.length - q.old.length ≤ 1048576 ∧ a = q ∧ b = placed p (p.place + q.new.length - q.old.length)) := by
  unfold swapHH at h
  split at h
  · rename_i e
    split at h
    · rename_i h1
      split at h
      · rename_i h2; cases h; exact .inr (.inl ⟨e, h1, h2, rfl, rfl⟩)
      · cases h
    · split at h
      · rename_i h1
        split at h
        · rename_i h2; cases h; exact .inr (.inr ⟨e, h1, h2, rfl, rfl⟩)
        · cases h
      · cases h
  · rename_i e; cases h; exact .inl ⟨e, rfl, rfl⟩
theorem swapHH_apart (e : p.name ≠ q.name) : swapHH p q = some (q, p) := by simp [swapHH, e]
theorem swapHH_behind (e : p.name = q.name) (h : q.place > p.place + p.new.length) (k : q.place - p.new.length + p.old.length ≤ 1048576) : swapHH p q = some (placed q (q.place - p.new.length + p.old.length), p) := by
  simp [swapHH, e, h, k]
theorem swapHH_ahead (e : p.name = q.name) (h : q.place + q.old.length < p.place) (k : p.place + q.new.length - q.old.length ≤ 1048576) : swapHH p q = some (q, placed p (p.place + q.new.length - q.old.length)) := by
  have h1 : ¬ q.place > p.place + p.new.length := by omega
  simp only [swapHH, e, h, k, h1, if_true, if_false]

/-- P4.3: swapped again, both are as they were. -/
theorem swap_back (h : swapP p q = some (a, b)) : swapP a b = some (p, q) := by
  obtain ⟨hp, hq, ha, hb⟩ := swap_right h
  by_cases kp : p.kind = 0
  · by_cases kq : q.kind = 0
    · rw [swap_HH hp hq kp kq] at h
      have pp := place_in hp kp
      have qq := place_in hq kq
      rcases swapHH_cases h with ⟨e, rfl, rfl⟩ | ⟨e, h1, h2, rfl, rfl⟩ | ⟨e, h1, h2, rfl, rfl⟩
      · rw [swap_HH ha hb kq kp, swapHH_apart (fun x => e x.symm)]
      · rw [swap_HH ha hb kq kp]
        have := swapHH_ahead (p := placed q (q.place - b.new.length + b.old.length)) (q := b) e.symm (by simp only [placed]; omega) (by simp only [placed]; omega)
        rw [this, placed_placed, placed_to (by simp only [placed]; omega)]
      · rw [swap_HH ha hb kq kp]
        have := swapHH_behind (p := a) (q := placed p (p.place + a.new.length - a.old.length)) e.symm (by simp only [placed]; omega) (by simp only [placed]; omega)
        rw [this, placed_placed, placed_to (by simp only [placed]; omega)]
    · rw [swap_HN hp hq kp kq] at h
      cases hf : fwdN q p.name with
      | none => rw [hf] at h; cases h
      | some n =>
        rw [hf] at h
        cases h
        rw [swap_NH ha hb kq kp]
        have : bwdN q (inFile p n).name = some p.name := (fwd_bwd hq).1 hf
        rw [this]; rfl
  · by_cases kq : q.kind = 0
    · rw [swap_NH hp hq kp kq] at h
      cases hf : bwdN p q.name with
      | none => rw [hf] at h; cases h
      | some n =>
        rw [hf] at h
        cases h
        rw [swap_HN ha hb kq kp]
        have : fwdN p (inFile q n).name = some q.name := (fwd_bwd hp).2 hf
        rw [this]; rfl
    · rw [swap_NN hp hq kp kq] at h
      split at h
      · cases h
      · rename_i hc
        cases h
        rw [swap_NN ha hb kq kp, common_comm, if_neg hc]

/-- P4.3: what undoes p, and first. -/
theorem swap_square (h : swapP p q = some (a, b)) : swapP (invertP p) a = some (q, invertP b) := by
  obtain ⟨hp, hq, ha, hb⟩ := swap_right h
  have hi : rightP (invertP p) = true := by rw [right_invert]; exact hp
  by_cases kp : p.kind = 0
  · have ki : (invertP p).kind = 0 := inv_kind0.2 kp
    by_cases kq : q.kind = 0
    · rw [swap_HH hp hq kp kq] at h
      have pp := place_in hp kp
      have qq := place_in hq kq
      rcases swapHH_cases h with ⟨e, rfl, rfl⟩ | ⟨e, h1, h2, rfl, rfl⟩ | ⟨e, h1, h2, rfl, rfl⟩
      · rw [swap_HH hi ha ki kq, inv_hunk kp]; exact swapHH_apart e
      · rw [swap_HH hi ha ki kq, inv_hunk kp]
        have := swapHH_behind (p := { b with old := b.new, new := b.old }) (q := placed q (q.place - b.new.length + b.old.length)) e (by simp only [placed]; omega) (by simp only [placed]; omega)
        rw [this, placed_placed, placed_to (by simp only [placed]; omega)]
      · rw [swap_HH hi ha ki kq, inv_placed kp, inv_hunk kp]
        exact swapHH_ahead (p := { p with old := p.new, new := p.old }) (q := a) e h1 h2
    · rw [swap_HN hp hq kp kq] at h
      cases hf : fwdN q p.name with
      | none => rw [hf] at h; cases h
      | some n =>
        rw [hf] at h
        cases h
        rw [swap_HN hi ha ki kq, inv_name (by omega), hf, inv_inFile kp]; rfl
  · have ki : (invertP p).kind ≠ 0 := fun e => kp (inv_kind0.1 e)
    by_cases kq : q.kind = 0
    · rw [swap_NH hp hq kp kq] at h
      cases hf : bwdN p q.name with
      | none => rw [hf] at h; cases h
      | some n =>
        rw [hf] at h
        cases h
        rw [swap_NH hi ha ki kq, bwd_inv]
        have : fwdN p (inFile q n).name = some q.name := (fwd_bwd hp).2 hf
        rw [this]; rfl
    · rw [swap_NN hp hq kp kq] at h
      split at h
      · cases h
      · rename_i hc
        cases h
        rw [swap_NN hi ha ki kq, inv_common_left, if_neg hc]

theorem swap_inverts_some (h : swapP p q = some (a, b)) : swapP (invertP q) (invertP p) = some (invertP b, invertP a) := by
  obtain ⟨hp, hq, ha, hb⟩ := swap_right h
  have hi : rightP (invertP p) = true := by rw [right_invert]; exact hp
  have hj : rightP (invertP q) = true := by rw [right_invert]; exact hq
  by_cases kp : p.kind = 0
  · have ki : (invertP p).kind = 0 := inv_kind0.2 kp
    by_cases kq : q.kind = 0
    · have kj : (invertP q).kind = 0 := inv_kind0.2 kq
      rw [swap_HH hp hq kp kq] at h
      have pp := place_in hp kp
      have qq := place_in hq kq
      rw [swap_HH hj hi kj ki]
      rcases swapHH_cases h with ⟨e, rfl, rfl⟩ | ⟨e, h1, h2, rfl, rfl⟩ | ⟨e, h1, h2, rfl, rfl⟩
      · rw [inv_hunk kp, inv_hunk kq]; exact swapHH_apart (fun x => e x.symm)
      · rw [inv_placed kq, inv_hunk kp, inv_hunk kq]
        have := swapHH_ahead (p := { q with old := q.new, new := q.old }) (q := { b with old := b.new, new := b.old }) e.symm (by simp only; omega) (by simp only; omega)
        rw [this]
        congr 3
        simp only; omega
      · rw [inv_placed kp, inv_hunk kp, inv_hunk kq]
        have := swapHH_behind (p := { a with old := a.new, new := a.old }) (q := { p with old := p.new, new := p.old }) e.symm (by simp only; omega) (by simp only; omega)
        rw [this]
        congr 3
        simp only; omega
    · have kj : (invertP q).kind ≠ 0 := fun e => kq (inv_kind0.1 e)
      rw [swap_HN hp hq kp kq] at h
      cases hf : fwdN q p.name with
      | none => rw [hf] at h; cases h
      | some n =>
        rw [hf] at h
        cases h
        rw [swap_NH hj hi kj ki, bwd_inv, inv_name (by omega), hf, inv_inFile kp]; rfl
  · have ki : (invertP p).kind ≠ 0 := fun e => kp (inv_kind0.1 e)
    by_cases kq : q.kind = 0
    · have kj : (invertP q).kind = 0 := inv_kind0.2 kq
      rw [swap_NH hp hq kp kq] at h
      cases hf : bwdN p q.name with
      | none => rw [hf] at h; cases h
      | some n =>
        rw [hf] at h
        cases h
        rw [swap_HN hj hi kj ki, fwd_inv, inv_name (by omega), hf, inv_inFile kq]; rfl
    · have kj : (invertP q).kind ≠ 0 := fun e => kq (inv_kind0.1 e)
      rw [swap_NN hp hq kp kq] at h
      split at h
      · cases h
      · rename_i hc
        cases h
        rw [swap_NN hj hi kj ki, inv_common, common_comm, if_neg hc]
/-- P4.3: what undoes q, and what undoes p. -/
theorem swap_inverts (p q : Pr) : swapP (invertP q) (invertP p) = (swapP p q).map fun x => (invertP x.2, invertP x.1) := by
  cases h : swapP p q with
  | some x => exact swap_inverts_some h
  | none =>
    cases k : swapP (invertP q) (invertP p) with
    | none => rfl
    | some x =>
      have := swap_inverts_some k
      rw [invert_twice, invert_twice, h] at this
      cases this

/-- P4.1: kinds, and how many lines, are as they were; one that is no Hunk is as it was. -/
theorem swap_keeps (h : swapP p q = some (a, b)) : a.kind = q.kind ∧ a.old = q.old ∧ a.new = q.new ∧ (q.kind ≠ 0 → a = q) ∧ b.kind = p.kind ∧ b.old = p.old ∧ b.new = p.new ∧ (p.kind ≠ 0 → b = p) := by
  obtain ⟨hp, hq, ha, hb⟩ := swap_right h
  by_cases kp : p.kind = 0
  · by_cases kq : q.kind = 0
    · rw [swap_HH hp hq kp kq] at h
      rcases swapHH_cases h with ⟨_, rfl, rfl⟩ | ⟨_, _, _, rfl, rfl⟩ | ⟨_, _, _, rfl, rfl⟩ <;> simp [placed, kp, kq]
    · rw [swap_HN hp hq kp kq] at h
      obtain ⟨n, _, h1⟩ := Option.map_eq_some_iff.1 h
      cases h1
      simp [inFile, kp]
  · by_cases kq : q.kind = 0
    · rw [swap_NH hp hq kp kq] at h
      obtain ⟨n, _, h1⟩ := Option.map_eq_some_iff.1 h
      cases h1
      simp [inFile, kq]
    · rw [swap_NN hp hq kp kq] at h
      split at h
      · cases h
      · cases h; simp
end

end Go.Proofs.Ytnhhdjcbifmfgaa
