import Derived.Test.YtlnjhimbgckdcaaGreatPk35

/-
  The document's own Swap of two rows: the statement that swaps two neighbours, in whatever order its operations come, and where the lines of what is told lie.
-/
namespace Go.Proofs.YtlnjhimbgckdcaaGreat
open Go.RowKit Go.Maps

def AwX (g : Nat) (x y c : PrC) : Prop := Away g c /\ ∀ w0, PrOk w0 x -> PrOk w0 y -> PrOk w0 c
structure RfT (wx : World) (g : Nat) (x y : PrC) (r : Pr × Pr × Bool) (b b' : Bool) (s : Nat) (D : RSD) (V : World) : Prop where
  later : Later wx V
  sw : 1 <= s -> D.c.v = r.1 /\ D.d.v = r.2.1 /\ PrOk wx D.c /\ PrOk wx D.d /\ AwX g x y D.c /\ AwX g x y D.d
  b8 : b = true -> wx.heap.size <= D.g8 /\ ∃ cs, cs.size = 6 /\ BoxAt V D.g8 cs 89 /\ (2 <= s -> cs = (prL D.c).toArray)
  b9 : b' = true -> wx.heap.size <= D.g9 /\ ∃ cs, cs.size = 6 /\ BoxAt V D.g9 cs 89 /\ (3 <= s -> cs = (prL D.d).toArray)
  ne : b = true -> b' = true -> D.g8 ≠ D.g9
section
variable {wx V V' : World} {g : Nat} {x y : PrC} {r : Pr × Pr × Bool} {b b' : Bool} {s : Nat} {D : RSD}
theorem RfT.swap (h : RfT wx g x y r b b' 0 D V) (hl : Later V V') {c d : PrC} (h1 : c.v = r.1) (h2 : d.v = r.2.1) (h3 : PrOk wx c) (h4 : PrOk wx d) (h5 : AwX g x y c) (h6 : AwX g x y d) : RfT wx g x y r b b' 1 { D with c := c, d := d } V' :=
  ⟨h.later.trans hl, fun _ => ⟨h1, h2, h3, h4, h5, h6⟩, (fun e => by obtain ⟨q1, cs, q2, q3, _⟩ := h.b8 e; exact ⟨q1, cs, q2, q3.later hl, fun e => by omega⟩), (fun e => by obtain ⟨q1, cs, q2, q3, _⟩ := h.b9 e; exact ⟨q1, cs, q2, q3.later hl, fun e => by omega⟩), h.ne⟩
theorem RfT.alloc8 (h : RfT wx g x y r false b' s D V) (hs : s <= 1) : RfT wx g x y r true b' s { D with g8 := V.heap.size } (V.alloc (.cells zeroL 89)) :=
  ⟨h.later.alloc _, h.sw, (fun _ => ⟨h.later.le, zeroL, rfl, BoxAt.made V zeroL 89, fun e => by omega⟩), (fun e => by obtain ⟨q1, cs, q2, q3, q4⟩ := h.b9 e; exact ⟨q1, cs, q2, q3.alloc _, q4⟩), fun _ e => by obtain ⟨_, _, _, q3, _⟩ := h.b9 e; have := q3.lt; show V.heap.size ≠ D.g9; omega⟩
theorem RfT.alloc9 (h : RfT wx g x y r b false s D V) (hs : s <= 2) : RfT wx g x y r b true s { D with g9 := V.heap.size } (V.alloc (.cells zeroL 89)) :=
  ⟨h.later.alloc _, h.sw, (fun e => by obtain ⟨q1, cs, q2, q3, q4⟩ := h.b8 e; exact ⟨q1, cs, q2, q3.alloc _, q4⟩), (fun _ => ⟨h.later.le, zeroL, rfl, BoxAt.made V zeroL 89, fun e => by omega⟩), fun e _ => by obtain ⟨_, _, _, q3, _⟩ := h.b8 e; have := q3.lt; show D.g8 ≠ V.heap.size; omega⟩
theorem RfT.st8 (h : RfT wx g x y r true true 1 D V) (hb : BoxAt V' D.g8 (prL D.c).toArray 89) (ht : Turned D.g8 V V') : RfT wx g x y r true true 2 D V' :=
  ⟨h.later.turn ht (h.b8 rfl).1, fun _ => h.sw (Nat.le_refl _), (fun _ => ⟨(h.b8 rfl).1, _, rfl, hb, fun _ => rfl⟩), (fun _ => by obtain ⟨q1, cs, q2, q3, q4⟩ := h.b9 rfl; exact ⟨q1, cs, q2, q3.other ht (Ne.symm (h.ne rfl rfl)), fun e => by omega⟩), h.ne⟩
theorem RfT.st9 (h : RfT wx g x y r true true 2 D V) (hb : BoxAt V' D.g9 (prL D.d).toArray 89) (ht : Turned D.g9 V V') : RfT wx g x y r true true 3 D V' :=
  ⟨h.later.turn ht (h.b9 rfl).1, fun _ => h.sw (by omega), (fun _ => by obtain ⟨q1, cs, q2, q3, q4⟩ := h.b8 rfl; exact ⟨q1, cs, q2, q3.other ht (h.ne rfl rfl), fun _ => q4 (Nat.le_refl _)⟩), (fun _ => ⟨(h.b9 rfl).1, _, rfl, hb, fun _ => rfl⟩), h.ne⟩
end

set_option maxHeartbeats 1600000 in
theorem refswt_region {ops : Array Oper} (hn : ops.size = 23) (hg : goesBack ops = true)
    (o0 : OpIs ops 0 (.move (.tmp 7)) (some 32) [])
    (o1 : OpIs ops 1 (.move (.tmp 8)) (some 33) [])
    (o2 : OpIs ops 2 (.move (.tmp 9)) (some 34) [])
    (o3 : OpIs ops 3 (.binOp .add 3 (.tmp 33) (.tmp 34) 3) (some 35) [1, 2])
    (o4 : OpIs ops 4 (.indexAddr 23 (.tmp 32) (.tmp 35)) (some 36) [0, 3])
    (o5 : OpIs ops 5 (.load 89 (.tmp 36)) (some 37) [4])
    (o6 : OpIs ops 6 (.move (.tmp 7)) (some 38) [])
    (o7 : OpIs ops 7 (.move (.tmp 8)) (some 39) [])
    (o8 : OpIs ops 8 (.move (.tmp 9)) (some 40) [])
    (o9 : OpIs ops 9 (.binOp .add 3 (.tmp 39) (.tmp 40) 3) (some 41) [7, 8])
    (o10 : OpIs ops 10 (.binOp .add 3 (.tmp 41) (.const (.int .i64 1)) 3) (some 42) [9])
    (o11 : OpIs ops 11 (.indexAddr 23 (.tmp 38) (.tmp 42)) (some 43) [6, 10])
    (o12 : OpIs ops 12 (.load 89 (.tmp 43)) (some 44) [11])
    (o13 : OpIs ops 13 (.call { callee := .value (.func 51), args := #[.tmp 37, .tmp 44], argTypes := #[89, 89] }) (some 45) [5, 12])
    (o14 : OpIs ops 14 (.move (.tmp 45)) (some 31) [13])
    (o15 : OpIs ops 15 (.extract (.tmp 31) 0) (some 46) [14])
    (o16 : OpIs ops 16 (.extract (.tmp 31) 1) (some 47) [14])
    (o17 : OpIs ops 17 (.extract (.tmp 31) 2) (some 48) [14])
    (o18 : OpIs ops 18 (.alloc 89) (some 10) [])
    (o19 : OpIs ops 19 (.alloc 89) (some 11) [])
    (o20 : OpIs ops 20 (.store 89 (.tmp 10) (.tmp 46)) none [18, 15, 13, 19])
    (o21 : OpIs ops 21 (.store 89 (.tmp 11) (.tmp 47)) none [19, 16, 20, 18])
    (o22 : OpIs ops 22 (.assign (.tmp 48)) (some 12) [17])
    {a1 : Act} (hs : 72 <= a1.tmps.size) {wx : World} {ki kk g nn cc : Nat} {xs : List PrC} {x y : PrC} {r : Pr × Pr × Bool} (e7 : a1.eval (.tmp 7) = .slice (some ⟨g, 0, none⟩) nn cc) (e8 : a1.eval (.tmp 8) = .int .i64 (ki : Nat)) (e9 : a1.eval (.tmp 9) = .int .i64 (kk : Nat)) (hrow : RowK 6 wx (some ⟨g, 0, none⟩) nn (xs.map prL)) (hx : xs[ki + kk]? = some x) (hy : xs[ki + kk + 1]? = some y) (hlt : ki + kk + 1 < nn) (hnn : nn <= 1000) (okx : PrOk wx x) (oky : PrOk wx y) (awx : Away g x) (awy : Away g y) (hglt : g < wx.heap.size) (hsw : swapR (swapP x.v y.v) = r)
    {Q : Exit -> Act -> World -> Prop} {id : Nat} (hend : ∀ (D : RSD) (a : Act) (w : World), SameOut a1 a [32, 33, 34, 35, 36, 37, 38, 39, 40, 41, 42, 43, 44, 45, 31, 46, 47, 48, 10, 11, 12] -> a.eval (.tmp 10) = .pointer (some ⟨D.g8, 0, none⟩) -> a.eval (.tmp 11) = .pointer (some ⟨D.g9, 0, none⟩) -> a.eval (.tmp 12) = .bool r.2.2 -> RfT wx g x y r true true (3) D w -> Q .normal a w) :
    (Code.region id ops true).wp Tryz.prog Q a1 wx := by
  refine region_inv (by kernel_rfl) hg (fun l a w => ∃ D : RSD, SameOut a1 a [32, 33, 34, 35, 36, 37, 38, 39, 40, 41, 42, 43, 44, 45, 31, 46, 47, 48, 10, 11, 12] /\ RfT wx g x y r (l 18) (l 19) (if l 21 = true then 3 else (if l 20 = true then 2 else (if l 13 = true then 1 else 0))) D w /\ (l 0 = true -> a.eval (.tmp 32) = .slice (some ⟨g, 0, none⟩) nn cc) /\ (l 1 = true -> a.eval (.tmp 33) = .int .i64 (ki : Nat)) /\ (l 2 = true -> a.eval (.tmp 34) = .int .i64 (kk : Nat)) /\ (l 3 = true -> a.eval (.tmp 35) = .int .i64 (ki + kk : Nat)) /\ (l 4 = true -> a.eval (.tmp 36) = .pointer (some ⟨g, 0 + (ki + kk) * 6, none⟩)) /\ (l 5 = true -> a.eval (.tmp 37) = prV x) /\ (l 6 = true -> a.eval (.tmp 38) = .slice (some ⟨g, 0, none⟩) nn cc) /\ (l 7 = true -> a.eval (.tmp 39) = .int .i64 (ki : Nat)) /\ (l 8 = true -> a.eval (.tmp 40) = .int .i64 (kk : Nat)) /\ (l 9 = true -> a.eval (.tmp 41) = .int .i64 (ki + kk : Nat)) /\ (l 10 = true -> a.eval (.tmp 42) = .int .i64 (ki + kk + 1 : Nat)) /\ (l 11 = true -> a.eval (.tmp 43) = .pointer (some ⟨g, 0 + (ki + kk + 1) * 6, none⟩)) /\ (l 12 = true -> a.eval (.tmp 44) = prV y) /\ (l 13 = true -> a.eval (.tmp 45) = .tuple #[prV D.c, prV D.d, .bool r.2.2]) /\ (l 14 = true -> a.eval (.tmp 31) = .tuple #[prV D.c, prV D.d, .bool r.2.2]) /\ (l 15 = true -> a.eval (.tmp 46) = prV D.c) /\ (l 16 = true -> a.eval (.tmp 47) = prV D.d) /\ (l 17 = true -> a.eval (.tmp 48) = .bool r.2.2) /\ (l 18 = true -> a.eval (.tmp 10) = .pointer (some ⟨D.g8, 0, none⟩)) /\ (l 19 = true -> a.eval (.tmp 11) = .pointer (some ⟨D.g9, 0, none⟩)) /\ (l 22 = true -> a.eval (.tmp 12) = .bool r.2.2) /\ (l 20 = true -> l 13 = true) /\ (l 21 = true -> l 20 = true) /\ (l 20 = true -> l 18 = true) /\ (l 21 = true -> l 19 = true) /\ (l 14 = true -> l 13 = true) /\ (l 15 = true -> l 13 = true) /\ (l 16 = true -> l 13 = true)) ?_ ?_ ?_
  · intro l a w i o ho hl hwait ⟨D, so, st, f0, f1, f2, f3, f4, f5, f6, f7, f8, f9, f10, f11, f12, f13, f14, f15, f16, f17, f18, f19, f22, d20_13, d21_20, d20_18, d21_19, d14_13, d15_13, d16_13⟩
    have hi : i < 23 := by rw [← hn]; exact (Array.getElem?_eq_some_iff.1 ho).1
    have hc : i = 0 ∨ i = 1 ∨ i = 2 ∨ i = 3 ∨ i = 4 ∨ i = 5 ∨ i = 6 ∨ i = 7 ∨ i = 8 ∨ i = 9 ∨ i = 10 ∨ i = 11 ∨ i = 12 ∨ i = 13 ∨ i = 14 ∨ i = 15 ∨ i = 16 ∨ i = 17 ∨ i = 18 ∨ i = 19 ∨ i = 20 ∨ i = 21 ∨ i = 22 := by omega
    rcases hc with rfl | rfl | rfl | rfl | rfl | rfl | rfl | rfl | rfl | rfl | rfl | rfl | rfl | rfl | rfl | rfl | rfl | rfl | rfl | rfl | rfl | rfl | rfl
    · have st0 := st
      have ev : a.eval (.tmp 7) = .slice (some ⟨g, 0, none⟩) nn cc := ((show _ = a1.eval _ from by simp only [Act.eval, Array.getD_eq_getD_getElem?, so.out 7 (by decide)]).trans e7)
      refine o0.move ?_
      rw [ev]
      exact ⟨D, (so.put (by decide) _), st, (fun _ => eval_put_same' _ _ _ (by rw [so.size]; show (32 : Nat) < _; omega)), (fun e => (eval_put_other' _ _ (by decide)).trans (f1 e)), (fun e => (eval_put_other' _ _ (by decide)).trans (f2 e)), (fun e => (eval_put_other' _ _ (by decide)).trans (f3 e)), (fun e => (eval_put_other' _ _ (by decide)).trans (f4 e)), (fun e => (eval_put_other' _ _ (by decide)).trans (f5 e)), (fun e => (eval_put_other' _ _ (by decide)).trans (f6 e)), (fun e => (eval_put_other' _ _ (by decide)).trans (f7 e)), (fun e => (eval_put_other' _ _ (by decide)).trans (f8 e)), (fun e => (eval_put_other' _ _ (by decide)).trans (f9 e)), (fun e => (eval_put_other' _ _ (by decide)).trans (f10 e)), (fun e => (eval_put_other' _ _ (by decide)).trans (f11 e)), (fun e => (eval_put_other' _ _ (by decide)).trans (f12 e)), (fun e => (eval_put_other' _ _ (by decide)).trans (f13 e)), (fun e => (eval_put_other' _ _ (by decide)).trans (f14 e)), (fun e => (eval_put_other' _ _ (by decide)).trans (f15 e)), (fun e => (eval_put_other' _ _ (by decide)).trans (f16 e)), (fun e => (eval_put_other' _ _ (by decide)).trans (f17 e)), (fun e => (eval_put_other' _ _ (by decide)).trans (f18 e)), (fun e => (eval_put_other' _ _ (by decide)).trans (f19 e)), (fun e => (eval_put_other' _ _ (by decide)).trans (f22 e)), d20_13, d21_20, d20_18, d21_19, d14_13, d15_13, d16_13⟩
    · have st0 := st
      have ev : a.eval (.tmp 8) = .int .i64 (ki : Nat) := ((show _ = a1.eval _ from by simp only [Act.eval, Array.getD_eq_getD_getElem?, so.out 8 (by decide)]).trans e8)
      refine o1.move ?_
      rw [ev]
      exact ⟨D, (so.put (by decide) _), st, (fun e => (eval_put_other' _ _ (by decide)).trans (f0 e)), (fun _ => eval_put_same' _ _ _ (by rw [so.size]; show (33 : Nat) < _; omega)), (fun e => (eval_put_other' _ _ (by decide)).trans (f2 e)), (fun e => (eval_put_other' _ _ (by decide)).trans (f3 e)), (fun e => (eval_put_other' _ _ (by decide)).trans (f4 e)), (fun e => (eval_put_other' _ _ (by decide)).trans (f5 e)), (fun e => (eval_put_other' _ _ (by decide)).trans (f6 e)), (fun e => (eval_put_other' _ _ (by decide)).trans (f7 e)), (fun e => (eval_put_other' _ _ (by decide)).trans (f8 e)), (fun e => (eval_put_other' _ _ (by decide)).trans (f9 e)), (fun e => (eval_put_other' _ _ (by decide)).trans (f10 e)), (fun e => (eval_put_other' _ _ (by decide)).trans (f11 e)), (fun e => (eval_put_other' _ _ (by decide)).trans (f12 e)), (fun e => (eval_put_other' _ _ (by decide)).trans (f13 e)), (fun e => (eval_put_other' _ _ (by decide)).trans (f14 e)), (fun e => (eval_put_other' _ _ (by decide)).trans (f15 e)), (fun e => (eval_put_other' _ _ (by decide)).trans (f16 e)), (fun e => (eval_put_other' _ _ (by decide)).trans (f17 e)), (fun e => (eval_put_other' _ _ (by decide)).trans (f18 e)), (fun e => (eval_put_other' _ _ (by decide)).trans (f19 e)), (fun e => (eval_put_other' _ _ (by decide)).trans (f22 e)), d20_13, d21_20, d20_18, d21_19, d14_13, d15_13, d16_13⟩
    · have st0 := st
      have ev : a.eval (.tmp 9) = .int .i64 (kk : Nat) := ((show _ = a1.eval _ from by simp only [Act.eval, Array.getD_eq_getD_getElem?, so.out 9 (by decide)]).trans e9)
      refine o2.move ?_
      rw [ev]
      exact ⟨D, (so.put (by decide) _), st, (fun e => (eval_put_other' _ _ (by decide)).trans (f0 e)), (fun e => (eval_put_other' _ _ (by decide)).trans (f1 e)), (fun _ => eval_put_same' _ _ _ (by rw [so.size]; show (34 : Nat) < _; omega)), (fun e => (eval_put_other' _ _ (by decide)).trans (f3 e)), (fun e => (eval_put_other' _ _ (by decide)).trans (f4 e)), (fun e => (eval_put_other' _ _ (by decide)).trans (f5 e)), (fun e => (eval_put_other' _ _ (by decide)).trans (f6 e)), (fun e => (eval_put_other' _ _ (by decide)).trans (f7 e)), (fun e => (eval_put_other' _ _ (by decide)).trans (f8 e)), (fun e => (eval_put_other' _ _ (by decide)).trans (f9 e)), (fun e => (eval_put_other' _ _ (by decide)).trans (f10 e)), (fun e => (eval_put_other' _ _ (by decide)).trans (f11 e)), (fun e => (eval_put_other' _ _ (by decide)).trans (f12 e)), (fun e => (eval_put_other' _ _ (by decide)).trans (f13 e)), (fun e => (eval_put_other' _ _ (by decide)).trans (f14 e)), (fun e => (eval_put_other' _ _ (by decide)).trans (f15 e)), (fun e => (eval_put_other' _ _ (by decide)).trans (f16 e)), (fun e => (eval_put_other' _ _ (by decide)).trans (f17 e)), (fun e => (eval_put_other' _ _ (by decide)).trans (f18 e)), (fun e => (eval_put_other' _ _ (by decide)).trans (f19 e)), (fun e => (eval_put_other' _ _ (by decide)).trans (f22 e)), d20_13, d21_20, d20_18, d21_19, d14_13, d15_13, d16_13⟩
    · have ws := o3.waits ho hwait
      have w1 := ws 1 (by simp)
      have w2 := ws 2 (by simp)
      have st0 := st
      refine o3.addI (f1 w1) (f2 w2) (by omega) ?_
      exact ⟨D, (so.put (by decide) _), st, (fun e => (eval_put_other' _ _ (by decide)).trans (f0 e)), (fun e => (eval_put_other' _ _ (by decide)).trans (f1 e)), (fun e => (eval_put_other' _ _ (by decide)).trans (f2 e)), (fun _ => eval_put_same' _ _ _ (by rw [so.size]; show (35 : Nat) < _; omega)), (fun e => (eval_put_other' _ _ (by decide)).trans (f4 e)), (fun e => (eval_put_other' _ _ (by decide)).trans (f5 e)), (fun e => (eval_put_other' _ _ (by decide)).trans (f6 e)), (fun e => (eval_put_other' _ _ (by decide)).trans (f7 e)), (fun e => (eval_put_other' _ _ (by decide)).trans (f8 e)), (fun e => (eval_put_other' _ _ (by decide)).trans (f9 e)), (fun e => (eval_put_other' _ _ (by decide)).trans (f10 e)), (fun e => (eval_put_other' _ _ (by decide)).trans (f11 e)), (fun e => (eval_put_other' _ _ (by decide)).trans (f12 e)), (fun e => (eval_put_other' _ _ (by decide)).trans (f13 e)), (fun e => (eval_put_other' _ _ (by decide)).trans (f14 e)), (fun e => (eval_put_other' _ _ (by decide)).trans (f15 e)), (fun e => (eval_put_other' _ _ (by decide)).trans (f16 e)), (fun e => (eval_put_other' _ _ (by decide)).trans (f17 e)), (fun e => (eval_put_other' _ _ (by decide)).trans (f18 e)), (fun e => (eval_put_other' _ _ (by decide)).trans (f19 e)), (fun e => (eval_put_other' _ _ (by decide)).trans (f22 e)), d20_13, d21_20, d20_18, d21_19, d14_13, d15_13, d16_13⟩
    · have ws := o4.waits ho hwait
      have w0 := ws 0 (by simp)
      have w3 := ws 3 (by simp)
      have st0 := st
      refine o4.indexR (f0 w0) (f3 w3) (by omega) ?_
      exact ⟨D, (so.put (by decide) _), st, (fun e => (eval_put_other' _ _ (by decide)).trans (f0 e)), (fun e => (eval_put_other' _ _ (by decide)).trans (f1 e)), (fun e => (eval_put_other' _ _ (by decide)).trans (f2 e)), (fun e => (eval_put_other' _ _ (by decide)).trans (f3 e)), (fun _ => eval_put_same' _ _ _ (by rw [so.size]; show (36 : Nat) < _; omega)), (fun e => (eval_put_other' _ _ (by decide)).trans (f5 e)), (fun e => (eval_put_other' _ _ (by decide)).trans (f6 e)), (fun e => (eval_put_other' _ _ (by decide)).trans (f7 e)), (fun e => (eval_put_other' _ _ (by decide)).trans (f8 e)), (fun e => (eval_put_other' _ _ (by decide)).trans (f9 e)), (fun e => (eval_put_other' _ _ (by decide)).trans (f10 e)), (fun e => (eval_put_other' _ _ (by decide)).trans (f11 e)), (fun e => (eval_put_other' _ _ (by decide)).trans (f12 e)), (fun e => (eval_put_other' _ _ (by decide)).trans (f13 e)), (fun e => (eval_put_other' _ _ (by decide)).trans (f14 e)), (fun e => (eval_put_other' _ _ (by decide)).trans (f15 e)), (fun e => (eval_put_other' _ _ (by decide)).trans (f16 e)), (fun e => (eval_put_other' _ _ (by decide)).trans (f17 e)), (fun e => (eval_put_other' _ _ (by decide)).trans (f18 e)), (fun e => (eval_put_other' _ _ (by decide)).trans (f19 e)), (fun e => (eval_put_other' _ _ (by decide)).trans (f22 e)), d20_13, d21_20, d20_18, d21_19, d14_13, d15_13, d16_13⟩
    · have ws := o5.waits ho hwait
      have w4 := ws 4 (by simp)
      have st0 := st
      have hl0 : Later wx w := st.later
      refine o5.loadR (f4 w4) (hrow.later hl0) hx ?_
      exact ⟨D, (so.put (by decide) _), st, (fun e => (eval_put_other' _ _ (by decide)).trans (f0 e)), (fun e => (eval_put_other' _ _ (by decide)).trans (f1 e)), (fun e => (eval_put_other' _ _ (by decide)).trans (f2 e)), (fun e => (eval_put_other' _ _ (by decide)).trans (f3 e)), (fun e => (eval_put_other' _ _ (by decide)).trans (f4 e)), (fun _ => eval_put_same' _ _ _ (by rw [so.size]; show (37 : Nat) < _; omega)), (fun e => (eval_put_other' _ _ (by decide)).trans (f6 e)), (fun e => (eval_put_other' _ _ (by decide)).trans (f7 e)), (fun e => (eval_put_other' _ _ (by decide)).trans (f8 e)), (fun e => (eval_put_other' _ _ (by decide)).trans (f9 e)), (fun e => (eval_put_other' _ _ (by decide)).trans (f10 e)), (fun e => (eval_put_other' _ _ (by decide)).trans (f11 e)), (fun e => (eval_put_other' _ _ (by decide)).trans (f12 e)), (fun e => (eval_put_other' _ _ (by decide)).trans (f13 e)), (fun e => (eval_put_other' _ _ (by decide)).trans (f14 e)), (fun e => (eval_put_other' _ _ (by decide)).trans (f15 e)), (fun e => (eval_put_other' _ _ (by decide)).trans (f16 e)), (fun e => (eval_put_other' _ _ (by decide)).trans (f17 e)), (fun e => (eval_put_other' _ _ (by decide)).trans (f18 e)), (fun e => (eval_put_other' _ _ (by decide)).trans (f19 e)), (fun e => (eval_put_other' _ _ (by decide)).trans (f22 e)), d20_13, d21_20, d20_18, d21_19, d14_13, d15_13, d16_13⟩
    · have st0 := st
      have ev : a.eval (.tmp 7) = .slice (some ⟨g, 0, none⟩) nn cc := ((show _ = a1.eval _ from by simp only [Act.eval, Array.getD_eq_getD_getElem?, so.out 7 (by decide)]).trans e7)
      refine o6.move ?_
      rw [ev]
      exact ⟨D, (so.put (by decide) _), st, (fun e => (eval_put_other' _ _ (by decide)).trans (f0 e)), (fun e => (eval_put_other' _ _ (by decide)).trans (f1 e)), (fun e => (eval_put_other' _ _ (by decide)).trans (f2 e)), (fun e => (eval_put_other' _ _ (by decide)).trans (f3 e)), (fun e => (eval_put_other' _ _ (by decide)).trans (f4 e)), (fun e => (eval_put_other' _ _ (by decide)).trans (f5 e)), (fun _ => eval_put_same' _ _ _ (by rw [so.size]; show (38 : Nat) < _; omega)), (fun e => (eval_put_other' _ _ (by decide)).trans (f7 e)), (fun e => (eval_put_other' _ _ (by decide)).trans (f8 e)), (fun e => (eval_put_other' _ _ (by decide)).trans (f9 e)), (fun e => (eval_put_other' _ _ (by decide)).trans (f10 e)), (fun e => (eval_put_other' _ _ (by decide)).trans (f11 e)), (fun e => (eval_put_other' _ _ (by decide)).trans (f12 e)), (fun e => (eval_put_other' _ _ (by decide)).trans (f13 e)), (fun e => (eval_put_other' _ _ (by decide)).trans (f14 e)), (fun e => (eval_put_other' _ _ (by decide)).trans (f15 e)), (fun e => (eval_put_other' _ _ (by decide)).trans (f16 e)), (fun e => (eval_put_other' _ _ (by decide)).trans (f17 e)), (fun e => (eval_put_other' _ _ (by decide)).trans (f18 e)), (fun e => (eval_put_other' _ _ (by decide)).trans (f19 e)), (fun e => (eval_put_other' _ _ (by decide)).trans (f22 e)), d20_13, d21_20, d20_18, d21_19, d14_13, d15_13, d16_13⟩
    · have st0 := st
      have ev : a.eval (.tmp 8) = .int .i64 (ki : Nat) := ((show _ = a1.eval _ from by simp only [Act.eval, Array.getD_eq_getD_getElem?, so.out 8 (by decide)]).trans e8)
      refine o7.move ?_
      rw [ev]
      exact ⟨D, (so.put (by decide) _), st, (fun e => (eval_put_other' _ _ (by decide)).trans (f0 e)), (fun e => (eval_put_other' _ _ (by decide)).trans (f1 e)), (fun e => (eval_put_other' _ _ (by decide)).trans (f2 e)), (fun e => (eval_put_other' _ _ (by decide)).trans (f3 e)), (fun e => (eval_put_other' _ _ (by decide)).trans (f4 e)), (fun e => (eval_put_other' _ _ (by decide)).trans (f5 e)), (fun e => (eval_put_other' _ _ (by decide)).trans (f6 e)), (fun _ => eval_put_same' _ _ _ (by rw [so.size]; show (39 : Nat) < _; omega)), (fun e => (eval_put_other' _ _ (by decide)).trans (f8 e)), (fun e => (eval_put_other' _ _ (by decide)).trans (f9 e)), (fun e => (eval_put_other' _ _ (by decide)).trans (f10 e)), (fun e => (eval_put_other' _ _ (by decide)).trans (f11 e)), (fun e => (eval_put_other' _ _ (by decide)).trans (f12 e)), (fun e => (eval_put_other' _ _ (by decide)).trans (f13 e)), (fun e => (eval_put_other' _ _ (by decide)).trans (f14 e)), (fun e => (eval_put_other' _ _ (by decide)).trans (f15 e)), (fun e => (eval_put_other' _ _ (by decide)).trans (f16 e)), (fun e => (eval_put_other' _ _ (by decide)).trans (f17 e)), (fun e => (eval_put_other' _ _ (by decide)).trans (f18 e)), (fun e => (eval_put_other' _ _ (by decide)).trans (f19 e)), (fun e => (eval_put_other' _ _ (by decide)).trans (f22 e)), d20_13, d21_20, d20_18, d21_19, d14_13, d15_13, d16_13⟩
    · have st0 := st
      have ev : a.eval (.tmp 9) = .int .i64 (kk : Nat) := ((show _ = a1.eval _ from by simp only [Act.eval, Array.getD_eq_getD_getElem?, so.out 9 (by decide)]).trans e9)
      refine o8.move ?_
      rw [ev]
      exact ⟨D, (so.put (by decide) _), st, (fun e => (eval_put_other' _ _ (by decide)).trans (f0 e)), (fun e => (eval_put_other' _ _ (by decide)).trans (f1 e)), (fun e => (eval_put_other' _ _ (by decide)).trans (f2 e)), (fun e => (eval_put_other' _ _ (by decide)).trans (f3 e)), (fun e => (eval_put_other' _ _ (by decide)).trans (f4 e)), (fun e => (eval_put_other' _ _ (by decide)).trans (f5 e)), (fun e => (eval_put_other' _ _ (by decide)).trans (f6 e)), (fun e => (eval_put_other' _ _ (by decide)).trans (f7 e)), (fun _ => eval_put_same' _ _ _ (by rw [so.size]; show (40 : Nat) < _; omega)), (fun e => (eval_put_other' _ _ (by decide)).trans (f9 e)), (fun e => (eval_put_other' _ _ (by decide)).trans (f10 e)), (fun e => (eval_put_other' _ _ (by decide)).trans (f11 e)), (fun e => (eval_put_other' _ _ (by decide)).trans (f12 e)), (fun e => (eval_put_other' _ _ (by decide)).trans (f13 e)), (fun e => (eval_put_other' _ _ (by decide)).trans (f14 e)), (fun e => (eval_put_other' _ _ (by decide)).trans (f15 e)), (fun e => (eval_put_other' _ _ (by decide)).trans (f16 e)), (fun e => (eval_put_other' _ _ (by decide)).trans (f17 e)), (fun e => (eval_put_other' _ _ (by decide)).trans (f18 e)), (fun e => (eval_put_other' _ _ (by decide)).trans (f19 e)), (fun e => (eval_put_other' _ _ (by decide)).trans (f22 e)), d20_13, d21_20, d20_18, d21_19, d14_13, d15_13, d16_13⟩
    · have ws := o9.waits ho hwait
      have w7 := ws 7 (by simp)
      have w8 := ws 8 (by simp)
      have st0 := st
      refine o9.addI (f7 w7) (f8 w8) (by omega) ?_
      exact ⟨D, (so.put (by decide) _), st, (fun e => (eval_put_other' _ _ (by decide)).trans (f0 e)), (fun e => (eval_put_other' _ _ (by decide)).trans (f1 e)), (fun e => (eval_put_other' _ _ (by decide)).trans (f2 e)), (fun e => (eval_put_other' _ _ (by decide)).trans (f3 e)), (fun e => (eval_put_other' _ _ (by decide)).trans (f4 e)), (fun e => (eval_put_other' _ _ (by decide)).trans (f5 e)), (fun e => (eval_put_other' _ _ (by decide)).trans (f6 e)), (fun e => (eval_put_other' _ _ (by decide)).trans (f7 e)), (fun e => (eval_put_other' _ _ (by decide)).trans (f8 e)), (fun _ => eval_put_same' _ _ _ (by rw [so.size]; show (41 : Nat) < _; omega)), (fun e => (eval_put_other' _ _ (by decide)).trans (f10 e)), (fun e => (eval_put_other' _ _ (by decide)).trans (f11 e)), (fun e => (eval_put_other' _ _ (by decide)).trans (f12 e)), (fun e => (eval_put_other' _ _ (by decide)).trans (f13 e)), (fun e => (eval_put_other' _ _ (by decide)).trans (f14 e)), (fun e => (eval_put_other' _ _ (by decide)).trans (f15 e)), (fun e => (eval_put_other' _ _ (by decide)).trans (f16 e)), (fun e => (eval_put_other' _ _ (by decide)).trans (f17 e)), (fun e => (eval_put_other' _ _ (by decide)).trans (f18 e)), (fun e => (eval_put_other' _ _ (by decide)).trans (f19 e)), (fun e => (eval_put_other' _ _ (by decide)).trans (f22 e)), d20_13, d21_20, d20_18, d21_19, d14_13, d15_13, d16_13⟩
    · have ws := o10.waits ho hwait
      have w9 := ws 9 (by simp)
      have st0 := st
      refine o10.addC (f9 w9) (by omega) ?_
      exact ⟨D, (so.put (by decide) _), st, (fun e => (eval_put_other' _ _ (by decide)).trans (f0 e)), (fun e => (eval_put_other' _ _ (by decide)).trans (f1 e)), (fun e => (eval_put_other' _ _ (by decide)).trans (f2 e)), (fun e => (eval_put_other' _ _ (by decide)).trans (f3 e)), (fun e => (eval_put_other' _ _ (by decide)).trans (f4 e)), (fun e => (eval_put_other' _ _ (by decide)).trans (f5 e)), (fun e => (eval_put_other' _ _ (by decide)).trans (f6 e)), (fun e => (eval_put_other' _ _ (by decide)).trans (f7 e)), (fun e => (eval_put_other' _ _ (by decide)).trans (f8 e)), (fun e => (eval_put_other' _ _ (by decide)).trans (f9 e)), (fun _ => eval_put_same' _ _ _ (by rw [so.size]; show (42 : Nat) < _; omega)), (fun e => (eval_put_other' _ _ (by decide)).trans (f11 e)), (fun e => (eval_put_other' _ _ (by decide)).trans (f12 e)), (fun e => (eval_put_other' _ _ (by decide)).trans (f13 e)), (fun e => (eval_put_other' _ _ (by decide)).trans (f14 e)), (fun e => (eval_put_other' _ _ (by decide)).trans (f15 e)), (fun e => (eval_put_other' _ _ (by decide)).trans (f16 e)), (fun e => (eval_put_other' _ _ (by decide)).trans (f17 e)), (fun e => (eval_put_other' _ _ (by decide)).trans (f18 e)), (fun e => (eval_put_other' _ _ (by decide)).trans (f19 e)), (fun e => (eval_put_other' _ _ (by decide)).trans (f22 e)), d20_13, d21_20, d20_18, d21_19, d14_13, d15_13, d16_13⟩
    · have ws := o11.waits ho hwait
      have w6 := ws 6 (by simp)
      have w10 := ws 10 (by simp)
      have st0 := st
      refine o11.indexR (f6 w6) (f10 w10) (by omega) ?_
      exact ⟨D, (so.put (by decide) _), st, (fun e => (eval_put_other' _ _ (by decide)).trans (f0 e)), (fun e => (eval_put_other' _ _ (by decide)).trans (f1 e)), (fun e => (eval_put_other' _ _ (by decide)).trans (f2 e)), (fun e => (eval_put_other' _ _ (by decide)).trans (f3 e)), (fun e => (eval_put_other' _ _ (by decide)).trans (f4 e)), (fun e => (eval_put_other' _ _ (by decide)).trans (f5 e)), (fun e => (eval_put_other' _ _ (by decide)).trans (f6 e)), (fun e => (eval_put_other' _ _ (by decide)).trans (f7 e)), (fun e => (eval_put_other' _ _ (by decide)).trans (f8 e)), (fun e => (eval_put_other' _ _ (by decide)).trans (f9 e)), (fun e => (eval_put_other' _ _ (by decide)).trans (f10 e)), (fun _ => eval_put_same' _ _ _ (by rw [so.size]; show (43 : Nat) < _; omega)), (fun e => (eval_put_other' _ _ (by decide)).trans (f12 e)), (fun e => (eval_put_other' _ _ (by decide)).trans (f13 e)), (fun e => (eval_put_other' _ _ (by decide)).trans (f14 e)), (fun e => (eval_put_other' _ _ (by decide)).trans (f15 e)), (fun e => (eval_put_other' _ _ (by decide)).trans (f16 e)), (fun e => (eval_put_other' _ _ (by decide)).trans (f17 e)), (fun e => (eval_put_other' _ _ (by decide)).trans (f18 e)), (fun e => (eval_put_other' _ _ (by decide)).trans (f19 e)), (fun e => (eval_put_other' _ _ (by decide)).trans (f22 e)), d20_13, d21_20, d20_18, d21_19, d14_13, d15_13, d16_13⟩
    · have ws := o12.waits ho hwait
      have w11 := ws 11 (by simp)
      have st0 := st
      have hl0 : Later wx w := st.later
      refine o12.loadR (f11 w11) (hrow.later hl0) hy ?_
      exact ⟨D, (so.put (by decide) _), st, (fun e => (eval_put_other' _ _ (by decide)).trans (f0 e)), (fun e => (eval_put_other' _ _ (by decide)).trans (f1 e)), (fun e => (eval_put_other' _ _ (by decide)).trans (f2 e)), (fun e => (eval_put_other' _ _ (by decide)).trans (f3 e)), (fun e => (eval_put_other' _ _ (by decide)).trans (f4 e)), (fun e => (eval_put_other' _ _ (by decide)).trans (f5 e)), (fun e => (eval_put_other' _ _ (by decide)).trans (f6 e)), (fun e => (eval_put_other' _ _ (by decide)).trans (f7 e)), (fun e => (eval_put_other' _ _ (by decide)).trans (f8 e)), (fun e => (eval_put_other' _ _ (by decide)).trans (f9 e)), (fun e => (eval_put_other' _ _ (by decide)).trans (f10 e)), (fun e => (eval_put_other' _ _ (by decide)).trans (f11 e)), (fun _ => eval_put_same' _ _ _ (by rw [so.size]; show (44 : Nat) < _; omega)), (fun e => (eval_put_other' _ _ (by decide)).trans (f13 e)), (fun e => (eval_put_other' _ _ (by decide)).trans (f14 e)), (fun e => (eval_put_other' _ _ (by decide)).trans (f15 e)), (fun e => (eval_put_other' _ _ (by decide)).trans (f16 e)), (fun e => (eval_put_other' _ _ (by decide)).trans (f17 e)), (fun e => (eval_put_other' _ _ (by decide)).trans (f18 e)), (fun e => (eval_put_other' _ _ (by decide)).trans (f19 e)), (fun e => (eval_put_other' _ _ (by decide)).trans (f22 e)), d20_13, d21_20, d20_18, d21_19, d14_13, d15_13, d16_13⟩
    · have ws := o13.waits ho hwait
      have w5 := ws 5 (by simp)
      have w12 := ws 12 (by simp)
      have n20 : l 20 = false := by cases hx : l 20 with | false => rfl | true => have := d20_13 hx; rw [hl] at this; cases this
      have n21 : l 21 = false := by cases hx : l 21 with | false => rfl | true => have := d21_20 hx; rw [n20] at this; cases this
      have n14 : l 14 = false := by cases hx : l 14 with | false => rfl | true => have := d14_13 hx; rw [hl] at this; cases this
      have n15 : l 15 = false := by cases hx : l 15 with | false => rfl | true => have := d15_13 hx; rw [hl] at this; cases this
      have n16 : l 16 = false := by cases hx : l 16 with | false => rfl | true => have := d16_13 hx; rw [hl] at this; cases this
      have st0 : RfT wx g x y r (l 18) (l 19) 0 D w := by
        have hst := st
        simp only [hl, n20, n21, Bool.false_eq_true, if_false] at hst
        exact hst
      refine o13.call2 (enters_of Tryz.func51 (by kernel_rfl) rfl) (f5 w5) (f12 w12) (by have := refSwap_w x y w (okx.later st0.later) (oky.later st0.later); rw [hsw] at this; exact this) ?_
      rintro e w' ⟨c, d, rfl, hc, hd, hcd, hl'⟩
      obtain ⟨hco, hdo⟩ := hcd wx okx oky
      obtain ⟨hca, hda⟩ := away_of_w okx oky awx awy hcd hglt
      have st1 := st0.swap hl' hc hd hco hdo ⟨hca, fun w0 a b => (hcd w0 a b).1⟩ ⟨hda, fun w0 a b => (hcd w0 a b).2⟩
      have st2 : RfT wx g x y r ((more l 13) 18) ((more l 13) 19) (if (more l 13) 21 = true then 3 else (if (more l 13) 20 = true then 2 else (if (more l 13) 13 = true then 1 else 0))) ({ D with c := c, d := d }) w' := by
        rw [if_neg (show ¬ (more l 13 21 = true) from by rw [show more l 13 21 = l 21 from rfl, n21]; simp), if_neg (show ¬ (more l 13 20 = true) from by rw [show more l 13 20 = l 20 from rfl, n20]; simp), if_pos (show more l 13 13 = true from rfl)]
        exact st1
      exact ⟨_, rfl, ⟨{ D with c := c, d := d }, (so.put (by decide) _), st2, (fun e => (eval_put_other' _ _ (by decide)).trans (f0 e)), (fun e => (eval_put_other' _ _ (by decide)).trans (f1 e)), (fun e => (eval_put_other' _ _ (by decide)).trans (f2 e)), (fun e => (eval_put_other' _ _ (by decide)).trans (f3 e)), (fun e => (eval_put_other' _ _ (by decide)).trans (f4 e)), (fun e => (eval_put_other' _ _ (by decide)).trans (f5 e)), (fun e => (eval_put_other' _ _ (by decide)).trans (f6 e)), (fun e => (eval_put_other' _ _ (by decide)).trans (f7 e)), (fun e => (eval_put_other' _ _ (by decide)).trans (f8 e)), (fun e => (eval_put_other' _ _ (by decide)).trans (f9 e)), (fun e => (eval_put_other' _ _ (by decide)).trans (f10 e)), (fun e => (eval_put_other' _ _ (by decide)).trans (f11 e)), (fun e => (eval_put_other' _ _ (by decide)).trans (f12 e)), (fun _ => eval_put_same' _ _ _ (by rw [so.size]; show (45 : Nat) < _; omega)), (fun e => by rw [show more l 13 14 = l 14 from rfl, n14] at e; cases e), (fun e => by rw [show more l 13 15 = l 15 from rfl, n15] at e; cases e), (fun e => by rw [show more l 13 16 = l 16 from rfl, n16] at e; cases e), (fun e => (eval_put_other' _ _ (by decide)).trans (f17 e)), (fun e => (eval_put_other' _ _ (by decide)).trans (f18 e)), (fun e => (eval_put_other' _ _ (by decide)).trans (f19 e)), (fun e => (eval_put_other' _ _ (by decide)).trans (f22 e)), (fun _ => rfl), d21_20, d20_18, d21_19, (fun _ => rfl), (fun _ => rfl), (fun _ => rfl)⟩⟩
    · have ws := o14.waits ho hwait
      have w13 := ws 13 (by simp)
      have st0 := st
      refine o14.move ?_
      rw [f13 w13]
      exact ⟨D, (so.put (by decide) _), st, (fun e => (eval_put_other' _ _ (by decide)).trans (f0 e)), (fun e => (eval_put_other' _ _ (by decide)).trans (f1 e)), (fun e => (eval_put_other' _ _ (by decide)).trans (f2 e)), (fun e => (eval_put_other' _ _ (by decide)).trans (f3 e)), (fun e => (eval_put_other' _ _ (by decide)).trans (f4 e)), (fun e => (eval_put_other' _ _ (by decide)).trans (f5 e)), (fun e => (eval_put_other' _ _ (by decide)).trans (f6 e)), (fun e => (eval_put_other' _ _ (by decide)).trans (f7 e)), (fun e => (eval_put_other' _ _ (by decide)).trans (f8 e)), (fun e => (eval_put_other' _ _ (by decide)).trans (f9 e)), (fun e => (eval_put_other' _ _ (by decide)).trans (f10 e)), (fun e => (eval_put_other' _ _ (by decide)).trans (f11 e)), (fun e => (eval_put_other' _ _ (by decide)).trans (f12 e)), (fun e => (eval_put_other' _ _ (by decide)).trans (f13 e)), (fun _ => eval_put_same' _ _ _ (by rw [so.size]; show (31 : Nat) < _; omega)), (fun e => (eval_put_other' _ _ (by decide)).trans (f15 e)), (fun e => (eval_put_other' _ _ (by decide)).trans (f16 e)), (fun e => (eval_put_other' _ _ (by decide)).trans (f17 e)), (fun e => (eval_put_other' _ _ (by decide)).trans (f18 e)), (fun e => (eval_put_other' _ _ (by decide)).trans (f19 e)), (fun e => (eval_put_other' _ _ (by decide)).trans (f22 e)), d20_13, d21_20, d20_18, d21_19, (fun _ => w13), d15_13, d16_13⟩
    · have ws := o15.waits ho hwait
      have w14 := ws 14 (by simp)
      have w13 := d14_13 w14
      have st0 := st
      refine o15.extract (f14 w14) rfl ?_
      exact ⟨D, (so.put (by decide) _), st, (fun e => (eval_put_other' _ _ (by decide)).trans (f0 e)), (fun e => (eval_put_other' _ _ (by decide)).trans (f1 e)), (fun e => (eval_put_other' _ _ (by decide)).trans (f2 e)), (fun e => (eval_put_other' _ _ (by decide)).trans (f3 e)), (fun e => (eval_put_other' _ _ (by decide)).trans (f4 e)), (fun e => (eval_put_other' _ _ (by decide)).trans (f5 e)), (fun e => (eval_put_other' _ _ (by decide)).trans (f6 e)), (fun e => (eval_put_other' _ _ (by decide)).trans (f7 e)), (fun e => (eval_put_other' _ _ (by decide)).trans (f8 e)), (fun e => (eval_put_other' _ _ (by decide)).trans (f9 e)), (fun e => (eval_put_other' _ _ (by decide)).trans (f10 e)), (fun e => (eval_put_other' _ _ (by decide)).trans (f11 e)), (fun e => (eval_put_other' _ _ (by decide)).trans (f12 e)), (fun e => (eval_put_other' _ _ (by decide)).trans (f13 e)), (fun e => (eval_put_other' _ _ (by decide)).trans (f14 e)), (fun _ => eval_put_same' _ _ _ (by rw [so.size]; show (46 : Nat) < _; omega)), (fun e => (eval_put_other' _ _ (by decide)).trans (f16 e)), (fun e => (eval_put_other' _ _ (by decide)).trans (f17 e)), (fun e => (eval_put_other' _ _ (by decide)).trans (f18 e)), (fun e => (eval_put_other' _ _ (by decide)).trans (f19 e)), (fun e => (eval_put_other' _ _ (by decide)).trans (f22 e)), d20_13, d21_20, d20_18, d21_19, d14_13, (fun _ => w13), d16_13⟩
    · have ws := o16.waits ho hwait
      have w14 := ws 14 (by simp)
      have w13 := d14_13 w14
      have st0 := st
      refine o16.extract (f14 w14) rfl ?_
      exact ⟨D, (so.put (by decide) _), st, (fun e => (eval_put_other' _ _ (by decide)).trans (f0 e)), (fun e => (eval_put_other' _ _ (by decide)).trans (f1 e)), (fun e => (eval_put_other' _ _ (by decide)).trans (f2 e)), (fun e => (eval_put_other' _ _ (by decide)).trans (f3 e)), (fun e => (eval_put_other' _ _ (by decide)).trans (f4 e)), (fun e => (eval_put_other' _ _ (by decide)).trans (f5 e)), (fun e => (eval_put_other' _ _ (by decide)).trans (f6 e)), (fun e => (eval_put_other' _ _ (by decide)).trans (f7 e)), (fun e => (eval_put_other' _ _ (by decide)).trans (f8 e)), (fun e => (eval_put_other' _ _ (by decide)).trans (f9 e)), (fun e => (eval_put_other' _ _ (by decide)).trans (f10 e)), (fun e => (eval_put_other' _ _ (by decide)).trans (f11 e)), (fun e => (eval_put_other' _ _ (by decide)).trans (f12 e)), (fun e => (eval_put_other' _ _ (by decide)).trans (f13 e)), (fun e => (eval_put_other' _ _ (by decide)).trans (f14 e)), (fun e => (eval_put_other' _ _ (by decide)).trans (f15 e)), (fun _ => eval_put_same' _ _ _ (by rw [so.size]; show (47 : Nat) < _; omega)), (fun e => (eval_put_other' _ _ (by decide)).trans (f17 e)), (fun e => (eval_put_other' _ _ (by decide)).trans (f18 e)), (fun e => (eval_put_other' _ _ (by decide)).trans (f19 e)), (fun e => (eval_put_other' _ _ (by decide)).trans (f22 e)), d20_13, d21_20, d20_18, d21_19, d14_13, d15_13, (fun _ => w13)⟩
    · have ws := o17.waits ho hwait
      have w14 := ws 14 (by simp)
      have w13 := d14_13 w14
      have st0 := st
      refine o17.extract (f14 w14) rfl ?_
      exact ⟨D, (so.put (by decide) _), st, (fun e => (eval_put_other' _ _ (by decide)).trans (f0 e)), (fun e => (eval_put_other' _ _ (by decide)).trans (f1 e)), (fun e => (eval_put_other' _ _ (by decide)).trans (f2 e)), (fun e => (eval_put_other' _ _ (by decide)).trans (f3 e)), (fun e => (eval_put_other' _ _ (by decide)).trans (f4 e)), (fun e => (eval_put_other' _ _ (by decide)).trans (f5 e)), (fun e => (eval_put_other' _ _ (by decide)).trans (f6 e)), (fun e => (eval_put_other' _ _ (by decide)).trans (f7 e)), (fun e => (eval_put_other' _ _ (by decide)).trans (f8 e)), (fun e => (eval_put_other' _ _ (by decide)).trans (f9 e)), (fun e => (eval_put_other' _ _ (by decide)).trans (f10 e)), (fun e => (eval_put_other' _ _ (by decide)).trans (f11 e)), (fun e => (eval_put_other' _ _ (by decide)).trans (f12 e)), (fun e => (eval_put_other' _ _ (by decide)).trans (f13 e)), (fun e => (eval_put_other' _ _ (by decide)).trans (f14 e)), (fun e => (eval_put_other' _ _ (by decide)).trans (f15 e)), (fun e => (eval_put_other' _ _ (by decide)).trans (f16 e)), (fun _ => eval_put_same' _ _ _ (by rw [so.size]; show (48 : Nat) < _; omega)), (fun e => (eval_put_other' _ _ (by decide)).trans (f18 e)), (fun e => (eval_put_other' _ _ (by decide)).trans (f19 e)), (fun e => (eval_put_other' _ _ (by decide)).trans (f22 e)), d20_13, d21_20, d20_18, d21_19, d14_13, d15_13, d16_13⟩
    · have n20 : l 20 = false := by cases hx : l 20 with | false => rfl | true => have := d20_18 hx; rw [hl] at this; cases this
      have n21 : l 21 = false := by cases hx : l 21 with | false => rfl | true => have := d21_20 hx; rw [n20] at this; cases this
      have st0 := st
      refine o18.allocR ?_
      have st1 := RfT.alloc8 (by rw [hl] at st0; exact st0) (by
        simp only [n20, n21, Bool.false_eq_true, if_false]
        split <;> omega)
      have st2 : RfT wx g x y r ((more l 18) 18) ((more l 18) 19) (if (more l 18) 21 = true then 3 else (if (more l 18) 20 = true then 2 else (if (more l 18) 13 = true then 1 else 0))) ({ D with g8 := w.heap.size }) (w.alloc (.cells zeroL 89)) := st1
      exact ⟨{ D with g8 := w.heap.size }, (so.put (by decide) _), st2, (fun e => (eval_put_other' _ _ (by decide)).trans (f0 e)), (fun e => (eval_put_other' _ _ (by decide)).trans (f1 e)), (fun e => (eval_put_other' _ _ (by decide)).trans (f2 e)), (fun e => (eval_put_other' _ _ (by decide)).trans (f3 e)), (fun e => (eval_put_other' _ _ (by decide)).trans (f4 e)), (fun e => (eval_put_other' _ _ (by decide)).trans (f5 e)), (fun e => (eval_put_other' _ _ (by decide)).trans (f6 e)), (fun e => (eval_put_other' _ _ (by decide)).trans (f7 e)), (fun e => (eval_put_other' _ _ (by decide)).trans (f8 e)), (fun e => (eval_put_other' _ _ (by decide)).trans (f9 e)), (fun e => (eval_put_other' _ _ (by decide)).trans (f10 e)), (fun e => (eval_put_other' _ _ (by decide)).trans (f11 e)), (fun e => (eval_put_other' _ _ (by decide)).trans (f12 e)), (fun e => (eval_put_other' _ _ (by decide)).trans (f13 e)), (fun e => (eval_put_other' _ _ (by decide)).trans (f14 e)), (fun e => (eval_put_other' _ _ (by decide)).trans (f15 e)), (fun e => (eval_put_other' _ _ (by decide)).trans (f16 e)), (fun e => (eval_put_other' _ _ (by decide)).trans (f17 e)), (fun _ => eval_put_same' _ _ _ (by rw [so.size]; show (10 : Nat) < _; omega)), (fun e => (eval_put_other' _ _ (by decide)).trans (f19 e)), (fun e => (eval_put_other' _ _ (by decide)).trans (f22 e)), d20_13, d21_20, (fun _ => rfl), d21_19, d14_13, d15_13, d16_13⟩
    · have n21 : l 21 = false := by cases hx : l 21 with | false => rfl | true => have := d21_19 hx; rw [hl] at this; cases this
      have st0 := st
      refine o19.allocR ?_
      have st1 := RfT.alloc9 (by rw [hl] at st0; exact st0) (by
        simp only [n21, Bool.false_eq_true, if_false]
        split
        · omega
        · split <;> omega)
      have st2 : RfT wx g x y r ((more l 19) 18) ((more l 19) 19) (if (more l 19) 21 = true then 3 else (if (more l 19) 20 = true then 2 else (if (more l 19) 13 = true then 1 else 0))) ({ D with g9 := w.heap.size }) (w.alloc (.cells zeroL 89)) := st1
      exact ⟨{ D with g9 := w.heap.size }, (so.put (by decide) _), st2, (fun e => (eval_put_other' _ _ (by decide)).trans (f0 e)), (fun e => (eval_put_other' _ _ (by decide)).trans (f1 e)), (fun e => (eval_put_other' _ _ (by decide)).trans (f2 e)), (fun e => (eval_put_other' _ _ (by decide)).trans (f3 e)), (fun e => (eval_put_other' _ _ (by decide)).trans (f4 e)), (fun e => (eval_put_other' _ _ (by decide)).trans (f5 e)), (fun e => (eval_put_other' _ _ (by decide)).trans (f6 e)), (fun e => (eval_put_other' _ _ (by decide)).trans (f7 e)), (fun e => (eval_put_other' _ _ (by decide)).trans (f8 e)), (fun e => (eval_put_other' _ _ (by decide)).trans (f9 e)), (fun e => (eval_put_other' _ _ (by decide)).trans (f10 e)), (fun e => (eval_put_other' _ _ (by decide)).trans (f11 e)), (fun e => (eval_put_other' _ _ (by decide)).trans (f12 e)), (fun e => (eval_put_other' _ _ (by decide)).trans (f13 e)), (fun e => (eval_put_other' _ _ (by decide)).trans (f14 e)), (fun e => (eval_put_other' _ _ (by decide)).trans (f15 e)), (fun e => (eval_put_other' _ _ (by decide)).trans (f16 e)), (fun e => (eval_put_other' _ _ (by decide)).trans (f17 e)), (fun e => (eval_put_other' _ _ (by decide)).trans (f18 e)), (fun _ => eval_put_same' _ _ _ (by rw [so.size]; show (11 : Nat) < _; omega)), (fun e => (eval_put_other' _ _ (by decide)).trans (f22 e)), d20_13, d21_20, d20_18, (fun _ => rfl), d14_13, d15_13, d16_13⟩
    · have ws := o20.waits ho hwait
      have w18 := ws 18 (by simp)
      have w15 := ws 15 (by simp)
      have w13 := ws 13 (by simp)
      have w19 := ws 19 (by simp)
      have n21 : l 21 = false := by cases hx : l 21 with | false => rfl | true => have := d21_20 hx; rw [hl] at this; cases this
      have st0 : RfT wx g x y r true true 1 D w := by
        have hst := st
        rw [w18] at hst
        rw [w19] at hst
        simp only [hl, n21, Bool.false_eq_true, if_false, if_true, w13] at hst
        exact hst
      obtain ⟨_, cs, hcs, hbx, _⟩ := st0.b8 rfl
      refine o20.storeR (f18 w18) (f15 w15) hbx hcs ?_
      intro w' hb' ht'
      have st1 := st0.st8 hb' ht'
      have st2 : RfT wx g x y r ((more l 20) 18) ((more l 20) 19) (if (more l 20) 21 = true then 3 else (if (more l 20) 20 = true then 2 else (if (more l 20) 13 = true then 1 else 0))) (D) w' := by
        rw [show more l 20 18 = true from w18, show more l 20 19 = true from w19, if_neg (show ¬ (more l 20 21 = true) from by rw [show more l 20 21 = l 21 from rfl, n21]; simp), if_pos (show more l 20 20 = true from rfl)]
        exact st1
      exact ⟨D, so, st2, f0, f1, f2, f3, f4, f5, f6, f7, f8, f9, f10, f11, f12, f13, f14, f15, f16, f17, f18, f19, f22, (fun _ => w13), (fun _ => rfl), (fun _ => w18), d21_19, d14_13, d15_13, d16_13⟩
    · have ws := o21.waits ho hwait
      have w19 := ws 19 (by simp)
      have w16 := ws 16 (by simp)
      have w20 := ws 20 (by simp)
      have w18 := ws 18 (by simp)
      have w13 := d20_13 w20
      have st0 : RfT wx g x y r true true 2 D w := by
        have hst := st
        rw [w18] at hst
        rw [w19] at hst
        simp only [hl, Bool.false_eq_true, if_false, if_true, w20] at hst
        exact hst
      obtain ⟨_, cs, hcs, hbx, _⟩ := st0.b9 rfl
      refine o21.storeR (f19 w19) (f16 w16) hbx hcs ?_
      intro w' hb' ht'
      have st1 := st0.st9 hb' ht'
      have st2 : RfT wx g x y r ((more l 21) 18) ((more l 21) 19) (if (more l 21) 21 = true then 3 else (if (more l 21) 20 = true then 2 else (if (more l 21) 13 = true then 1 else 0))) (D) w' := by
        rw [show more l 21 18 = true from w18, show more l 21 19 = true from w19, if_pos (show more l 21 21 = true from rfl)]
        exact st1
      exact ⟨D, so, st2, f0, f1, f2, f3, f4, f5, f6, f7, f8, f9, f10, f11, f12, f13, f14, f15, f16, f17, f18, f19, f22, d20_13, (fun _ => w20), d20_18, (fun _ => w19), d14_13, d15_13, d16_13⟩
    · have ws := o22.waits ho hwait
      have w17 := ws 17 (by simp)
      have st0 := st
      refine o22.assign ?_
      rw [f17 w17]
      exact ⟨D, (so.put (by decide) _), st, (fun e => (eval_put_other' _ _ (by decide)).trans (f0 e)), (fun e => (eval_put_other' _ _ (by decide)).trans (f1 e)), (fun e => (eval_put_other' _ _ (by decide)).trans (f2 e)), (fun e => (eval_put_other' _ _ (by decide)).trans (f3 e)), (fun e => (eval_put_other' _ _ (by decide)).trans (f4 e)), (fun e => (eval_put_other' _ _ (by decide)).trans (f5 e)), (fun e => (eval_put_other' _ _ (by decide)).trans (f6 e)), (fun e => (eval_put_other' _ _ (by decide)).trans (f7 e)), (fun e => (eval_put_other' _ _ (by decide)).trans (f8 e)), (fun e => (eval_put_other' _ _ (by decide)).trans (f9 e)), (fun e => (eval_put_other' _ _ (by decide)).trans (f10 e)), (fun e => (eval_put_other' _ _ (by decide)).trans (f11 e)), (fun e => (eval_put_other' _ _ (by decide)).trans (f12 e)), (fun e => (eval_put_other' _ _ (by decide)).trans (f13 e)), (fun e => (eval_put_other' _ _ (by decide)).trans (f14 e)), (fun e => (eval_put_other' _ _ (by decide)).trans (f15 e)), (fun e => (eval_put_other' _ _ (by decide)).trans (f16 e)), (fun e => (eval_put_other' _ _ (by decide)).trans (f17 e)), (fun e => (eval_put_other' _ _ (by decide)).trans (f18 e)), (fun e => (eval_put_other' _ _ (by decide)).trans (f19 e)), (fun _ => eval_put_same' _ _ _ (by rw [so.size]; show (12 : Nat) < _; omega)), d20_13, d21_20, d20_18, d21_19, d14_13, d15_13, d16_13⟩
  · intro l a w hall ⟨D, so, st, f0, f1, f2, f3, f4, f5, f6, f7, f8, f9, f10, f11, f12, f13, f14, f15, f16, f17, f18, f19, f22, d20_13, d21_20, d20_18, d21_19, d14_13, d15_13, d16_13⟩
    rw [hn] at hall
    have hst : RfT wx g x y r true true 3 D w := by
      have hst := st
      rw [hall 18 (by decide)] at hst
      rw [hall 19 (by decide)] at hst
      simp only [hall 21 (by decide), if_true] at hst
      exact hst
    exact hend D a w so (f18 (hall 18 (by decide))) (f19 (hall 19 (by decide))) (f22 (hall 22 (by decide))) hst
  · have h0 : RfT wx g x y r false false 0 ⟨zeroC, zeroC, 0, 0⟩ { wx with drawn := wx.drawn + 1 } := ⟨(Later.refl wx).drew, (fun e => by omega), (fun e => by cases e), (fun e => by cases e), (fun e => by cases e)⟩
    exact ⟨⟨zeroC, zeroC, 0, 0⟩, SameOut.refl _ _, h0, (fun e => by cases e), (fun e => by cases e), (fun e => by cases e), (fun e => by cases e), (fun e => by cases e), (fun e => by cases e), (fun e => by cases e), (fun e => by cases e), (fun e => by cases e), (fun e => by cases e), (fun e => by cases e), (fun e => by cases e), (fun e => by cases e), (fun e => by cases e), (fun e => by cases e), (fun e => by cases e), (fun e => by cases e), (fun e => by cases e), (fun e => by cases e), (fun e => by cases e), (fun e => by cases e), (fun e => by cases e), (fun e => by cases e), (fun e => by cases e), (fun e => by cases e), (fun e => by cases e), (fun e => by cases e), (fun e => by cases e)⟩

end Go.Proofs.YtlnjhimbgckdcaaGreat
