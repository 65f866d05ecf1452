import Derived.Test.YtbhnbkcokhfopaaPk18
import Derived.Test.YtbhnbkcokhfopaaPk9
import Derived.Test.YtbhnbkcokhfopaaPk19
import Derived.Test.YtbhnbkcokhfopaaPk11

/-
  DiffApart: the statement that swaps two hunks, in whatever order its operations come.
-/
namespace Go.Proofs.Ytbhnbkcokhfopaa
open Go.RowKit Go.Maps

structure ApD where
  c : PrC
  d : PrC
  g8 : Nat
  g9 : Nat
/-- What stands: b, b': the two blocks are made; s: both are swapped, the first is kept, the second is kept. -/
structure ApS (wx : World) (r : Pr × Pr × Bool) (b b' : Bool) (s : Nat) (D : ApD) (V : World) : Prop where
  later : Later wx V
  sw : 1 ≤ s → D.c.v = r.1 ∧ D.d.v = r.2.1 ∧ PrOk V D.c ∧ PrOk V D.d
  b8 : b = true → wx.heap.size ≤ D.g8 ∧ (1 ≤ s → Away D.g8 D.c ∧ Away D.g8 D.d) ∧ ∃ cs, cs.size = 6 ∧ BoxAt V D.g8 cs 51 ∧ (2 ≤ s → cs = (prL D.c).toArray)
  b9 : b' = true → wx.heap.size ≤ D.g9 ∧ (1 ≤ s → Away D.g9 D.c ∧ Away D.g9 D.d) ∧ ∃ cs, cs.size = 6 ∧ BoxAt V D.g9 cs 51 ∧ (3 ≤ s → cs = (prL D.d).toArray)
  ne : b = true → b' = true → D.g8 ≠ D.g9
section
variable {wx V V' : World} {r : Pr × Pr × Bool} {b b' : Bool} {s : Nat} {D : ApD}
theorem ApS.swap (h : ApS wx r b b' 0 D V) (hl : Later V V') {c d : PrC} (h1 : c.v = r.1) (h2 : d.v = r.2.1) (h3 : PrOk V' c) (h4 : PrOk V' d) (h5 : Fresh V c) (h6 : Fresh V d) : ApS wx r b b' 1 { D with c := c, d := d } V' :=
  ⟨h.later.trans hl, fun _ => ⟨h1, h2, h3, h4⟩, (fun e => by obtain ⟨q1, _, cs, q2, q3, _⟩ := h.b8 e; exact ⟨q1, fun _ => ⟨h5.away q3.lt, h6.away q3.lt⟩, cs, q2, q3.later hl, fun e => by omega⟩), (fun e => by obtain ⟨q1, _, cs, q2, q3, _⟩ := h.b9 e; exact ⟨q1, fun _ => ⟨h5.away q3.lt, h6.away q3.lt⟩, cs, q2, q3.later hl, fun e => by omega⟩), h.ne⟩
theorem ApS.alloc8 (h : ApS wx r false b' s D V) (hs : s ≤ 1) : ApS wx r true b' s { D with g8 := V.heap.size } (V.alloc (.cells zeroL 51)) :=
  ⟨h.later.alloc _, (fun e => by obtain ⟨q1, q2, q3, q4⟩ := h.sw e; exact ⟨q1, q2, q3.later ((Later.refl V).alloc _), q4.later ((Later.refl V).alloc _)⟩), (fun _ => ⟨h.later.le, (fun e => by obtain ⟨_, _, q3, q4⟩ := h.sw e; exact ⟨q3.away (Nat.le_refl _), q4.away (Nat.le_refl _)⟩), zeroL, rfl, BoxAt.made V zeroL 51, fun e => by omega⟩), (fun e => by obtain ⟨q1, q0, cs, q2, q3, q4⟩ := h.b9 e; exact ⟨q1, q0, cs, q2, q3.alloc _, q4⟩), fun _ e => by obtain ⟨_, _, _, _, q3, _⟩ := h.b9 e; have := q3.lt; show V.heap.size ≠ D.g9; omega⟩
theorem ApS.alloc9 (h : ApS wx r b false s D V) (hs : s ≤ 2) : ApS wx r b true s { D with g9 := V.heap.size } (V.alloc (.cells zeroL 51)) :=
  ⟨h.later.alloc _, (fun e => by obtain ⟨q1, q2, q3, q4⟩ := h.sw e; exact ⟨q1, q2, q3.later ((Later.refl V).alloc _), q4.later ((Later.refl V).alloc _)⟩), (fun e => by obtain ⟨q1, q0, cs, q2, q3, q4⟩ := h.b8 e; exact ⟨q1, q0, cs, q2, q3.alloc _, q4⟩), (fun _ => ⟨h.later.le, (fun e => by obtain ⟨_, _, q3, q4⟩ := h.sw e; exact ⟨q3.away (Nat.le_refl _), q4.away (Nat.le_refl _)⟩), zeroL, rfl, BoxAt.made V zeroL 51, fun e => by omega⟩), fun e _ => by obtain ⟨_, _, _, _, q3, _⟩ := h.b8 e; have := q3.lt; show D.g8 ≠ V.heap.size; omega⟩
theorem ApS.st8 (h : ApS wx r true true 1 D V) (hb : BoxAt V' D.g8 (prL D.c).toArray 51) (ht : Turned D.g8 V V') : ApS wx r true true 2 D V' :=
  ⟨h.later.turn ht (h.b8 rfl).1, (fun _ => by obtain ⟨q1, q2, q3, q4⟩ := h.sw (by omega); obtain ⟨a1, a2⟩ := (h.b8 rfl).2.1 (by omega); exact ⟨q1, q2, q3.off ht a1, q4.off ht a2⟩), (fun _ => ⟨(h.b8 rfl).1, fun _ => (h.b8 rfl).2.1 (by omega), _, rfl, hb, fun _ => rfl⟩), (fun _ => by obtain ⟨q1, q0, cs, q2, q3, q4⟩ := h.b9 rfl; exact ⟨q1, fun _ => q0 (by omega), cs, q2, q3.other ht (Ne.symm (h.ne rfl rfl)), fun e => by omega⟩), h.ne⟩
theorem ApS.st9 (h : ApS wx r true true 2 D V) (hb : BoxAt V' D.g9 (prL D.d).toArray 51) (ht : Turned D.g9 V V') : ApS wx r true true 3 D V' :=
  ⟨h.later.turn ht (h.b9 rfl).1, (fun _ => by obtain ⟨q1, q2, q3, q4⟩ := h.sw (by omega); obtain ⟨a1, a2⟩ := (h.b9 rfl).2.1 (by omega); exact ⟨q1, q2, q3.off ht a1, q4.off ht a2⟩), (fun _ => by obtain ⟨q1, q0, cs, q2, q3, q4⟩ := h.b8 rfl; exact ⟨q1, fun _ => q0 (by omega), cs, q2, q3.other ht (h.ne rfl rfl), fun _ => q4 (Nat.le_refl _)⟩), (fun _ => ⟨(h.b9 rfl).1, fun _ => (h.b9 rfl).2.1 (by omega), _, rfl, hb, fun _ => rfl⟩), h.ne⟩
end

set_option maxHeartbeats 1600000 in
theorem apart_region {ops : Array Oper} (hn : ops.size = 18) (hg : goesBack ops = true)
    (o0 : OpIs ops 0 (.move (.tmp 5)) (some 39) [])
    (o1 : OpIs ops 1 (.move (.tmp 7)) (some 40) [])
    (o2 : OpIs ops 2 (.indexAddr 33 (.tmp 39) (.tmp 40)) (some 41) [0, 1])
    (o3 : OpIs ops 3 (.load 51 (.tmp 41)) (some 42) [2])
    (o4 : OpIs ops 4 (.move (.tmp 5)) (some 43) [])
    (o5 : OpIs ops 5 (.move (.tmp 6)) (some 44) [])
    (o6 : OpIs ops 6 (.indexAddr 33 (.tmp 43) (.tmp 44)) (some 45) [4, 5])
    (o7 : OpIs ops 7 (.load 51 (.tmp 45)) (some 46) [6])
    (o8 : OpIs ops 8 (.call { callee := .value (.func 27), args := #[.tmp 42, .tmp 46], argTypes := #[51, 51] }) (some 47) [3, 7])
    (o9 : OpIs ops 9 (.move (.tmp 47)) (some 38) [8])
    (o10 : OpIs ops 10 (.extract (.tmp 38) 0) (some 48) [9])
    (o11 : OpIs ops 11 (.extract (.tmp 38) 1) (some 49) [9])
    (o12 : OpIs ops 12 (.extract (.tmp 38) 2) (some 50) [9])
    (o13 : OpIs ops 13 (.alloc 51) (some 8) [])
    (o14 : OpIs ops 14 (.alloc 51) (some 9) [])
    (o15 : OpIs ops 15 (.store 51 (.tmp 8) (.tmp 48)) none [13, 10, 8, 14])
    (o16 : OpIs ops 16 (.store 51 (.tmp 9) (.tmp 49)) none [14, 11, 15, 13])
    (o17 : OpIs ops 17 (.assign (.tmp 50)) (some 10) [12])
    {a1 : Act} (hs : 87 ≤ a1.tmps.size) {wx : World} {jj kk gq oq nn cc : Nat} {xs : List PrC} {x y : PrC} {r : Pr × Pr × Bool} (e5 : a1.eval (.tmp 5) = .slice (some ⟨gq, oq, none⟩) nn cc) (e6 : a1.eval (.tmp 6) = .int .i64 (kk : Nat)) (e7 : a1.eval (.tmp 7) = .int .i64 (jj : Nat)) (hrow : RowK 6 wx (some ⟨gq, oq, none⟩) nn (xs.map prL)) (hx : xs[jj]? = some x) (hy : xs[kk]? = some y) (hj : jj < nn) (hk : kk < nn) (okx : PrOk wx x) (oky : PrOk wx y) (hsw : swapR (swapP x.v y.v) = r)
    {Q : Exit → Act → World → Prop} {id : Nat} (hend : ∀ (D : ApD) (a : Act) (w : World), SameOut a1 a [39, 40, 41, 42, 43, 44, 45, 46, 47, 38, 48, 49, 50, 8, 9, 10] → a.eval (.tmp 8) = .pointer (some ⟨D.g8, 0, none⟩) → a.eval (.tmp 9) = .pointer (some ⟨D.g9, 0, none⟩) → a.eval (.tmp 10) = .bool r.2.2 → ApS wx r true true (3) D w → Q .normal a w) :
    (Code.region id ops true).wp Try.prog Q a1 wx := by
  refine region_inv (by kernel_rfl) hg (fun l a w => ∃ D : ApD, SameOut a1 a [39, 40, 41, 42, 43, 44, 45, 46, 47, 38, 48, 49, 50, 8, 9, 10] ∧ ApS wx r (l 13) (l 14) (if l 16 = true then 3 else (if l 15 = true then 2 else (if l 8 = true then 1 else 0))) D w ∧ (l 0 = true → a.eval (.tmp 39) = .slice (some ⟨gq, oq, none⟩) nn cc) ∧ (l 1 = true → a.eval (.tmp 40) = .int .i64 (jj : Nat)) ∧ (l 2 = true → a.eval (.tmp 41) = .pointer (some ⟨gq, oq + jj * 6, none⟩)) ∧ (l 3 = true → a.eval (.tmp 42) = prV x) ∧ (l 4 = true → a.eval (.tmp 43) = .slice (some ⟨gq, oq, none⟩) nn cc) ∧ (l 5 = true → a.eval (.tmp 44) = .int .i64 (kk : Nat)) ∧ (l 6 = true → a.eval (.tmp 45) = .pointer (some ⟨gq, oq + kk * 6, none⟩)) ∧ (l 7 = true → a.eval (.tmp 46) = prV y) ∧ (l 8 = true → a.eval (.tmp 47) = .tuple #[prV D.c, prV D.d, .bool r.2.2]) ∧ (l 9 = true → a.eval (.tmp 38) = .tuple #[prV D.c, prV D.d, .bool r.2.2]) ∧ (l 10 = true → a.eval (.tmp 48) = prV D.c) ∧ (l 11 = true → a.eval (.tmp 49) = prV D.d) ∧ (l 12 = true → a.eval (.tmp 50) = .bool r.2.2) ∧ (l 13 = true → a.eval (.tmp 8) = .pointer (some ⟨D.g8, 0, none⟩)) ∧ (l 14 = true → a.eval (.tmp 9) = .pointer (some ⟨D.g9, 0, none⟩)) ∧ (l 17 = true → a.eval (.tmp 10) = .bool r.2.2) ∧ (l 15 = true → l 8 = true) ∧ (l 16 = true → l 15 = true) ∧ (l 15 = true → l 13 = true) ∧ (l 16 = true → l 14 = true) ∧ (l 9 = true → l 8 = true) ∧ (l 10 = true → l 8 = true) ∧ (l 11 = true → l 8 = true)) ?_ ?_ ?_
  · intro l a w i o ho hl hwait ⟨D, so, st, f0, f1, f2, f3, f4, f5, f6, f7, f8, f9, f10, f11, f12, f13, f14, f17, d15_8, d16_15, d15_13, d16_14, d9_8, d10_8, d11_8⟩
    have hi : i < 18 := by rw [← hn]; exact (Array.getElem?_eq_some_iff.1 ho).1
    have hc : i = 0 ∨ i = 1 ∨ i = 2 ∨ i = 3 ∨ i = 4 ∨ i = 5 ∨ i = 6 ∨ i = 7 ∨ i = 8 ∨ i = 9 ∨ i = 10 ∨ i = 11 ∨ i = 12 ∨ i = 13 ∨ i = 14 ∨ i = 15 ∨ i = 16 ∨ i = 17 := by omega
    rcases hc with rfl | rfl | rfl | rfl | rfl | rfl | rfl | rfl | rfl | rfl | rfl | rfl | rfl | rfl | rfl | rfl | rfl | rfl
    · have st0 := st
      have ev : a.eval (.tmp 5) = .slice (some ⟨gq, oq, none⟩) nn cc := ((show _ = a1.eval _ from by simp only [Act.eval, Array.getD_eq_getD_getElem?, so.out 5 (by decide)]).trans e5)
      refine o0.move ?_
      rw [ev]
      exact ⟨D, (so.put (by decide) _), st, (fun _ => eval_put_same' _ _ _ (by rw [so.size]; show (39 : Nat) < _; omega)), (fun e => (eval_put_other' _ _ (by decide)).trans (f1 e)), (fun e => (eval_put_other' _ _ (by decide)).trans (f2 e)), (fun e => (eval_put_other' _ _ (by decide)).trans (f3 e)), (fun e => (eval_put_other' _ _ (by decide)).trans (f4 e)), (fun e => (eval_put_other' _ _ (by decide)).trans (f5 e)), (fun e => (eval_put_other' _ _ (by decide)).trans (f6 e)), (fun e => (eval_put_other' _ _ (by decide)).trans (f7 e)), (fun e => (eval_put_other' _ _ (by decide)).trans (f8 e)), (fun e => (eval_put_other' _ _ (by decide)).trans (f9 e)), (fun e => (eval_put_other' _ _ (by decide)).trans (f10 e)), (fun e => (eval_put_other' _ _ (by decide)).trans (f11 e)), (fun e => (eval_put_other' _ _ (by decide)).trans (f12 e)), (fun e => (eval_put_other' _ _ (by decide)).trans (f13 e)), (fun e => (eval_put_other' _ _ (by decide)).trans (f14 e)), (fun e => (eval_put_other' _ _ (by decide)).trans (f17 e)), d15_8, d16_15, d15_13, d16_14, d9_8, d10_8, d11_8⟩
    · have st0 := st
      have ev : a.eval (.tmp 7) = .int .i64 (jj : Nat) := ((show _ = a1.eval _ from by simp only [Act.eval, Array.getD_eq_getD_getElem?, so.out 7 (by decide)]).trans e7)
      refine o1.move ?_
      rw [ev]
      exact ⟨D, (so.put (by decide) _), st, (fun e => (eval_put_other' _ _ (by decide)).trans (f0 e)), (fun _ => eval_put_same' _ _ _ (by rw [so.size]; show (40 : Nat) < _; omega)), (fun e => (eval_put_other' _ _ (by decide)).trans (f2 e)), (fun e => (eval_put_other' _ _ (by decide)).trans (f3 e)), (fun e => (eval_put_other' _ _ (by decide)).trans (f4 e)), (fun e => (eval_put_other' _ _ (by decide)).trans (f5 e)), (fun e => (eval_put_other' _ _ (by decide)).trans (f6 e)), (fun e => (eval_put_other' _ _ (by decide)).trans (f7 e)), (fun e => (eval_put_other' _ _ (by decide)).trans (f8 e)), (fun e => (eval_put_other' _ _ (by decide)).trans (f9 e)), (fun e => (eval_put_other' _ _ (by decide)).trans (f10 e)), (fun e => (eval_put_other' _ _ (by decide)).trans (f11 e)), (fun e => (eval_put_other' _ _ (by decide)).trans (f12 e)), (fun e => (eval_put_other' _ _ (by decide)).trans (f13 e)), (fun e => (eval_put_other' _ _ (by decide)).trans (f14 e)), (fun e => (eval_put_other' _ _ (by decide)).trans (f17 e)), d15_8, d16_15, d15_13, d16_14, d9_8, d10_8, d11_8⟩
    · have ws := o2.waits ho hwait
      have w0 := ws 0 (by simp)
      have w1 := ws 1 (by simp)
      have st0 := st
      refine o2.index (f0 w0) (f1 w1) hj ?_
      exact ⟨D, (so.put (by decide) _), st, (fun e => (eval_put_other' _ _ (by decide)).trans (f0 e)), (fun e => (eval_put_other' _ _ (by decide)).trans (f1 e)), (fun _ => eval_put_same' _ _ _ (by rw [so.size]; show (41 : Nat) < _; omega)), (fun e => (eval_put_other' _ _ (by decide)).trans (f3 e)), (fun e => (eval_put_other' _ _ (by decide)).trans (f4 e)), (fun e => (eval_put_other' _ _ (by decide)).trans (f5 e)), (fun e => (eval_put_other' _ _ (by decide)).trans (f6 e)), (fun e => (eval_put_other' _ _ (by decide)).trans (f7 e)), (fun e => (eval_put_other' _ _ (by decide)).trans (f8 e)), (fun e => (eval_put_other' _ _ (by decide)).trans (f9 e)), (fun e => (eval_put_other' _ _ (by decide)).trans (f10 e)), (fun e => (eval_put_other' _ _ (by decide)).trans (f11 e)), (fun e => (eval_put_other' _ _ (by decide)).trans (f12 e)), (fun e => (eval_put_other' _ _ (by decide)).trans (f13 e)), (fun e => (eval_put_other' _ _ (by decide)).trans (f14 e)), (fun e => (eval_put_other' _ _ (by decide)).trans (f17 e)), d15_8, d16_15, d15_13, d16_14, d9_8, d10_8, d11_8⟩
    · have ws := o3.waits ho hwait
      have w2 := ws 2 (by simp)
      have st0 := st
      refine o3.loadP (f2 w2) (hrow.later st.later) hx ?_
      exact ⟨D, (so.put (by decide) _), st, (fun e => (eval_put_other' _ _ (by decide)).trans (f0 e)), (fun e => (eval_put_other' _ _ (by decide)).trans (f1 e)), (fun e => (eval_put_other' _ _ (by decide)).trans (f2 e)), (fun _ => eval_put_same' _ _ _ (by rw [so.size]; show (42 : Nat) < _; omega)), (fun e => (eval_put_other' _ _ (by decide)).trans (f4 e)), (fun e => (eval_put_other' _ _ (by decide)).trans (f5 e)), (fun e => (eval_put_other' _ _ (by decide)).trans (f6 e)), (fun e => (eval_put_other' _ _ (by decide)).trans (f7 e)), (fun e => (eval_put_other' _ _ (by decide)).trans (f8 e)), (fun e => (eval_put_other' _ _ (by decide)).trans (f9 e)), (fun e => (eval_put_other' _ _ (by decide)).trans (f10 e)), (fun e => (eval_put_other' _ _ (by decide)).trans (f11 e)), (fun e => (eval_put_other' _ _ (by decide)).trans (f12 e)), (fun e => (eval_put_other' _ _ (by decide)).trans (f13 e)), (fun e => (eval_put_other' _ _ (by decide)).trans (f14 e)), (fun e => (eval_put_other' _ _ (by decide)).trans (f17 e)), d15_8, d16_15, d15_13, d16_14, d9_8, d10_8, d11_8⟩
    · have st0 := st
      have ev : a.eval (.tmp 5) = .slice (some ⟨gq, oq, none⟩) nn cc := ((show _ = a1.eval _ from by simp only [Act.eval, Array.getD_eq_getD_getElem?, so.out 5 (by decide)]).trans e5)
      refine o4.move ?_
      rw [ev]
      exact ⟨D, (so.put (by decide) _), st, (fun e => (eval_put_other' _ _ (by decide)).trans (f0 e)), (fun e => (eval_put_other' _ _ (by decide)).trans (f1 e)), (fun e => (eval_put_other' _ _ (by decide)).trans (f2 e)), (fun e => (eval_put_other' _ _ (by decide)).trans (f3 e)), (fun _ => eval_put_same' _ _ _ (by rw [so.size]; show (43 : Nat) < _; omega)), (fun e => (eval_put_other' _ _ (by decide)).trans (f5 e)), (fun e => (eval_put_other' _ _ (by decide)).trans (f6 e)), (fun e => (eval_put_other' _ _ (by decide)).trans (f7 e)), (fun e => (eval_put_other' _ _ (by decide)).trans (f8 e)), (fun e => (eval_put_other' _ _ (by decide)).trans (f9 e)), (fun e => (eval_put_other' _ _ (by decide)).trans (f10 e)), (fun e => (eval_put_other' _ _ (by decide)).trans (f11 e)), (fun e => (eval_put_other' _ _ (by decide)).trans (f12 e)), (fun e => (eval_put_other' _ _ (by decide)).trans (f13 e)), (fun e => (eval_put_other' _ _ (by decide)).trans (f14 e)), (fun e => (eval_put_other' _ _ (by decide)).trans (f17 e)), d15_8, d16_15, d15_13, d16_14, d9_8, d10_8, d11_8⟩
    · have st0 := st
      have ev : a.eval (.tmp 6) = .int .i64 (kk : Nat) := ((show _ = a1.eval _ from by simp only [Act.eval, Array.getD_eq_getD_getElem?, so.out 6 (by decide)]).trans e6)
      refine o5.move ?_
      rw [ev]
      exact ⟨D, (so.put (by decide) _), st, (fun e => (eval_put_other' _ _ (by decide)).trans (f0 e)), (fun e => (eval_put_other' _ _ (by decide)).trans (f1 e)), (fun e => (eval_put_other' _ _ (by decide)).trans (f2 e)), (fun e => (eval_put_other' _ _ (by decide)).trans (f3 e)), (fun e => (eval_put_other' _ _ (by decide)).trans (f4 e)), (fun _ => eval_put_same' _ _ _ (by rw [so.size]; show (44 : Nat) < _; omega)), (fun e => (eval_put_other' _ _ (by decide)).trans (f6 e)), (fun e => (eval_put_other' _ _ (by decide)).trans (f7 e)), (fun e => (eval_put_other' _ _ (by decide)).trans (f8 e)), (fun e => (eval_put_other' _ _ (by decide)).trans (f9 e)), (fun e => (eval_put_other' _ _ (by decide)).trans (f10 e)), (fun e => (eval_put_other' _ _ (by decide)).trans (f11 e)), (fun e => (eval_put_other' _ _ (by decide)).trans (f12 e)), (fun e => (eval_put_other' _ _ (by decide)).trans (f13 e)), (fun e => (eval_put_other' _ _ (by decide)).trans (f14 e)), (fun e => (eval_put_other' _ _ (by decide)).trans (f17 e)), d15_8, d16_15, d15_13, d16_14, d9_8, d10_8, d11_8⟩
    · have ws := o6.waits ho hwait
      have w4 := ws 4 (by simp)
      have w5 := ws 5 (by simp)
      have st0 := st
      refine o6.index (f4 w4) (f5 w5) hk ?_
      exact ⟨D, (so.put (by decide) _), st, (fun e => (eval_put_other' _ _ (by decide)).trans (f0 e)), (fun e => (eval_put_other' _ _ (by decide)).trans (f1 e)), (fun e => (eval_put_other' _ _ (by decide)).trans (f2 e)), (fun e => (eval_put_other' _ _ (by decide)).trans (f3 e)), (fun e => (eval_put_other' _ _ (by decide)).trans (f4 e)), (fun e => (eval_put_other' _ _ (by decide)).trans (f5 e)), (fun _ => eval_put_same' _ _ _ (by rw [so.size]; show (45 : Nat) < _; omega)), (fun e => (eval_put_other' _ _ (by decide)).trans (f7 e)), (fun e => (eval_put_other' _ _ (by decide)).trans (f8 e)), (fun e => (eval_put_other' _ _ (by decide)).trans (f9 e)), (fun e => (eval_put_other' _ _ (by decide)).trans (f10 e)), (fun e => (eval_put_other' _ _ (by decide)).trans (f11 e)), (fun e => (eval_put_other' _ _ (by decide)).trans (f12 e)), (fun e => (eval_put_other' _ _ (by decide)).trans (f13 e)), (fun e => (eval_put_other' _ _ (by decide)).trans (f14 e)), (fun e => (eval_put_other' _ _ (by decide)).trans (f17 e)), d15_8, d16_15, d15_13, d16_14, d9_8, d10_8, d11_8⟩
    · have ws := o7.waits ho hwait
      have w6 := ws 6 (by simp)
      have st0 := st
      refine o7.loadP (f6 w6) (hrow.later st.later) hy ?_
      exact ⟨D, (so.put (by decide) _), st, (fun e => (eval_put_other' _ _ (by decide)).trans (f0 e)), (fun e => (eval_put_other' _ _ (by decide)).trans (f1 e)), (fun e => (eval_put_other' _ _ (by decide)).trans (f2 e)), (fun e => (eval_put_other' _ _ (by decide)).trans (f3 e)), (fun e => (eval_put_other' _ _ (by decide)).trans (f4 e)), (fun e => (eval_put_other' _ _ (by decide)).trans (f5 e)), (fun e => (eval_put_other' _ _ (by decide)).trans (f6 e)), (fun _ => eval_put_same' _ _ _ (by rw [so.size]; show (46 : Nat) < _; omega)), (fun e => (eval_put_other' _ _ (by decide)).trans (f8 e)), (fun e => (eval_put_other' _ _ (by decide)).trans (f9 e)), (fun e => (eval_put_other' _ _ (by decide)).trans (f10 e)), (fun e => (eval_put_other' _ _ (by decide)).trans (f11 e)), (fun e => (eval_put_other' _ _ (by decide)).trans (f12 e)), (fun e => (eval_put_other' _ _ (by decide)).trans (f13 e)), (fun e => (eval_put_other' _ _ (by decide)).trans (f14 e)), (fun e => (eval_put_other' _ _ (by decide)).trans (f17 e)), d15_8, d16_15, d15_13, d16_14, d9_8, d10_8, d11_8⟩
    · have ws := o8.waits ho hwait
      have w3 := ws 3 (by simp)
      have w7 := ws 7 (by simp)
      have n15 : l 15 = false := by cases hx : l 15 with | false => rfl | true => have := d15_8 hx; rw [hl] at this; cases this
      have n16 : l 16 = false := by cases hx : l 16 with | false => rfl | true => have := d16_15 hx; rw [n15] at this; cases this
      have n9 : l 9 = false := by cases hx : l 9 with | false => rfl | true => have := d9_8 hx; rw [hl] at this; cases this
      have n10 : l 10 = false := by cases hx : l 10 with | false => rfl | true => have := d10_8 hx; rw [hl] at this; cases this
      have n11 : l 11 = false := by cases hx : l 11 with | false => rfl | true => have := d11_8 hx; rw [hl] at this; cases this
      have st0 : ApS wx r (l 13) (l 14) 0 D w := by
        have hst := st
        simp only [hl, n15, n16, Bool.false_eq_true, if_false] at hst
        exact hst
      refine o8.call2 (enters_of Try.func27 (by kernel_rfl) rfl) (f3 w3) (f7 w7) (by have := swap_fresh x y w (okx.later st0.later) (oky.later st0.later); rw [hsw] at this; exact this) ?_
      rintro e w' ⟨c, d, rfl, hc, hd, okc, okd, frc, frd, hl'⟩
      have st1 := st0.swap hl' hc hd okc okd frc frd
      have st2 : ApS wx r ((more l 8) 13) ((more l 8) 14) (if (more l 8) 16 = true then 3 else (if (more l 8) 15 = true then 2 else (if (more l 8) 8 = true then 1 else 0))) ({ D with c := c, d := d }) w' := by
        rw [if_neg (show ¬ (more l 8 16 = true) from by rw [show more l 8 16 = l 16 from rfl, n16]; simp), if_neg (show ¬ (more l 8 15 = true) from by rw [show more l 8 15 = l 15 from rfl, n15]; simp), if_pos (show more l 8 8 = true from rfl)]
        exact st1
      exact ⟨_, rfl, ⟨{ D with c := c, d := d }, (so.put (by decide) _), st2, (fun e => (eval_put_other' _ _ (by decide)).trans (f0 e)), (fun e => (eval_put_other' _ _ (by decide)).trans (f1 e)), (fun e => (eval_put_other' _ _ (by decide)).trans (f2 e)), (fun e => (eval_put_other' _ _ (by decide)).trans (f3 e)), (fun e => (eval_put_other' _ _ (by decide)).trans (f4 e)), (fun e => (eval_put_other' _ _ (by decide)).trans (f5 e)), (fun e => (eval_put_other' _ _ (by decide)).trans (f6 e)), (fun e => (eval_put_other' _ _ (by decide)).trans (f7 e)), (fun _ => eval_put_same' _ _ _ (by rw [so.size]; show (47 : Nat) < _; omega)), (fun e => by rw [show more l 8 9 = l 9 from rfl, n9] at e; cases e), (fun e => by rw [show more l 8 10 = l 10 from rfl, n10] at e; cases e), (fun e => by rw [show more l 8 11 = l 11 from rfl, n11] at e; cases e), (fun e => (eval_put_other' _ _ (by decide)).trans (f12 e)), (fun e => (eval_put_other' _ _ (by decide)).trans (f13 e)), (fun e => (eval_put_other' _ _ (by decide)).trans (f14 e)), (fun e => (eval_put_other' _ _ (by decide)).trans (f17 e)), (fun _ => rfl), d16_15, d15_13, d16_14, (fun _ => rfl), (fun _ => rfl), (fun _ => rfl)⟩⟩
    · have ws := o9.waits ho hwait
      have w8 := ws 8 (by simp)
      have st0 := st
      refine o9.move ?_
      rw [f8 w8]
      exact ⟨D, (so.put (by decide) _), st, (fun e => (eval_put_other' _ _ (by decide)).trans (f0 e)), (fun e => (eval_put_other' _ _ (by decide)).trans (f1 e)), (fun e => (eval_put_other' _ _ (by decide)).trans (f2 e)), (fun e => (eval_put_other' _ _ (by decide)).trans (f3 e)), (fun e => (eval_put_other' _ _ (by decide)).trans (f4 e)), (fun e => (eval_put_other' _ _ (by decide)).trans (f5 e)), (fun e => (eval_put_other' _ _ (by decide)).trans (f6 e)), (fun e => (eval_put_other' _ _ (by decide)).trans (f7 e)), (fun e => (eval_put_other' _ _ (by decide)).trans (f8 e)), (fun _ => eval_put_same' _ _ _ (by rw [so.size]; show (38 : Nat) < _; omega)), (fun e => (eval_put_other' _ _ (by decide)).trans (f10 e)), (fun e => (eval_put_other' _ _ (by decide)).trans (f11 e)), (fun e => (eval_put_other' _ _ (by decide)).trans (f12 e)), (fun e => (eval_put_other' _ _ (by decide)).trans (f13 e)), (fun e => (eval_put_other' _ _ (by decide)).trans (f14 e)), (fun e => (eval_put_other' _ _ (by decide)).trans (f17 e)), d15_8, d16_15, d15_13, d16_14, (fun _ => w8), d10_8, d11_8⟩
    · have ws := o10.waits ho hwait
      have w9 := ws 9 (by simp)
      have w8 := d9_8 w9
      have st0 := st
      refine o10.extract (f9 w9) rfl ?_
      exact ⟨D, (so.put (by decide) _), st, (fun e => (eval_put_other' _ _ (by decide)).trans (f0 e)), (fun e => (eval_put_other' _ _ (by decide)).trans (f1 e)), (fun e => (eval_put_other' _ _ (by decide)).trans (f2 e)), (fun e => (eval_put_other' _ _ (by decide)).trans (f3 e)), (fun e => (eval_put_other' _ _ (by decide)).trans (f4 e)), (fun e => (eval_put_other' _ _ (by decide)).trans (f5 e)), (fun e => (eval_put_other' _ _ (by decide)).trans (f6 e)), (fun e => (eval_put_other' _ _ (by decide)).trans (f7 e)), (fun e => (eval_put_other' _ _ (by decide)).trans (f8 e)), (fun e => (eval_put_other' _ _ (by decide)).trans (f9 e)), (fun _ => eval_put_same' _ _ _ (by rw [so.size]; show (48 : Nat) < _; omega)), (fun e => (eval_put_other' _ _ (by decide)).trans (f11 e)), (fun e => (eval_put_other' _ _ (by decide)).trans (f12 e)), (fun e => (eval_put_other' _ _ (by decide)).trans (f13 e)), (fun e => (eval_put_other' _ _ (by decide)).trans (f14 e)), (fun e => (eval_put_other' _ _ (by decide)).trans (f17 e)), d15_8, d16_15, d15_13, d16_14, d9_8, (fun _ => w8), d11_8⟩
    · have ws := o11.waits ho hwait
      have w9 := ws 9 (by simp)
      have w8 := d9_8 w9
      have st0 := st
      refine o11.extract (f9 w9) rfl ?_
      exact ⟨D, (so.put (by decide) _), st, (fun e => (eval_put_other' _ _ (by decide)).trans (f0 e)), (fun e => (eval_put_other' _ _ (by decide)).trans (f1 e)), (fun e => (eval_put_other' _ _ (by decide)).trans (f2 e)), (fun e => (eval_put_other' _ _ (by decide)).trans (f3 e)), (fun e => (eval_put_other' _ _ (by decide)).trans (f4 e)), (fun e => (eval_put_other' _ _ (by decide)).trans (f5 e)), (fun e => (eval_put_other' _ _ (by decide)).trans (f6 e)), (fun e => (eval_put_other' _ _ (by decide)).trans (f7 e)), (fun e => (eval_put_other' _ _ (by decide)).trans (f8 e)), (fun e => (eval_put_other' _ _ (by decide)).trans (f9 e)), (fun e => (eval_put_other' _ _ (by decide)).trans (f10 e)), (fun _ => eval_put_same' _ _ _ (by rw [so.size]; show (49 : Nat) < _; omega)), (fun e => (eval_put_other' _ _ (by decide)).trans (f12 e)), (fun e => (eval_put_other' _ _ (by decide)).trans (f13 e)), (fun e => (eval_put_other' _ _ (by decide)).trans (f14 e)), (fun e => (eval_put_other' _ _ (by decide)).trans (f17 e)), d15_8, d16_15, d15_13, d16_14, d9_8, d10_8, (fun _ => w8)⟩
    · have ws := o12.waits ho hwait
      have w9 := ws 9 (by simp)
      have w8 := d9_8 w9
      have st0 := st
      refine o12.extract (f9 w9) rfl ?_
      exact ⟨D, (so.put (by decide) _), st, (fun e => (eval_put_other' _ _ (by decide)).trans (f0 e)), (fun e => (eval_put_other' _ _ (by decide)).trans (f1 e)), (fun e => (eval_put_other' _ _ (by decide)).trans (f2 e)), (fun e => (eval_put_other' _ _ (by decide)).trans (f3 e)), (fun e => (eval_put_other' _ _ (by decide)).trans (f4 e)), (fun e => (eval_put_other' _ _ (by decide)).trans (f5 e)), (fun e => (eval_put_other' _ _ (by decide)).trans (f6 e)), (fun e => (eval_put_other' _ _ (by decide)).trans (f7 e)), (fun e => (eval_put_other' _ _ (by decide)).trans (f8 e)), (fun e => (eval_put_other' _ _ (by decide)).trans (f9 e)), (fun e => (eval_put_other' _ _ (by decide)).trans (f10 e)), (fun e => (eval_put_other' _ _ (by decide)).trans (f11 e)), (fun _ => eval_put_same' _ _ _ (by rw [so.size]; show (50 : Nat) < _; omega)), (fun e => (eval_put_other' _ _ (by decide)).trans (f13 e)), (fun e => (eval_put_other' _ _ (by decide)).trans (f14 e)), (fun e => (eval_put_other' _ _ (by decide)).trans (f17 e)), d15_8, d16_15, d15_13, d16_14, d9_8, d10_8, d11_8⟩
    · have n15 : l 15 = false := by cases hx : l 15 with | false => rfl | true => have := d15_13 hx; rw [hl] at this; cases this
      have n16 : l 16 = false := by cases hx : l 16 with | false => rfl | true => have := d16_15 hx; rw [n15] at this; cases this
      have st0 := st
      refine o13.alloc ?_
      have st1 := ApS.alloc8 (by rw [hl] at st0; exact st0) (by
        simp only [n15, n16, Bool.false_eq_true, if_false]
        split <;> omega)
      have st2 : ApS wx r ((more l 13) 13) ((more l 13) 14) (if (more l 13) 16 = true then 3 else (if (more l 13) 15 = true then 2 else (if (more l 13) 8 = true then 1 else 0))) ({ D with g8 := w.heap.size }) (w.alloc (.cells zeroL 51)) := st1
      exact ⟨{ D with g8 := w.heap.size }, (so.put (by decide) _), st2, (fun e => (eval_put_other' _ _ (by decide)).trans (f0 e)), (fun e => (eval_put_other' _ _ (by decide)).trans (f1 e)), (fun e => (eval_put_other' _ _ (by decide)).trans (f2 e)), (fun e => (eval_put_other' _ _ (by decide)).trans (f3 e)), (fun e => (eval_put_other' _ _ (by decide)).trans (f4 e)), (fun e => (eval_put_other' _ _ (by decide)).trans (f5 e)), (fun e => (eval_put_other' _ _ (by decide)).trans (f6 e)), (fun e => (eval_put_other' _ _ (by decide)).trans (f7 e)), (fun e => (eval_put_other' _ _ (by decide)).trans (f8 e)), (fun e => (eval_put_other' _ _ (by decide)).trans (f9 e)), (fun e => (eval_put_other' _ _ (by decide)).trans (f10 e)), (fun e => (eval_put_other' _ _ (by decide)).trans (f11 e)), (fun e => (eval_put_other' _ _ (by decide)).trans (f12 e)), (fun _ => eval_put_same' _ _ _ (by rw [so.size]; show (8 : Nat) < _; omega)), (fun e => (eval_put_other' _ _ (by decide)).trans (f14 e)), (fun e => (eval_put_other' _ _ (by decide)).trans (f17 e)), d15_8, d16_15, (fun _ => rfl), d16_14, d9_8, d10_8, d11_8⟩
    · have n16 : l 16 = false := by cases hx : l 16 with | false => rfl | true => have := d16_14 hx; rw [hl] at this; cases this
      have st0 := st
      refine o14.alloc ?_
      have st1 := ApS.alloc9 (by rw [hl] at st0; exact st0) (by
        simp only [n16, Bool.false_eq_true, if_false]
        split
        · omega
        · split <;> omega)
      have st2 : ApS wx r ((more l 14) 13) ((more l 14) 14) (if (more l 14) 16 = true then 3 else (if (more l 14) 15 = true then 2 else (if (more l 14) 8 = true then 1 else 0))) ({ D with g9 := w.heap.size }) (w.alloc (.cells zeroL 51)) := st1
      exact ⟨{ D with g9 := w.heap.size }, (so.put (by decide) _), st2, (fun e => (eval_put_other' _ _ (by decide)).trans (f0 e)), (fun e => (eval_put_other' _ _ (by decide)).trans (f1 e)), (fun e => (eval_put_other' _ _ (by decide)).trans (f2 e)), (fun e => (eval_put_other' _ _ (by decide)).trans (f3 e)), (fun e => (eval_put_other' _ _ (by decide)).trans (f4 e)), (fun e => (eval_put_other' _ _ (by decide)).trans (f5 e)), (fun e => (eval_put_other' _ _ (by decide)).trans (f6 e)), (fun e => (eval_put_other' _ _ (by decide)).trans (f7 e)), (fun e => (eval_put_other' _ _ (by decide)).trans (f8 e)), (fun e => (eval_put_other' _ _ (by decide)).trans (f9 e)), (fun e => (eval_put_other' _ _ (by decide)).trans (f10 e)), (fun e => (eval_put_other' _ _ (by decide)).trans (f11 e)), (fun e => (eval_put_other' _ _ (by decide)).trans (f12 e)), (fun e => (eval_put_other' _ _ (by decide)).trans (f13 e)), (fun _ => eval_put_same' _ _ _ (by rw [so.size]; show (9 : Nat) < _; omega)), (fun e => (eval_put_other' _ _ (by decide)).trans (f17 e)), d15_8, d16_15, d15_13, (fun _ => rfl), d9_8, d10_8, d11_8⟩
    · have ws := o15.waits ho hwait
      have w13 := ws 13 (by simp)
      have w10 := ws 10 (by simp)
      have w8 := ws 8 (by simp)
      have w14 := ws 14 (by simp)
      have n16 : l 16 = false := by cases hx : l 16 with | false => rfl | true => have := d16_15 hx; rw [hl] at this; cases this
      have st0 : ApS wx r true true 1 D w := by
        have hst := st
        rw [w13] at hst
        rw [w14] at hst
        simp only [hl, n16, Bool.false_eq_true, if_false, if_true, w8] at hst
        exact hst
      obtain ⟨_, _, cs, hcs, hbx, _⟩ := st0.b8 rfl
      refine o15.store (f13 w13) (f10 w10) hbx hcs ?_
      intro w' hb' ht'
      have st1 := st0.st8 hb' ht'
      have st2 : ApS wx r ((more l 15) 13) ((more l 15) 14) (if (more l 15) 16 = true then 3 else (if (more l 15) 15 = true then 2 else (if (more l 15) 8 = true then 1 else 0))) (D) w' := by
        rw [show more l 15 13 = true from w13, show more l 15 14 = true from w14, if_neg (show ¬ (more l 15 16 = true) from by rw [show more l 15 16 = l 16 from rfl, n16]; simp), if_pos (show more l 15 15 = true from rfl)]
        exact st1
      exact ⟨D, so, st2, f0, f1, f2, f3, f4, f5, f6, f7, f8, f9, f10, f11, f12, f13, f14, f17, (fun _ => w8), (fun _ => rfl), (fun _ => w13), d16_14, d9_8, d10_8, d11_8⟩
    · have ws := o16.waits ho hwait
      have w14 := ws 14 (by simp)
      have w11 := ws 11 (by simp)
      have w15 := ws 15 (by simp)
      have w13 := ws 13 (by simp)
      have w8 := d15_8 w15
      have st0 : ApS wx r true true 2 D w := by
        have hst := st
        rw [w13] at hst
        rw [w14] at hst
        simp only [hl, Bool.false_eq_true, if_false, if_true, w15] at hst
        exact hst
      obtain ⟨_, _, cs, hcs, hbx, _⟩ := st0.b9 rfl
      refine o16.store (f14 w14) (f11 w11) hbx hcs ?_
      intro w' hb' ht'
      have st1 := st0.st9 hb' ht'
      have st2 : ApS wx r ((more l 16) 13) ((more l 16) 14) (if (more l 16) 16 = true then 3 else (if (more l 16) 15 = true then 2 else (if (more l 16) 8 = true then 1 else 0))) (D) w' := by
        rw [show more l 16 13 = true from w13, show more l 16 14 = true from w14, if_pos (show more l 16 16 = true from rfl)]
        exact st1
      exact ⟨D, so, st2, f0, f1, f2, f3, f4, f5, f6, f7, f8, f9, f10, f11, f12, f13, f14, f17, d15_8, (fun _ => w15), d15_13, (fun _ => w14), d9_8, d10_8, d11_8⟩
    · have ws := o17.waits ho hwait
      have w12 := ws 12 (by simp)
      have st0 := st
      refine o17.assign ?_
      rw [f12 w12]
      exact ⟨D, (so.put (by decide) _), st, (fun e => (eval_put_other' _ _ (by decide)).trans (f0 e)), (fun e => (eval_put_other' _ _ (by decide)).trans (f1 e)), (fun e => (eval_put_other' _ _ (by decide)).trans (f2 e)), (fun e => (eval_put_other' _ _ (by decide)).trans (f3 e)), (fun e => (eval_put_other' _ _ (by decide)).trans (f4 e)), (fun e => (eval_put_other' _ _ (by decide)).trans (f5 e)), (fun e => (eval_put_other' _ _ (by decide)).trans (f6 e)), (fun e => (eval_put_other' _ _ (by decide)).trans (f7 e)), (fun e => (eval_put_other' _ _ (by decide)).trans (f8 e)), (fun e => (eval_put_other' _ _ (by decide)).trans (f9 e)), (fun e => (eval_put_other' _ _ (by decide)).trans (f10 e)), (fun e => (eval_put_other' _ _ (by decide)).trans (f11 e)), (fun e => (eval_put_other' _ _ (by decide)).trans (f12 e)), (fun e => (eval_put_other' _ _ (by decide)).trans (f13 e)), (fun e => (eval_put_other' _ _ (by decide)).trans (f14 e)), (fun _ => eval_put_same' _ _ _ (by rw [so.size]; show (10 : Nat) < _; omega)), d15_8, d16_15, d15_13, d16_14, d9_8, d10_8, d11_8⟩
  · intro l a w hall ⟨D, so, st, f0, f1, f2, f3, f4, f5, f6, f7, f8, f9, f10, f11, f12, f13, f14, f17, d15_8, d16_15, d15_13, d16_14, d9_8, d10_8, d11_8⟩
    rw [hn] at hall
    have hst : ApS wx r true true 3 D w := by
      have hst := st
      rw [hall 13 (by decide)] at hst
      rw [hall 14 (by decide)] at hst
      simp only [hall 16 (by decide), if_true] at hst
      exact hst
    exact hend D a w so (f13 (hall 13 (by decide))) (f14 (hall 14 (by decide))) (f17 (hall 17 (by decide))) hst
  · have h0 : ApS wx r false false 0 ⟨zeroC, zeroC, 0, 0⟩ { wx with drawn := wx.drawn + 1 } := ⟨(Later.refl wx).drew, (fun e => by omega), (fun e => by cases e), (fun e => by cases e), (fun e => by cases e)⟩
    exact ⟨⟨zeroC, zeroC, 0, 0⟩, SameOut.refl _ _, h0, (fun e => by cases e), (fun e => by cases e), (fun e => by cases e), (fun e => by cases e), (fun e => by cases e), (fun e => by cases e), (fun e => by cases e), (fun e => by cases e), (fun e => by cases e), (fun e => by cases e), (fun e => by cases e), (fun e => by cases e), (fun e => by cases e), (fun e => by cases e), (fun e => by cases e), (fun e => by cases e), (fun e => by cases e), (fun e => by cases e), (fun e => by cases e), (fun e => by cases e), (fun e => by cases e), (fun e => by cases e), (fun e => by cases e)⟩

end Go.Proofs.Ytbhnbkcokhfopaa

/-
  Operations of a region that are guarded by one that yields false.
-/
namespace Go.Proofs.Ytbhnbkcokhfopaa
open Go.RowKit Go.Maps

/-- Operation i of the region, guarded by operation g, whose slot is d. -/
def OpN (ops : Array Oper) (i : Nat) (op : Op) (dst : Option Tmp) (js : List Nat) (g : Nat) (d : Tmp) : Prop := ∃ o, ops[i]? = some o ∧ o.op = op ∧ o.dst = dst ∧ o.guard = some (g, false) ∧ needs o js = true ∧ (ops[g]?).bind (·.dst) = some d
theorem OpN.waits {ops : Array Oper} {i g : Nat} {d : Tmp} {op : Op} {dst : Option Tmp} {js : List Nat} (h : OpN ops i op dst js g d) {o : Oper} (ho : ops[i]? = some o) {l : Nat → Bool} (hl : ∀ e ∈ o.after, Region.binds .any e = true → l e.on = true) : ∀ j ∈ js, l j = true := by
  obtain ⟨o', h1, -, -, -, h5, -⟩ := h
  rw [ho] at h1
  cases h1
  intro j hj
  have := List.all_eq_true.1 h5 j hj
  simp only [Array.any_eq_true, Bool.and_eq_true, decide_eq_true_eq] at this
  obtain ⟨k, hk, e1, e2⟩ := this
  rw [← e1]
  exact hl _ (Array.getElem_mem hk) e2
theorem OpN.un {ops : Array Oper} {i g : Nat} {d : Tmp} {op : Op} {dst : Option Tmp} {js : List Nat} (h : OpN ops i op dst js g d) : OpIs (unguard ops i) i op dst [] := by
  obtain ⟨o, h1, h2, h3, -, -, -⟩ := h
  exact ⟨{ o with guard := none }, by simp [unguard, Array.getElem?_modify, h1], h2, h3, rfl, rfl⟩
theorem OpN.via {P : Program} {ops : Array Oper} {Q : Exit → Act → World → Prop} {K : Act → World → Prop} {i g : Nat} {d : Tmp} {op : Op} {dst : Option Tmp} {js : List Nat} {a : Act} {w : World} (h : OpN ops i op dst js g d) (hv : a.eval (.tmp d) = .bool false) (hd : d < a.tmps.size)
    (hk : wpOp P (unguard ops i) Q i K a w) : wpOp P ops Q i K a w := by
  obtain ⟨o, h1, -, -, h4, -, h6⟩ := h
  unfold wpOp at hk ⊢
  rw [h1]
  have e1 : (unguard ops i)[i]? = some { o with guard := none } := by simp [unguard, Array.getElem?_modify, h1]
  rw [e1] at hk
  have e2 : Region.wanted o (yielded ops a.tmps) = true := by
    have ht : a.tmps[d]? = some (.bool false) := by
      rw [Array.getElem?_eq_getElem hd]
      have := hv
      simp only [Act.eval, Array.getD, hd, dif_pos] at this
      exact congrArg some this
    simp only [Region.wanted, h4, yielded]
    rw [h6]
    simp [ht]
  dsimp only at hk ⊢
  rw [if_pos e2]
  rw [if_pos (by rfl)] at hk
  exact hk

section
variable {ops : Array Oper} {Q : Exit → Act → World → Prop} {K : Act → World → Prop} {i : Nat} {dst : Option Tmp} {js : List Nat} {a : Act} {w w0 : World}
theorem OpIs.notB {k : Tmp} {b : Bool} (h : OpIs ops i (.unOp .not 4 (.tmp k)) dst js) (he : a.eval (.tmp k) = .bool b) (hk : K (a.put dst (.bool (!b))) w) : wpOp Try.prog ops Q i K a w :=
  h.go fun op h1 h2 => by
    have hr : (execOp a.eval op).run Try.prog w = .ok (.value (.bool (!b))) w := by
      unfold execOp
      rw [h1]
      dsimp only
      rw [he]
      go_simp
    unfold Oper.wp
    rw [hr]
    show K _ _
    rw [h2]
    exact hk
theorem OpIs.pickF {j k : Tmp} {v : Value} (h : OpIs ops i (.pick (.tmp j) (.const (.bool true)) (.tmp k)) dst js) (hj : a.eval (.tmp j) = .bool false) (hv : a.eval (.tmp k) = v) (hk : K (a.put dst v) w) : wpOp Try.prog ops Q i K a w :=
  h.go fun op h1 h2 => by
    have hr : (execOp a.eval op).run Try.prog w = .ok (.value v) w := by
      unfold execOp
      rw [h1]
      dsimp only
      rw [hj, hv]
      go_simp
    unfold Oper.wp
    rw [hr]
    show K _ _
    rw [h2]
    exact hk
theorem OpIs.fieldP {k : Tmp} {f g o : Nat} (h : OpIs ops i (.fieldAddr 51 (.tmp k) f) dst js) (hf : f = 4 ∨ f = 5) (he : a.eval (.tmp k) = .pointer (some ⟨g, o, none⟩)) (hk : K (a.put dst (.pointer (some ⟨g, o + f, none⟩))) w) : wpOp Try.prog ops Q i K a w :=
  h.go fun op h1 h2 => by
    have hr : (execOp a.eval op).run Try.prog w = .ok (.value (.pointer (some ⟨g, o + f, none⟩))) w := by
      unfold execOp
      rw [h1]
      dsimp only
      rw [he]
      rcases hf with rfl | rfl <;> go_simp
    unfold Oper.wp
    rw [hr]
    show K _ _
    rw [h2]
    exact hk
theorem OpIs.loadV {k : Tmp} {g o : Nat} {A : Option Addr} {n c : Nat} (h : OpIs ops i (.load 22 (.tmp k)) dst js) (he : a.eval (.tmp k) = .pointer (some ⟨g, o, none⟩)) (hc : w.cell? ⟨g, o, none⟩ = some (.slice A n c)) (hk : K (a.put dst (.slice A n c)) w) : wpOp Try.prog ops Q i K a w :=
  h.go fun op h1 h2 => by
    have hr : (execOp a.eval op).run Try.prog w = .ok (.value (.slice A n c)) w := by
      unfold execOp
      rw [h1]
      dsimp only
      rw [he]
      go_simp
    unfold Oper.wp
    rw [hr]
    show K _ _
    rw [h2]
    exact hk
end

end Go.Proofs.Ytbhnbkcokhfopaa
