import Derived.Test.YtlnjhimbgckdcaaGreatPk14
import Derived.Test.YtlnjhimbgckdcaaGreatPk18
import Derived.Deep.LoopGhost
import Derived.Deep.QuietTactic
import Derived.BigQuiet
import Derived.Lib.Hide
import Derived.Test.YtlnjhimbgckdcaaGreatPk15

/-
  What named's Same comes to, as a call.
-/
namespace Go.Proofs.YtlnjhimbgckdcaaGreat
open Go.RowKit Go.Maps

theorem sameN_parts (p q : Pa) : sameN p q = (decide (p.id = q.id) && (decide (p.note = q.note) && (decide (p.deps = q.deps) && sameS p.l q.l))) := by
  obtain ⟨i, n, d, l⟩ := p
  obtain ⟨i', n', d', l'⟩ := q
  rw [Bool.eq_iff_iff, sameN_iff]
  simp only [Bool.and_eq_true, decide_eq_true_eq, sameS_iff, Pa.mk.injEq]
set_option maxRecDepth 100000 in
set_option maxHeartbeats 800000 in
theorem same7_any (x y : PaC) (w : World) (hx : PaOk w x) (hy : PaOk w y) : Calls Tryz.prog 25 #[paV x, paV y] w (Says (sameN x.v y.v) w) := by
  have HS : Hid (∀ w', Later w w' -> Calls Tryz.prog 41 #[.slice x.L x.nl x.cl, .slice y.L y.nl y.cl] w' (Says (sameS x.v.l y.v.l) w')) := fun w' hl => by
    rw [← hx.is, ← hy.is]
    exact seqSame_any x.L y.L x.nl x.cl y.nl y.cl x.xs y.xs w' (hx.row.later hl) (hy.row.later hl) (by have := hx.lmost; omega) (by have := hy.lmost; omega)
  have HE : Hid (∀ w', Later w w' -> Calls Tryz.prog 40 #[.slice x.D x.nd x.cd, .slice y.D y.nd y.cd] w' (Says (decide (x.v.deps = y.v.deps)) w')) := fun w' hl =>
    equalI_any x.D y.D x.nd x.cd y.nd y.cd x.v.deps y.v.deps _ (RowK.later hx.deps hl) (RowK.later hy.deps hl) hx.dmost hy.dmost
  clear hx hy
  rw [sameN_parts]
  obtain ⟨⟨id, nt, deps, l⟩, D, nd, cd, L, nl, cl, xs⟩ := x
  obtain ⟨⟨id', nt', deps', l'⟩, D', nd', cd', L', nl', cl', ys⟩ := y
  dsimp only at HS HE ⊢
  unfold paV
  dsimp only
  by_cases h1 : id = id'
  · subst h1
    by_cases h2 : nt = nt'
    · subst h2
      rw [decide_eq_true (rfl : id = id), decide_eq_true (rfl : nt = nt), Bool.true_and, Bool.true_and]
      have HLB : Hid (Later w ((w.alloc (.cells #[.int .i64 id, .string nt, .slice D nd cd, .slice L nl cl] 30)).alloc (.cells #[.int .i64 id, .string nt, .slice D' nd' cd', .slice L' nl' cl'] 30))) := ((Later.refl w).alloc _).alloc _
      have HBX : Hid (BoxAt ((w.alloc (.cells #[.int .i64 id, .string nt, .slice D nd cd, .slice L nl cl] 30)).alloc (.cells #[.int .i64 id, .string nt, .slice D' nd' cd', .slice L' nl' cl'] 30)) w.heap.size #[.int .i64 id, .string nt, .slice D nd cd, .slice L nl cl] 30) := (BoxAt.made w _ _).alloc _
      have HBY : Hid (BoxAt ((w.alloc (.cells #[.int .i64 id, .string nt, .slice D nd cd, .slice L nl cl] 30)).alloc (.cells #[.int .i64 id, .string nt, .slice D' nd' cd', .slice L' nl' cl'] 30)) (w.heap.size + 1) #[.int .i64 id, .string nt, .slice D' nd' cd', .slice L' nl' cl'] 30) := by
        have := BoxAt.made (w.alloc (.cells #[.int .i64 id, .string nt, .slice D nd cd, .slice L nl cl] 30)) #[.int .i64 id, .string nt, .slice D' nd' cd', .slice L' nl' cl'] 30
        rw [World.size_alloc] at this
        exact this
      have HE1 := Lib.hid (HE.out _ HLB.out)
      generalize decide (deps = deps') = dd at HE1 ⊢
      generalize sameS l l' = b at HS ⊢
      generalize hRR : (dd && b) = r
      have HRR := Lib.hid hRR
      clear hRR HE
      go_enter Tryz.func25, Tryz.ntmps25
      go_wp2_with fail
      refine HE1.out.mono ?_
      rintro e w3 ⟨rfl, hl3⟩
      have HL3 := Lib.hid (HLB.out.trans hl3)
      have q0 : w3.cell? ⟨w.heap.size, 3, none⟩ = some (.slice L nl cl) := (HBX.out.later hl3).cell rfl
      have q1 : w3.cell? ⟨w.heap.size + 1, 3, none⟩ = some (.slice L' nl' cl') := (HBY.out.later hl3).cell rfl
      clear hl3 HE1 HBX HBY
      cases dd with
      | false =>
        go_wp2
        go_ret
        exact ⟨by rw [← HRR.out]; rfl, HL3.out⟩
      | true =>
        have HS3 := Lib.hid (HS.out w3 HL3.out)
        clear HS
        go_wp2_with fail
        refine HS3.out.mono ?_
        rintro e w4 ⟨rfl, hl4⟩
        have HL4 := Lib.hid (HL3.out.trans hl4)
        clear hl4 HS3
        go_wp2
        go_ret
        exact ⟨by rw [← HRR.out]; rfl, HL4.out⟩
    · rw [decide_eq_false h2, Bool.false_and, Bool.and_false]
      have t1 := text_ne h2
      go_enter Tryz.func25, Tryz.ntmps25
      go_wp2
      go_ret
      exact ⟨rfl, ((Later.refl w).alloc _).alloc _⟩
  · rw [decide_eq_false h1, Bool.false_and]
    go_enter Tryz.func25, Tryz.ntmps25
    go_wp2
    go_ret
    exact ⟨rfl, ((Later.refl w).alloc _).alloc _⟩

end Go.Proofs.YtlnjhimbgckdcaaGreat

/-
  The statement of the example that swaps two patches: in whatever order its operations come.
-/
namespace Go.Proofs.YtlnjhimbgckdcaaGreat
open Go.RowKit Go.Maps

set_option maxHeartbeats 1600000 in
theorem alive7_region {ops : Array Oper} (hn : ops.size = 16) (hg : goesBack ops = true)
    (o0 : OpIs ops 0 (.move (.tmp 1)) (some 27) [])
    (o1 : OpIs ops 1 (.indexAddr 40 (.tmp 27) (.const (.int .i64 0))) (some 28) [0])
    (o2 : OpIs ops 2 (.load 30 (.tmp 28)) (some 29) [1])
    (o3 : OpIs ops 3 (.move (.tmp 1)) (some 30) [])
    (o4 : OpIs ops 4 (.indexAddr 40 (.tmp 30) (.const (.int .i64 1))) (some 31) [3])
    (o5 : OpIs ops 5 (.load 30 (.tmp 31)) (some 32) [4])
    (o6 : OpIs ops 6 (.call { callee := .value (.func 9), args := #[.tmp 29, .tmp 32], argTypes := #[30, 30] }) (some 33) [2, 5])
    (o7 : OpIs ops 7 (.move (.tmp 33)) (some 26) [6])
    (o8 : OpIs ops 8 (.extract (.tmp 26) 0) (some 34) [7])
    (o9 : OpIs ops 9 (.extract (.tmp 26) 1) (some 35) [7])
    (o10 : OpIs ops 10 (.extract (.tmp 26) 2) (some 36) [7])
    (o11 : OpIs ops 11 (.alloc 30) (some 4) [])
    (o12 : OpIs ops 12 (.alloc 30) (some 5) [])
    (o13 : OpIs ops 13 (.store 30 (.tmp 4) (.tmp 34)) none [11, 8, 6, 12])
    (o14 : OpIs ops 14 (.store 30 (.tmp 5) (.tmp 35)) none [12, 9, 13, 11])
    (o15 : OpIs ops 15 (.assign (.tmp 36)) (some 6) [10])
    {a1 : Act} (hs : 127 <= a1.tmps.size) {wx : World} {gl : Nat} {xs : List PaC} {x x1 : PaC} {r : Option (Pa × Pa)} (e1 : a1.eval (.tmp 1) = .slice (some ⟨gl, 0, none⟩) 3 3) (hrow : RowK 4 wx (some ⟨gl, 0, none⟩) 3 (xs.map paL)) (hx : xs[0]? = some x) (hx1 : xs[1]? = some x1) (okx : PaOk wx x) (okx1 : PaOk wx x1) (hr : swapN x.v x1.v = r)
    {Q : Exit -> Act -> World -> Prop} {id : Nat} (hend : ∀ (D : TwD) (a : Act) (w : World), SameOut a1 a [27, 28, 29, 30, 31, 32, 33, 26, 34, 35, 36, 4, 5, 6] -> a.eval (.tmp 4) = .pointer (some ⟨D.g8, 0, none⟩) -> a.eval (.tmp 5) = .pointer (some ⟨D.g9, 0, none⟩) -> a.eval (.tmp 6) = .bool D.t -> TwS 30 wx r (fun _ _ => True) true true (3) D w -> Q .normal a w) :
    (Code.region id ops true).wp Tryz.prog Q a1 wx := by
  refine region_inv (by kernel_rfl) hg (fun l a w => ∃ D : TwD, SameOut a1 a [27, 28, 29, 30, 31, 32, 33, 26, 34, 35, 36, 4, 5, 6] /\ TwS 30 wx r (fun _ _ => True) (l 11) (l 12) (if l 14 = true then 3 else (if l 13 = true then 2 else (if l 6 = true then 1 else 0))) D w /\ (l 0 = true -> a.eval (.tmp 27) = .slice (some ⟨gl, 0, none⟩) 3 3) /\ (l 1 = true -> a.eval (.tmp 28) = .pointer (some ⟨gl, 0 + 0 * 4, none⟩)) /\ (l 2 = true -> a.eval (.tmp 29) = paV x) /\ (l 3 = true -> a.eval (.tmp 30) = .slice (some ⟨gl, 0, none⟩) 3 3) /\ (l 4 = true -> a.eval (.tmp 31) = .pointer (some ⟨gl, 0 + 1 * 4, none⟩)) /\ (l 5 = true -> a.eval (.tmp 32) = paV x1) /\ (l 6 = true -> a.eval (.tmp 33) = .tuple #[paV D.y, paV D.z, .bool D.t]) /\ (l 7 = true -> a.eval (.tmp 26) = .tuple #[paV D.y, paV D.z, .bool D.t]) /\ (l 8 = true -> a.eval (.tmp 34) = paV D.y) /\ (l 9 = true -> a.eval (.tmp 35) = paV D.z) /\ (l 10 = true -> a.eval (.tmp 36) = .bool D.t) /\ (l 11 = true -> a.eval (.tmp 4) = .pointer (some ⟨D.g8, 0, none⟩)) /\ (l 12 = true -> a.eval (.tmp 5) = .pointer (some ⟨D.g9, 0, none⟩)) /\ (l 15 = true -> a.eval (.tmp 6) = .bool D.t) /\ (l 13 = true -> l 6 = true) /\ (l 14 = true -> l 13 = true) /\ (l 13 = true -> l 12 = true) /\ (l 13 = true -> l 11 = true) /\ (l 14 = true -> l 12 = true) /\ (l 14 = true -> l 11 = true) /\ (l 7 = true -> l 6 = true) /\ (l 8 = true -> l 6 = true) /\ (l 9 = true -> l 6 = true) /\ (l 10 = true -> l 6 = true) /\ (l 15 = true -> l 6 = true)) ?_ ?_ ?_
  · intro l a w i o ho hl hwait ⟨D, so, st, f0, f1, f2, f3, f4, f5, f6, f7, f8, f9, f10, f11, f12, f15, d13_6, d14_13, d13_12, d13_11, d14_12, d14_11, d7_6, d8_6, d9_6, d10_6, d15_6⟩
    have hi : i < 16 := by rw [← hn]; exact (Array.getElem?_eq_some_iff.1 ho).1
    have hc : i = 0 ∨ i = 1 ∨ i = 2 ∨ i = 3 ∨ i = 4 ∨ i = 5 ∨ i = 6 ∨ i = 7 ∨ i = 8 ∨ i = 9 ∨ i = 10 ∨ i = 11 ∨ i = 12 ∨ i = 13 ∨ i = 14 ∨ i = 15 := by omega
    rcases hc with rfl | rfl | rfl | rfl | rfl | rfl | rfl | rfl | rfl | rfl | rfl | rfl | rfl | rfl | rfl | rfl
    · have st0 := st
      have ev : a.eval (.tmp 1) = .slice (some ⟨gl, 0, none⟩) 3 3 := ((show _ = a1.eval _ from by simp only [Act.eval, Array.getD_eq_getD_getElem?, so.out 1 (by decide)]).trans e1)
      refine o0.move ?_
      rw [ev]
      exact ⟨D, (so.put (by decide) _), st, (fun _ => eval_put_same' _ _ _ (by rw [so.size]; show (27 : Nat) < _; omega)), (fun e => (eval_put_other' _ _ (by decide)).trans (f1 e)), (fun e => (eval_put_other' _ _ (by decide)).trans (f2 e)), (fun e => (eval_put_other' _ _ (by decide)).trans (f3 e)), (fun e => (eval_put_other' _ _ (by decide)).trans (f4 e)), (fun e => (eval_put_other' _ _ (by decide)).trans (f5 e)), (fun e => (eval_put_other' _ _ (by decide)).trans (f6 e)), (fun e => (eval_put_other' _ _ (by decide)).trans (f7 e)), (fun e => (eval_put_other' _ _ (by decide)).trans (f8 e)), (fun e => (eval_put_other' _ _ (by decide)).trans (f9 e)), (fun e => (eval_put_other' _ _ (by decide)).trans (f10 e)), (fun e => (eval_put_other' _ _ (by decide)).trans (f11 e)), (fun e => (eval_put_other' _ _ (by decide)).trans (f12 e)), (fun e => (eval_put_other' _ _ (by decide)).trans (f15 e)), d13_6, d14_13, d13_12, d13_11, d14_12, d14_11, d7_6, d8_6, d9_6, d10_6, d15_6⟩
    · have ws := o1.waits ho hwait
      have w0 := ws 0 (by simp)
      have st0 := st
      refine o1.indexNC (m := 0) rfl (f0 w0) (by omega) ?_
      exact ⟨D, (so.put (by decide) _), st, (fun e => (eval_put_other' _ _ (by decide)).trans (f0 e)), (fun _ => eval_put_same' _ _ _ (by rw [so.size]; show (28 : Nat) < _; omega)), (fun e => (eval_put_other' _ _ (by decide)).trans (f2 e)), (fun e => (eval_put_other' _ _ (by decide)).trans (f3 e)), (fun e => (eval_put_other' _ _ (by decide)).trans (f4 e)), (fun e => (eval_put_other' _ _ (by decide)).trans (f5 e)), (fun e => (eval_put_other' _ _ (by decide)).trans (f6 e)), (fun e => (eval_put_other' _ _ (by decide)).trans (f7 e)), (fun e => (eval_put_other' _ _ (by decide)).trans (f8 e)), (fun e => (eval_put_other' _ _ (by decide)).trans (f9 e)), (fun e => (eval_put_other' _ _ (by decide)).trans (f10 e)), (fun e => (eval_put_other' _ _ (by decide)).trans (f11 e)), (fun e => (eval_put_other' _ _ (by decide)).trans (f12 e)), (fun e => (eval_put_other' _ _ (by decide)).trans (f15 e)), d13_6, d14_13, d13_12, d13_11, d14_12, d14_11, d7_6, d8_6, d9_6, d10_6, d15_6⟩
    · have ws := o2.waits ho hwait
      have w1 := ws 1 (by simp)
      have st0 := st
      refine o2.loadNs (f1 w1) (hrow.later st.later) hx ?_
      exact ⟨D, (so.put (by decide) _), st, (fun e => (eval_put_other' _ _ (by decide)).trans (f0 e)), (fun e => (eval_put_other' _ _ (by decide)).trans (f1 e)), (fun _ => eval_put_same' _ _ _ (by rw [so.size]; show (29 : Nat) < _; omega)), (fun e => (eval_put_other' _ _ (by decide)).trans (f3 e)), (fun e => (eval_put_other' _ _ (by decide)).trans (f4 e)), (fun e => (eval_put_other' _ _ (by decide)).trans (f5 e)), (fun e => (eval_put_other' _ _ (by decide)).trans (f6 e)), (fun e => (eval_put_other' _ _ (by decide)).trans (f7 e)), (fun e => (eval_put_other' _ _ (by decide)).trans (f8 e)), (fun e => (eval_put_other' _ _ (by decide)).trans (f9 e)), (fun e => (eval_put_other' _ _ (by decide)).trans (f10 e)), (fun e => (eval_put_other' _ _ (by decide)).trans (f11 e)), (fun e => (eval_put_other' _ _ (by decide)).trans (f12 e)), (fun e => (eval_put_other' _ _ (by decide)).trans (f15 e)), d13_6, d14_13, d13_12, d13_11, d14_12, d14_11, d7_6, d8_6, d9_6, d10_6, d15_6⟩
    · have st0 := st
      have ev : a.eval (.tmp 1) = .slice (some ⟨gl, 0, none⟩) 3 3 := ((show _ = a1.eval _ from by simp only [Act.eval, Array.getD_eq_getD_getElem?, so.out 1 (by decide)]).trans e1)
      refine o3.move ?_
      rw [ev]
      exact ⟨D, (so.put (by decide) _), st, (fun e => (eval_put_other' _ _ (by decide)).trans (f0 e)), (fun e => (eval_put_other' _ _ (by decide)).trans (f1 e)), (fun e => (eval_put_other' _ _ (by decide)).trans (f2 e)), (fun _ => eval_put_same' _ _ _ (by rw [so.size]; show (30 : Nat) < _; omega)), (fun e => (eval_put_other' _ _ (by decide)).trans (f4 e)), (fun e => (eval_put_other' _ _ (by decide)).trans (f5 e)), (fun e => (eval_put_other' _ _ (by decide)).trans (f6 e)), (fun e => (eval_put_other' _ _ (by decide)).trans (f7 e)), (fun e => (eval_put_other' _ _ (by decide)).trans (f8 e)), (fun e => (eval_put_other' _ _ (by decide)).trans (f9 e)), (fun e => (eval_put_other' _ _ (by decide)).trans (f10 e)), (fun e => (eval_put_other' _ _ (by decide)).trans (f11 e)), (fun e => (eval_put_other' _ _ (by decide)).trans (f12 e)), (fun e => (eval_put_other' _ _ (by decide)).trans (f15 e)), d13_6, d14_13, d13_12, d13_11, d14_12, d14_11, d7_6, d8_6, d9_6, d10_6, d15_6⟩
    · have ws := o4.waits ho hwait
      have w3 := ws 3 (by simp)
      have st0 := st
      refine o4.indexNC (m := 1) rfl (f3 w3) (by omega) ?_
      exact ⟨D, (so.put (by decide) _), st, (fun e => (eval_put_other' _ _ (by decide)).trans (f0 e)), (fun e => (eval_put_other' _ _ (by decide)).trans (f1 e)), (fun e => (eval_put_other' _ _ (by decide)).trans (f2 e)), (fun e => (eval_put_other' _ _ (by decide)).trans (f3 e)), (fun _ => eval_put_same' _ _ _ (by rw [so.size]; show (31 : Nat) < _; omega)), (fun e => (eval_put_other' _ _ (by decide)).trans (f5 e)), (fun e => (eval_put_other' _ _ (by decide)).trans (f6 e)), (fun e => (eval_put_other' _ _ (by decide)).trans (f7 e)), (fun e => (eval_put_other' _ _ (by decide)).trans (f8 e)), (fun e => (eval_put_other' _ _ (by decide)).trans (f9 e)), (fun e => (eval_put_other' _ _ (by decide)).trans (f10 e)), (fun e => (eval_put_other' _ _ (by decide)).trans (f11 e)), (fun e => (eval_put_other' _ _ (by decide)).trans (f12 e)), (fun e => (eval_put_other' _ _ (by decide)).trans (f15 e)), d13_6, d14_13, d13_12, d13_11, d14_12, d14_11, d7_6, d8_6, d9_6, d10_6, d15_6⟩
    · have ws := o5.waits ho hwait
      have w4 := ws 4 (by simp)
      have st0 := st
      refine o5.loadNs (f4 w4) (hrow.later st.later) hx1 ?_
      exact ⟨D, (so.put (by decide) _), st, (fun e => (eval_put_other' _ _ (by decide)).trans (f0 e)), (fun e => (eval_put_other' _ _ (by decide)).trans (f1 e)), (fun e => (eval_put_other' _ _ (by decide)).trans (f2 e)), (fun e => (eval_put_other' _ _ (by decide)).trans (f3 e)), (fun e => (eval_put_other' _ _ (by decide)).trans (f4 e)), (fun _ => eval_put_same' _ _ _ (by rw [so.size]; show (32 : Nat) < _; omega)), (fun e => (eval_put_other' _ _ (by decide)).trans (f6 e)), (fun e => (eval_put_other' _ _ (by decide)).trans (f7 e)), (fun e => (eval_put_other' _ _ (by decide)).trans (f8 e)), (fun e => (eval_put_other' _ _ (by decide)).trans (f9 e)), (fun e => (eval_put_other' _ _ (by decide)).trans (f10 e)), (fun e => (eval_put_other' _ _ (by decide)).trans (f11 e)), (fun e => (eval_put_other' _ _ (by decide)).trans (f12 e)), (fun e => (eval_put_other' _ _ (by decide)).trans (f15 e)), d13_6, d14_13, d13_12, d13_11, d14_12, d14_11, d7_6, d8_6, d9_6, d10_6, d15_6⟩
    · have ws := o6.waits ho hwait
      have w2 := ws 2 (by simp)
      have w5 := ws 5 (by simp)
      have n13 : l 13 = false := by cases hx : l 13 with | false => rfl | true => have := d13_6 hx; rw [hl] at this; cases this
      have n14 : l 14 = false := by cases hx : l 14 with | false => rfl | true => have := d14_13 hx; rw [n13] at this; cases this
      have n7 : l 7 = false := by cases hx : l 7 with | false => rfl | true => have := d7_6 hx; rw [hl] at this; cases this
      have n8 : l 8 = false := by cases hx : l 8 with | false => rfl | true => have := d8_6 hx; rw [hl] at this; cases this
      have n9 : l 9 = false := by cases hx : l 9 with | false => rfl | true => have := d9_6 hx; rw [hl] at this; cases this
      have n10 : l 10 = false := by cases hx : l 10 with | false => rfl | true => have := d10_6 hx; rw [hl] at this; cases this
      have n15 : l 15 = false := by cases hx : l 15 with | false => rfl | true => have := d15_6 hx; rw [hl] at this; cases this
      have st0 : TwS 30 wx r (fun _ _ => True) (l 11) (l 12) 0 D w := by
        have hst := st
        simp only [hl, n13, n14, Bool.false_eq_true, if_false] at hst
        exact hst
      refine o6.call2 (enters_of Tryz.func9 (by kernel_rfl) rfl) (f2 w2) (f5 w5) (swap7_any x x1 w (okx.later st0.later) (okx1.later st0.later)) ?_
      rw [hr]
      rintro e w' ⟨y, z, rfl, oy, oz, fy, fz, hl', hno, hv'⟩
      have st1 := st0.swap hl' oy oz hno hv' (fun k _ hk => ⟨fy.away hk, fz.away hk⟩) trivial
      have st2 : TwS 30 wx r (fun _ _ => True) ((more l 6) 11) ((more l 6) 12) (if (more l 6) 14 = true then 3 else (if (more l 6) 13 = true then 2 else (if (more l 6) 6 = true then 1 else 0))) ({ D with y := y, z := z, t := r.isSome }) w' := by
        rw [if_neg (show ¬ (more l 6 14 = true) from by rw [show more l 6 14 = l 14 from rfl, n14]; simp), if_neg (show ¬ (more l 6 13 = true) from by rw [show more l 6 13 = l 13 from rfl, n13]; simp), if_pos (show more l 6 6 = true from rfl)]
        exact st1
      exact ⟨_, rfl, ⟨{ D with y := y, z := z, t := r.isSome }, (so.put (by decide) _), st2, (fun e => (eval_put_other' _ _ (by decide)).trans (f0 e)), (fun e => (eval_put_other' _ _ (by decide)).trans (f1 e)), (fun e => (eval_put_other' _ _ (by decide)).trans (f2 e)), (fun e => (eval_put_other' _ _ (by decide)).trans (f3 e)), (fun e => (eval_put_other' _ _ (by decide)).trans (f4 e)), (fun e => (eval_put_other' _ _ (by decide)).trans (f5 e)), (fun _ => eval_put_same' _ _ _ (by rw [so.size]; show (33 : Nat) < _; omega)), (fun e => by rw [show more l 6 7 = l 7 from rfl, n7] at e; cases e), (fun e => by rw [show more l 6 8 = l 8 from rfl, n8] at e; cases e), (fun e => by rw [show more l 6 9 = l 9 from rfl, n9] at e; cases e), (fun e => by rw [show more l 6 10 = l 10 from rfl, n10] at e; cases e), (fun e => (eval_put_other' _ _ (by decide)).trans (f11 e)), (fun e => (eval_put_other' _ _ (by decide)).trans (f12 e)), (fun e => by rw [show more l 6 15 = l 15 from rfl, n15] at e; cases e), (fun _ => rfl), d14_13, d13_12, d13_11, d14_12, d14_11, (fun _ => rfl), (fun _ => rfl), (fun _ => rfl), (fun _ => rfl), (fun _ => rfl)⟩⟩
    · have ws := o7.waits ho hwait
      have w6 := ws 6 (by simp)
      have st0 := st
      refine o7.move ?_
      rw [f6 w6]
      exact ⟨D, (so.put (by decide) _), st, (fun e => (eval_put_other' _ _ (by decide)).trans (f0 e)), (fun e => (eval_put_other' _ _ (by decide)).trans (f1 e)), (fun e => (eval_put_other' _ _ (by decide)).trans (f2 e)), (fun e => (eval_put_other' _ _ (by decide)).trans (f3 e)), (fun e => (eval_put_other' _ _ (by decide)).trans (f4 e)), (fun e => (eval_put_other' _ _ (by decide)).trans (f5 e)), (fun e => (eval_put_other' _ _ (by decide)).trans (f6 e)), (fun _ => eval_put_same' _ _ _ (by rw [so.size]; show (26 : Nat) < _; omega)), (fun e => (eval_put_other' _ _ (by decide)).trans (f8 e)), (fun e => (eval_put_other' _ _ (by decide)).trans (f9 e)), (fun e => (eval_put_other' _ _ (by decide)).trans (f10 e)), (fun e => (eval_put_other' _ _ (by decide)).trans (f11 e)), (fun e => (eval_put_other' _ _ (by decide)).trans (f12 e)), (fun e => (eval_put_other' _ _ (by decide)).trans (f15 e)), d13_6, d14_13, d13_12, d13_11, d14_12, d14_11, (fun _ => w6), d8_6, d9_6, d10_6, d15_6⟩
    · have ws := o8.waits ho hwait
      have w7 := ws 7 (by simp)
      have w6 := d7_6 w7
      have st0 := st
      refine o8.extract (f7 w7) rfl ?_
      exact ⟨D, (so.put (by decide) _), st, (fun e => (eval_put_other' _ _ (by decide)).trans (f0 e)), (fun e => (eval_put_other' _ _ (by decide)).trans (f1 e)), (fun e => (eval_put_other' _ _ (by decide)).trans (f2 e)), (fun e => (eval_put_other' _ _ (by decide)).trans (f3 e)), (fun e => (eval_put_other' _ _ (by decide)).trans (f4 e)), (fun e => (eval_put_other' _ _ (by decide)).trans (f5 e)), (fun e => (eval_put_other' _ _ (by decide)).trans (f6 e)), (fun e => (eval_put_other' _ _ (by decide)).trans (f7 e)), (fun _ => eval_put_same' _ _ _ (by rw [so.size]; show (34 : Nat) < _; omega)), (fun e => (eval_put_other' _ _ (by decide)).trans (f9 e)), (fun e => (eval_put_other' _ _ (by decide)).trans (f10 e)), (fun e => (eval_put_other' _ _ (by decide)).trans (f11 e)), (fun e => (eval_put_other' _ _ (by decide)).trans (f12 e)), (fun e => (eval_put_other' _ _ (by decide)).trans (f15 e)), d13_6, d14_13, d13_12, d13_11, d14_12, d14_11, d7_6, (fun _ => w6), d9_6, d10_6, d15_6⟩
    · have ws := o9.waits ho hwait
      have w7 := ws 7 (by simp)
      have w6 := d7_6 w7
      have st0 := st
      refine o9.extract (f7 w7) rfl ?_
      exact ⟨D, (so.put (by decide) _), st, (fun e => (eval_put_other' _ _ (by decide)).trans (f0 e)), (fun e => (eval_put_other' _ _ (by decide)).trans (f1 e)), (fun e => (eval_put_other' _ _ (by decide)).trans (f2 e)), (fun e => (eval_put_other' _ _ (by decide)).trans (f3 e)), (fun e => (eval_put_other' _ _ (by decide)).trans (f4 e)), (fun e => (eval_put_other' _ _ (by decide)).trans (f5 e)), (fun e => (eval_put_other' _ _ (by decide)).trans (f6 e)), (fun e => (eval_put_other' _ _ (by decide)).trans (f7 e)), (fun e => (eval_put_other' _ _ (by decide)).trans (f8 e)), (fun _ => eval_put_same' _ _ _ (by rw [so.size]; show (35 : Nat) < _; omega)), (fun e => (eval_put_other' _ _ (by decide)).trans (f10 e)), (fun e => (eval_put_other' _ _ (by decide)).trans (f11 e)), (fun e => (eval_put_other' _ _ (by decide)).trans (f12 e)), (fun e => (eval_put_other' _ _ (by decide)).trans (f15 e)), d13_6, d14_13, d13_12, d13_11, d14_12, d14_11, d7_6, d8_6, (fun _ => w6), d10_6, d15_6⟩
    · have ws := o10.waits ho hwait
      have w7 := ws 7 (by simp)
      have w6 := d7_6 w7
      have st0 := st
      refine o10.extract (f7 w7) rfl ?_
      exact ⟨D, (so.put (by decide) _), st, (fun e => (eval_put_other' _ _ (by decide)).trans (f0 e)), (fun e => (eval_put_other' _ _ (by decide)).trans (f1 e)), (fun e => (eval_put_other' _ _ (by decide)).trans (f2 e)), (fun e => (eval_put_other' _ _ (by decide)).trans (f3 e)), (fun e => (eval_put_other' _ _ (by decide)).trans (f4 e)), (fun e => (eval_put_other' _ _ (by decide)).trans (f5 e)), (fun e => (eval_put_other' _ _ (by decide)).trans (f6 e)), (fun e => (eval_put_other' _ _ (by decide)).trans (f7 e)), (fun e => (eval_put_other' _ _ (by decide)).trans (f8 e)), (fun e => (eval_put_other' _ _ (by decide)).trans (f9 e)), (fun _ => eval_put_same' _ _ _ (by rw [so.size]; show (36 : Nat) < _; omega)), (fun e => (eval_put_other' _ _ (by decide)).trans (f11 e)), (fun e => (eval_put_other' _ _ (by decide)).trans (f12 e)), (fun e => (eval_put_other' _ _ (by decide)).trans (f15 e)), d13_6, d14_13, d13_12, d13_11, d14_12, d14_11, d7_6, d8_6, d9_6, (fun _ => w6), d15_6⟩
    · have n13 : l 13 = false := by cases hx : l 13 with | false => rfl | true => have := d13_11 hx; rw [hl] at this; cases this
      have n14 : l 14 = false := by cases hx : l 14 with | false => rfl | true => have := d14_11 hx; rw [hl] at this; cases this
      have st0 := st
      refine o11.allocN ?_
      have st1 := TwS.alloc8 (by rw [hl] at st0; exact st0) (by
        simp only [n13, n14, Bool.false_eq_true, if_false]
        split <;> omega)
      have st2 : TwS 30 wx r (fun _ _ => True) ((more l 11) 11) ((more l 11) 12) (if (more l 11) 14 = true then 3 else (if (more l 11) 13 = true then 2 else (if (more l 11) 6 = true then 1 else 0))) ({ D with g8 := w.heap.size }) (w.alloc (.cells zeroNL 30)) := st1
      exact ⟨{ D with g8 := w.heap.size }, (so.put (by decide) _), st2, (fun e => (eval_put_other' _ _ (by decide)).trans (f0 e)), (fun e => (eval_put_other' _ _ (by decide)).trans (f1 e)), (fun e => (eval_put_other' _ _ (by decide)).trans (f2 e)), (fun e => (eval_put_other' _ _ (by decide)).trans (f3 e)), (fun e => (eval_put_other' _ _ (by decide)).trans (f4 e)), (fun e => (eval_put_other' _ _ (by decide)).trans (f5 e)), (fun e => (eval_put_other' _ _ (by decide)).trans (f6 e)), (fun e => (eval_put_other' _ _ (by decide)).trans (f7 e)), (fun e => (eval_put_other' _ _ (by decide)).trans (f8 e)), (fun e => (eval_put_other' _ _ (by decide)).trans (f9 e)), (fun e => (eval_put_other' _ _ (by decide)).trans (f10 e)), (fun _ => eval_put_same' _ _ _ (by rw [so.size]; show (4 : Nat) < _; omega)), (fun e => (eval_put_other' _ _ (by decide)).trans (f12 e)), (fun e => (eval_put_other' _ _ (by decide)).trans (f15 e)), d13_6, d14_13, d13_12, (fun _ => rfl), d14_12, (fun _ => rfl), d7_6, d8_6, d9_6, d10_6, d15_6⟩
    · have n13 : l 13 = false := by cases hx : l 13 with | false => rfl | true => have := d13_12 hx; rw [hl] at this; cases this
      have n14 : l 14 = false := by cases hx : l 14 with | false => rfl | true => have := d14_12 hx; rw [hl] at this; cases this
      have st0 := st
      refine o12.allocN ?_
      have st1 := TwS.alloc9 (by rw [hl] at st0; exact st0) (by
        simp only [n13, n14, Bool.false_eq_true, if_false]
        split <;> omega)
      have st2 : TwS 30 wx r (fun _ _ => True) ((more l 12) 11) ((more l 12) 12) (if (more l 12) 14 = true then 3 else (if (more l 12) 13 = true then 2 else (if (more l 12) 6 = true then 1 else 0))) ({ D with g9 := w.heap.size }) (w.alloc (.cells zeroNL 30)) := st1
      exact ⟨{ D with g9 := w.heap.size }, (so.put (by decide) _), st2, (fun e => (eval_put_other' _ _ (by decide)).trans (f0 e)), (fun e => (eval_put_other' _ _ (by decide)).trans (f1 e)), (fun e => (eval_put_other' _ _ (by decide)).trans (f2 e)), (fun e => (eval_put_other' _ _ (by decide)).trans (f3 e)), (fun e => (eval_put_other' _ _ (by decide)).trans (f4 e)), (fun e => (eval_put_other' _ _ (by decide)).trans (f5 e)), (fun e => (eval_put_other' _ _ (by decide)).trans (f6 e)), (fun e => (eval_put_other' _ _ (by decide)).trans (f7 e)), (fun e => (eval_put_other' _ _ (by decide)).trans (f8 e)), (fun e => (eval_put_other' _ _ (by decide)).trans (f9 e)), (fun e => (eval_put_other' _ _ (by decide)).trans (f10 e)), (fun e => (eval_put_other' _ _ (by decide)).trans (f11 e)), (fun _ => eval_put_same' _ _ _ (by rw [so.size]; show (5 : Nat) < _; omega)), (fun e => (eval_put_other' _ _ (by decide)).trans (f15 e)), d13_6, d14_13, (fun _ => rfl), d13_11, (fun _ => rfl), d14_11, d7_6, d8_6, d9_6, d10_6, d15_6⟩
    · have ws := o13.waits ho hwait
      have w11 := ws 11 (by simp)
      have w8 := ws 8 (by simp)
      have w6 := ws 6 (by simp)
      have w12 := ws 12 (by simp)
      have n14 : l 14 = false := by cases hx : l 14 with | false => rfl | true => have := d14_13 hx; rw [hl] at this; cases this
      have st0 : TwS 30 wx r (fun _ _ => True) true true 1 D w := by
        have hst := st
        rw [w11] at hst
        rw [w12] at hst
        simp only [hl, n14, Bool.false_eq_true, if_false, if_true, w6] at hst
        exact hst
      obtain ⟨_, cs, hcs, hbx, _⟩ := st0.b8 rfl
      refine o13.storeA Tryz.patchSize (f11 w11) (f8 w8) hbx hcs ?_
      intro w' hb' ht'
      have st1 := st0.st8 hb' ht'
      have st2 : TwS 30 wx r (fun _ _ => True) ((more l 13) 11) ((more l 13) 12) (if (more l 13) 14 = true then 3 else (if (more l 13) 13 = true then 2 else (if (more l 13) 6 = true then 1 else 0))) (D) w' := by
        rw [show more l 13 11 = true from w11, show more l 13 12 = true from w12, if_neg (show ¬ (more l 13 14 = true) from by rw [show more l 13 14 = l 14 from rfl, n14]; simp), if_pos (show more l 13 13 = true from rfl)]
        exact st1
      exact ⟨D, so, st2, f0, f1, f2, f3, f4, f5, f6, f7, f8, f9, f10, f11, f12, f15, (fun _ => w6), (fun _ => rfl), (fun _ => w12), (fun _ => w11), d14_12, d14_11, d7_6, d8_6, d9_6, d10_6, d15_6⟩
    · have ws := o14.waits ho hwait
      have w12 := ws 12 (by simp)
      have w9 := ws 9 (by simp)
      have w13 := ws 13 (by simp)
      have w11 := ws 11 (by simp)
      have w6 := d13_6 w13
      have st0 : TwS 30 wx r (fun _ _ => True) true true 2 D w := by
        have hst := st
        rw [w11] at hst
        rw [w12] at hst
        simp only [hl, Bool.false_eq_true, if_false, if_true, w13] at hst
        exact hst
      obtain ⟨_, cs, hcs, hbx, _⟩ := st0.b9 rfl
      refine o14.storeA Tryz.patchSize (f12 w12) (f9 w9) hbx hcs ?_
      intro w' hb' ht'
      have st1 := st0.st9 hb' ht'
      have st2 : TwS 30 wx r (fun _ _ => True) ((more l 14) 11) ((more l 14) 12) (if (more l 14) 14 = true then 3 else (if (more l 14) 13 = true then 2 else (if (more l 14) 6 = true then 1 else 0))) (D) w' := by
        rw [show more l 14 11 = true from w11, show more l 14 12 = true from w12, if_pos (show more l 14 14 = true from rfl)]
        exact st1
      exact ⟨D, so, st2, f0, f1, f2, f3, f4, f5, f6, f7, f8, f9, f10, f11, f12, f15, d13_6, (fun _ => w13), d13_12, d13_11, (fun _ => w12), (fun _ => w11), d7_6, d8_6, d9_6, d10_6, d15_6⟩
    · have ws := o15.waits ho hwait
      have w10 := ws 10 (by simp)
      have w6 := d10_6 w10
      have st0 := st
      refine o15.assign ?_
      rw [f10 w10]
      exact ⟨D, (so.put (by decide) _), st, (fun e => (eval_put_other' _ _ (by decide)).trans (f0 e)), (fun e => (eval_put_other' _ _ (by decide)).trans (f1 e)), (fun e => (eval_put_other' _ _ (by decide)).trans (f2 e)), (fun e => (eval_put_other' _ _ (by decide)).trans (f3 e)), (fun e => (eval_put_other' _ _ (by decide)).trans (f4 e)), (fun e => (eval_put_other' _ _ (by decide)).trans (f5 e)), (fun e => (eval_put_other' _ _ (by decide)).trans (f6 e)), (fun e => (eval_put_other' _ _ (by decide)).trans (f7 e)), (fun e => (eval_put_other' _ _ (by decide)).trans (f8 e)), (fun e => (eval_put_other' _ _ (by decide)).trans (f9 e)), (fun e => (eval_put_other' _ _ (by decide)).trans (f10 e)), (fun e => (eval_put_other' _ _ (by decide)).trans (f11 e)), (fun e => (eval_put_other' _ _ (by decide)).trans (f12 e)), (fun _ => eval_put_same' _ _ _ (by rw [so.size]; show (6 : Nat) < _; omega)), d13_6, d14_13, d13_12, d13_11, d14_12, d14_11, d7_6, d8_6, d9_6, d10_6, (fun _ => w6)⟩
  · intro l a w hall ⟨D, so, st, f0, f1, f2, f3, f4, f5, f6, f7, f8, f9, f10, f11, f12, f15, d13_6, d14_13, d13_12, d13_11, d14_12, d14_11, d7_6, d8_6, d9_6, d10_6, d15_6⟩
    rw [hn] at hall
    have hst : TwS 30 wx r (fun _ _ => True) true true 3 D w := by
      have hst := st
      rw [hall 11 (by decide)] at hst
      rw [hall 12 (by decide)] at hst
      simp only [hall 14 (by decide), if_true] at hst
      exact hst
    exact hend D a w so (f11 (hall 11 (by decide))) (f12 (hall 12 (by decide))) (f15 (hall 15 (by decide))) hst
  · have h0 : TwS 30 wx r (fun _ _ => True) false false 0 ⟨zeroN, zeroN, false, 0, 0⟩ { wx with drawn := wx.drawn + 1 } := TwS.start
    exact ⟨⟨zeroN, zeroN, false, 0, 0⟩, SameOut.refl _ _, h0, (fun e => by cases e), (fun e => by cases e), (fun e => by cases e), (fun e => by cases e), (fun e => by cases e), (fun e => by cases e), (fun e => by cases e), (fun e => by cases e), (fun e => by cases e), (fun e => by cases e), (fun e => by cases e), (fun e => by cases e), (fun e => by cases e), (fun e => by cases e), (fun e => by cases e), (fun e => by cases e), (fun e => by cases e), (fun e => by cases e), (fun e => by cases e), (fun e => by cases e), (fun e => by cases e), (fun e => by cases e), (fun e => by cases e), (fun e => by cases e), (fun e => by cases e)⟩

end Go.Proofs.YtlnjhimbgckdcaaGreat
