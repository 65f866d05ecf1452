import Derived.Test.YtomboeiaajggoaaPk27
import Derived.Test.YtomboeiaajggoaaPk26
import Derived.Test.YtomboeiaajggoaaPk32
import Derived.Test.YtomboeiaajggoaaPk33
import Derived.Test.YtomboeiaajggoaaPk5
import Derived.Deep.LoopGhost
import Derived.Deep.QuietTactic
import Derived.BigQuiet
import Derived.Lib.Hide

/-
  The statement of the law NamedRight: in whatever order its operations come.
-/
namespace Go.Proofs.Ytomboeiaajggoaa
open Go.RowKit Go.Maps

def namedRight_region_R (x y : PaC) : Nat → Value → World → Prop
  | 0, v, _ => v = .bool true
  | 1, v, _ => v = .bool true
  | 2, v, _ => v = paV x
  | 3, v, w => ∃ p : PaC, v = paV p ∧ PaOk w p ∧ p.v = x.v
  | 4, v, _ => v = .bool (rightN x.v)
  | 5, v, _ => v = paV x
  | 6, v, _ => v = .bool (rightN x.v)
  | 7, v, _ => v = .bool true
  | 8, v, _ => v = .bool true
  | 9, v, _ => v = .bool true
  | 10, v, _ => v = paV x
  | 11, v, w => ∃ p : PaC, v = paV p ∧ PaOk w p ∧ p.v = x.v
  | 12, v, _ => v = paV y
  | 13, v, w => ∃ p : PaC, v = paV p ∧ PaOk w p ∧ p.v = y.v
  | 14, v, _ => v = .bool (sameN x.v y.v)
  | 15, v, _ => v = paV x
  | 16, v, _ => v = paV y
  | 17, v, _ => v = .bool (sameN x.v y.v)
  | 18, v, _ => v = .bool true
  | 19, v, _ => v = .bool true
  | 20, v, _ => v = .bool true
  | 21, v, _ => v = paV x
  | 22, v, w => ∃ p : PaC, v = paV p ∧ PaOk w p ∧ p.v = x.v
  | 23, v, _ => v = paV x
  | 24, v, w => ∃ p : PaC, v = paV p ∧ PaOk w p ∧ p.v = x.v
  | 25, v, w => ∃ p : PaC, v = paV p ∧ PaOk w p ∧ p.v = x.v
  | 26, v, _ => v = .bool true
  | 27, v, _ => v = .bool true
  | 28, v, _ => v = .bool true
  | _, _, _ => True
set_option maxRecDepth 100000 in
set_option maxHeartbeats 1600000 in
theorem namedRight_region {ops : Array Oper} (hn : ops.size = 29) (hg : goesBack ops = true)
    (o0 : OpIs ops 0 (.call { callee := .value (.func 5), args := #[], argTypes := #[] }) (some 11) [])
    (o1 : OpIs ops 1 (.move (.tmp 11)) (some 12) [0])
    (o2 : OpG ops 2 (.load 25 (.tmp 2)) (some 13) [1] 1 12)
    (o3 : OpG ops 3 (.call { callee := .value (.func 7), args := #[.tmp 13], argTypes := #[25] }) (some 14) [1, 2] 1 12)
    (o4 : OpG ops 4 (.call { callee := .value (.func 6), args := #[.tmp 14], argTypes := #[31] }) (some 15) [1, 3] 1 12)
    (o5 : OpG ops 5 (.load 25 (.tmp 2)) (some 16) [1] 1 12)
    (o6 : OpG ops 6 (.call { callee := .value (.func 8), args := #[.tmp 16], argTypes := #[25] }) (some 17) [1, 5] 1 12)
    (o7 : OpG ops 7 (.binOp .eql 4 (.tmp 15) (.tmp 17) 4) (some 18) [1, 4, 6] 1 12)
    (o8 : OpIs ops 8 (.pick (.tmp 12) (.tmp 18) (.const (.bool false))) (some 19) [1, 7])
    (o9 : OpIs ops 9 (.move (.tmp 19)) (some 20) [8])
    (o10 : OpG ops 10 (.load 25 (.tmp 2)) (some 21) [9] 9 20)
    (o11 : OpG ops 11 (.call { callee := .value (.func 7), args := #[.tmp 21], argTypes := #[25] }) (some 22) [9, 10] 9 20)
    (o12 : OpG ops 12 (.load 25 (.tmp 3)) (some 23) [9] 9 20)
    (o13 : OpG ops 13 (.call { callee := .value (.func 7), args := #[.tmp 23], argTypes := #[25] }) (some 24) [9, 12] 9 20)
    (o14 : OpG ops 14 (.call { callee := .value (.func 9), args := #[.tmp 22, .tmp 24], argTypes := #[31, 31] }) (some 25) [9, 11, 13] 9 20)
    (o15 : OpG ops 15 (.load 25 (.tmp 2)) (some 26) [9] 9 20)
    (o16 : OpG ops 16 (.load 25 (.tmp 3)) (some 27) [9] 9 20)
    (o17 : OpG ops 17 (.call { callee := .value (.func 10), args := #[.tmp 26, .tmp 27], argTypes := #[25, 25] }) (some 28) [9, 15, 16] 9 20)
    (o18 : OpG ops 18 (.binOp .eql 4 (.tmp 25) (.tmp 28) 4) (some 29) [9, 14, 17] 9 20)
    (o19 : OpIs ops 19 (.pick (.tmp 20) (.tmp 29) (.const (.bool false))) (some 30) [9, 18])
    (o20 : OpIs ops 20 (.move (.tmp 30)) (some 31) [19])
    (o21 : OpG ops 21 (.load 25 (.tmp 2)) (some 32) [20] 20 31)
    (o22 : OpG ops 22 (.call { callee := .value (.func 7), args := #[.tmp 32], argTypes := #[25] }) (some 33) [20, 21] 20 31)
    (o23 : OpG ops 23 (.load 25 (.tmp 2)) (some 34) [20] 20 31)
    (o24 : OpG ops 24 (.call { callee := .value (.func 7), args := #[.tmp 34], argTypes := #[25] }) (some 35) [20, 23] 20 31)
    (o25 : OpG ops 25 (.call { callee := .value (.func 11), args := #[.tmp 35], argTypes := #[31] }) (some 36) [20, 24] 20 31)
    (o26 : OpG ops 26 (.call { callee := .value (.func 9), args := #[.tmp 33, .tmp 36], argTypes := #[31, 31] }) (some 37) [20, 22, 25] 20 31)
    (o27 : OpIs ops 27 (.pick (.tmp 31) (.tmp 37) (.const (.bool false))) (some 38) [20, 26])
    (o28 : OpIs ops 28 (.assign (.tmp 38)) (some 4) [27])
    {a1 : Act} (hs : 39 ≤ a1.tmps.size) {wx : World} {x y : PaC} {g2 g3 : Nat} (e2 : a1.eval (.tmp 2) = .pointer (some ⟨g2, 0, none⟩)) (e3 : a1.eval (.tmp 3) = .pointer (some ⟨g3, 0, none⟩)) (okx : PaOk wx x) (oky : PaOk wx y) (hb2 : BoxAt wx g2 (paL x).toArray 25) (hb3 : BoxAt wx g3 (paL y).toArray 25)
    {Q : Exit → Act → World → Prop} {id : Nat} (hend : ∀ (a : Act) (w : World), SameOut a1 a [11, 12, 13, 14, 15, 16, 17, 18, 19, 20, 21, 22, 23, 24, 25, 26, 27, 28, 29, 30, 31, 32, 33, 34, 35, 36, 37, 38, 4] → Later wx w → a.eval (.tmp 4) = .bool true → Q .normal a w) :
    (Code.region id ops true).wp Try.prog Q a1 wx := by
  refine region_reads (n := 29) (by kernel_rfl) hg hn [11, 12, 13, 14, 15, 16, 17, 18, 19, 20, 21, 22, 23, 24, 25, 26, 27, 28, 29, 30, 31, 32, 33, 34, 35, 36, 37, 38, 4] (by decide +kernel) rfl (fun d hd => ?_) (namedRight_region_R x y) ?_ ?_
  · have : d < 39 := by
      have h : ∀ d ∈ ([11, 12, 13, 14, 15, 16, 17, 18, 19, 20, 21, 22, 23, 24, 25, 26, 27, 28, 29, 30, 31, 32, 33, 34, 35, 36, 37, 38, 4] : List Nat), d < 39 := by decide +kernel
      exact h d hd
    omega
  · intro l a w i o K ho hi hwait so hl0 F hK
    have hc : i = 0 ∨ i = 1 ∨ i = 2 ∨ i = 3 ∨ i = 4 ∨ i = 5 ∨ i = 6 ∨ i = 7 ∨ i = 8 ∨ i = 9 ∨ i = 10 ∨ i = 11 ∨ i = 12 ∨ i = 13 ∨ i = 14 ∨ i = 15 ∨ i = 16 ∨ i = 17 ∨ i = 18 ∨ i = 19 ∨ i = 20 ∨ i = 21 ∨ i = 22 ∨ i = 23 ∨ i = 24 ∨ i = 25 ∨ i = 26 ∨ i = 27 ∨ i = 28 := by omega
    rcases hc with rfl | rfl | rfl | rfl | rfl | rfl | rfl | rfl | rfl | rfl | rfl | rfl | rfl | rfl | rfl | rfl | rfl | rfl | rfl | rfl | rfl | rfl | rfl | rfl | rfl | rfl | rfl | rfl | rfl
    · refine o0.call0 (enters_of Try.func5 (by kernel_rfl) rfl) (alive7_any w) ?_
      rintro e w' ⟨rfl, hl'⟩
      exact ⟨_, rfl, hK _ _ hl' rfl⟩
    · have ws := o1.waits ho hwait
      have f0 : a.eval (.tmp 11) = .bool true := by obtain ⟨_, _, _, h⟩ := F 0 (ws 0 (by simp)) (by decide); exact h
      refine o1.move ?_
      rw [show a.eval (.tmp 11) = .bool true from f0]
      exact hK _ _ (Later.refl w) rfl
    · have ws := o2.waits ho hwait
      have f1 : a.eval (.tmp 12) = .bool true := by obtain ⟨_, _, _, h⟩ := F 1 (ws 1 (by simp)) (by decide); exact h
      refine o2.via f1 (by rw [so.size]; show (12 : Nat) < _; omega) ?_
      refine o2.un.loadA Try.underlying25 Try.rpatchSize ((show _ = a1.eval _ from by simp only [Act.eval, Array.getD_eq_getD_getElem?, so.out 2 (by decide)]).trans e2) (hb2.later hl0) ?_
      exact hK _ _ (Later.refl w) rfl
    · have ws := o3.waits ho hwait
      have f1 : a.eval (.tmp 12) = .bool true := by obtain ⟨_, _, _, h⟩ := F 1 (ws 1 (by simp)) (by decide); exact h
      have f2 : a.eval (.tmp 13) = paV x := by obtain ⟨_, _, _, h⟩ := F 2 (ws 2 (by simp)) (by decide); exact h
      refine o3.via f1 (by rw [so.size]; show (12 : Nat) < _; omega) ?_
      refine o3.un.call1 (enters_of Try.func7 (by kernel_rfl) rfl) f2 (new7_any x w (okx.later hl0)) ?_
      rintro e w' ⟨p, rfl, ev', ok', -, hl'⟩
      exact ⟨_, rfl, hK _ _ hl' ⟨p, rfl, ok', ev'⟩⟩
    · have ws := o4.waits ho hwait
      have f1 : a.eval (.tmp 12) = .bool true := by obtain ⟨_, _, _, h⟩ := F 1 (ws 1 (by simp)) (by decide); exact h
      obtain ⟨x3, y3, z3, f3⟩ := F 3 (ws 3 (by simp)) (by decide)
      refine o4.via f1 (by rw [so.size]; show (12 : Nat) < _; omega) ?_
      obtain ⟨p, fe, ok1, ev1⟩ := f3
      refine o4.un.call1 (enters_of Try.func6 (by kernel_rfl) rfl) fe (right7_any p w (ok1.later z3)) ?_
      rintro e w' ⟨rfl, hl'⟩
      exact ⟨_, rfl, hK _ _ hl' (by show Value.bool _ = _; rw [ev1])⟩
    · have ws := o5.waits ho hwait
      have f1 : a.eval (.tmp 12) = .bool true := by obtain ⟨_, _, _, h⟩ := F 1 (ws 1 (by simp)) (by decide); exact h
      refine o5.via f1 (by rw [so.size]; show (12 : Nat) < _; omega) ?_
      refine o5.un.loadA Try.underlying25 Try.rpatchSize ((show _ = a1.eval _ from by simp only [Act.eval, Array.getD_eq_getD_getElem?, so.out 2 (by decide)]).trans e2) (hb2.later hl0) ?_
      exact hK _ _ (Later.refl w) rfl
    · have ws := o6.waits ho hwait
      have f1 : a.eval (.tmp 12) = .bool true := by obtain ⟨_, _, _, h⟩ := F 1 (ws 1 (by simp)) (by decide); exact h
      have f5 : a.eval (.tmp 16) = paV x := by obtain ⟨_, _, _, h⟩ := F 5 (ws 5 (by simp)) (by decide); exact h
      refine o6.via f1 (by rw [so.size]; show (12 : Nat) < _; omega) ?_
      refine o6.un.call1 (enters_of Try.func8 (by kernel_rfl) rfl) f5 (refRight7_any x w (okx.later hl0)) ?_
      rintro e w' ⟨rfl, hl'⟩
      exact ⟨_, rfl, hK _ _ hl' rfl⟩
    · have ws := o7.waits ho hwait
      have f1 : a.eval (.tmp 12) = .bool true := by obtain ⟨_, _, _, h⟩ := F 1 (ws 1 (by simp)) (by decide); exact h
      have f4 : a.eval (.tmp 15) = .bool (rightN x.v) := by obtain ⟨_, _, _, h⟩ := F 4 (ws 4 (by simp)) (by decide); exact h
      have f6 : a.eval (.tmp 17) = .bool (rightN x.v) := by obtain ⟨_, _, _, h⟩ := F 6 (ws 6 (by simp)) (by decide); exact h
      refine o7.via f1 (by rw [so.size]; show (12 : Nat) < _; omega) ?_
      refine o7.un.eqlB f4 f6 ?_
      exact hK _ _ (Later.refl w) rfl
    · have ws := o8.waits ho hwait
      have f1 : a.eval (.tmp 12) = .bool true := by obtain ⟨_, _, _, h⟩ := F 1 (ws 1 (by simp)) (by decide); exact h
      have f7 : a.eval (.tmp 18) = .bool true := by obtain ⟨_, _, _, h⟩ := F 7 (ws 7 (by simp)) (by decide); exact h
      refine o8.pick f1 f7 ?_
      exact hK _ _ (Later.refl w) rfl
    · have ws := o9.waits ho hwait
      have f8 : a.eval (.tmp 19) = .bool true := by obtain ⟨_, _, _, h⟩ := F 8 (ws 8 (by simp)) (by decide); exact h
      refine o9.move ?_
      rw [show a.eval (.tmp 19) = .bool true from f8]
      exact hK _ _ (Later.refl w) rfl
    · have ws := o10.waits ho hwait
      have f9 : a.eval (.tmp 20) = .bool true := by obtain ⟨_, _, _, h⟩ := F 9 (ws 9 (by simp)) (by decide); exact h
      refine o10.via f9 (by rw [so.size]; show (20 : Nat) < _; omega) ?_
      refine o10.un.loadA Try.underlying25 Try.rpatchSize ((show _ = a1.eval _ from by simp only [Act.eval, Array.getD_eq_getD_getElem?, so.out 2 (by decide)]).trans e2) (hb2.later hl0) ?_
      exact hK _ _ (Later.refl w) rfl
    · have ws := o11.waits ho hwait
      have f9 : a.eval (.tmp 20) = .bool true := by obtain ⟨_, _, _, h⟩ := F 9 (ws 9 (by simp)) (by decide); exact h
      have f10 : a.eval (.tmp 21) = paV x := by obtain ⟨_, _, _, h⟩ := F 10 (ws 10 (by simp)) (by decide); exact h
      refine o11.via f9 (by rw [so.size]; show (20 : Nat) < _; omega) ?_
      refine o11.un.call1 (enters_of Try.func7 (by kernel_rfl) rfl) f10 (new7_any x w (okx.later hl0)) ?_
      rintro e w' ⟨p, rfl, ev', ok', -, hl'⟩
      exact ⟨_, rfl, hK _ _ hl' ⟨p, rfl, ok', ev'⟩⟩
    · have ws := o12.waits ho hwait
      have f9 : a.eval (.tmp 20) = .bool true := by obtain ⟨_, _, _, h⟩ := F 9 (ws 9 (by simp)) (by decide); exact h
      refine o12.via f9 (by rw [so.size]; show (20 : Nat) < _; omega) ?_
      refine o12.un.loadA Try.underlying25 Try.rpatchSize ((show _ = a1.eval _ from by simp only [Act.eval, Array.getD_eq_getD_getElem?, so.out 3 (by decide)]).trans e3) (hb3.later hl0) ?_
      exact hK _ _ (Later.refl w) rfl
    · have ws := o13.waits ho hwait
      have f9 : a.eval (.tmp 20) = .bool true := by obtain ⟨_, _, _, h⟩ := F 9 (ws 9 (by simp)) (by decide); exact h
      have f12 : a.eval (.tmp 23) = paV y := by obtain ⟨_, _, _, h⟩ := F 12 (ws 12 (by simp)) (by decide); exact h
      refine o13.via f9 (by rw [so.size]; show (20 : Nat) < _; omega) ?_
      refine o13.un.call1 (enters_of Try.func7 (by kernel_rfl) rfl) f12 (new7_any y w (oky.later hl0)) ?_
      rintro e w' ⟨p, rfl, ev', ok', -, hl'⟩
      exact ⟨_, rfl, hK _ _ hl' ⟨p, rfl, ok', ev'⟩⟩
    · have ws := o14.waits ho hwait
      have f9 : a.eval (.tmp 20) = .bool true := by obtain ⟨_, _, _, h⟩ := F 9 (ws 9 (by simp)) (by decide); exact h
      obtain ⟨x11, y11, z11, f11⟩ := F 11 (ws 11 (by simp)) (by decide)
      obtain ⟨x13, y13, z13, f13⟩ := F 13 (ws 13 (by simp)) (by decide)
      refine o14.via f9 (by rw [so.size]; show (20 : Nat) < _; omega) ?_
      obtain ⟨p, fe, ok1, ev1⟩ := f11
      obtain ⟨q, ge, ok2, ev2⟩ := f13
      refine o14.un.call2 (enters_of Try.func9 (by kernel_rfl) rfl) fe ge (same7_any p q w (ok1.later z11) (ok2.later z13)) ?_
      rintro e w' ⟨rfl, hl'⟩
      exact ⟨_, rfl, hK _ _ hl' (by show Value.bool _ = _; rw [ev1, ev2])⟩
    · have ws := o15.waits ho hwait
      have f9 : a.eval (.tmp 20) = .bool true := by obtain ⟨_, _, _, h⟩ := F 9 (ws 9 (by simp)) (by decide); exact h
      refine o15.via f9 (by rw [so.size]; show (20 : Nat) < _; omega) ?_
      refine o15.un.loadA Try.underlying25 Try.rpatchSize ((show _ = a1.eval _ from by simp only [Act.eval, Array.getD_eq_getD_getElem?, so.out 2 (by decide)]).trans e2) (hb2.later hl0) ?_
      exact hK _ _ (Later.refl w) rfl
    · have ws := o16.waits ho hwait
      have f9 : a.eval (.tmp 20) = .bool true := by obtain ⟨_, _, _, h⟩ := F 9 (ws 9 (by simp)) (by decide); exact h
      refine o16.via f9 (by rw [so.size]; show (20 : Nat) < _; omega) ?_
      refine o16.un.loadA Try.underlying25 Try.rpatchSize ((show _ = a1.eval _ from by simp only [Act.eval, Array.getD_eq_getD_getElem?, so.out 3 (by decide)]).trans e3) (hb3.later hl0) ?_
      exact hK _ _ (Later.refl w) rfl
    · have ws := o17.waits ho hwait
      have f9 : a.eval (.tmp 20) = .bool true := by obtain ⟨_, _, _, h⟩ := F 9 (ws 9 (by simp)) (by decide); exact h
      have f15 : a.eval (.tmp 26) = paV x := by obtain ⟨_, _, _, h⟩ := F 15 (ws 15 (by simp)) (by decide); exact h
      have f16 : a.eval (.tmp 27) = paV y := by obtain ⟨_, _, _, h⟩ := F 16 (ws 16 (by simp)) (by decide); exact h
      refine o17.via f9 (by rw [so.size]; show (20 : Nat) < _; omega) ?_
      refine o17.un.call2 (enters_of Try.func10 (by kernel_rfl) rfl) f15 f16 (refSame7_any x y w (okx.later hl0) (oky.later hl0)) ?_
      rintro e w' ⟨rfl, hl'⟩
      exact ⟨_, rfl, hK _ _ hl' rfl⟩
    · have ws := o18.waits ho hwait
      have f9 : a.eval (.tmp 20) = .bool true := by obtain ⟨_, _, _, h⟩ := F 9 (ws 9 (by simp)) (by decide); exact h
      have f14 : a.eval (.tmp 25) = .bool (sameN x.v y.v) := by obtain ⟨_, _, _, h⟩ := F 14 (ws 14 (by simp)) (by decide); exact h
      have f17 : a.eval (.tmp 28) = .bool (sameN x.v y.v) := by obtain ⟨_, _, _, h⟩ := F 17 (ws 17 (by simp)) (by decide); exact h
      refine o18.via f9 (by rw [so.size]; show (20 : Nat) < _; omega) ?_
      refine o18.un.eqlB f14 f17 ?_
      exact hK _ _ (Later.refl w) rfl
    · have ws := o19.waits ho hwait
      have f9 : a.eval (.tmp 20) = .bool true := by obtain ⟨_, _, _, h⟩ := F 9 (ws 9 (by simp)) (by decide); exact h
      have f18 : a.eval (.tmp 29) = .bool true := by obtain ⟨_, _, _, h⟩ := F 18 (ws 18 (by simp)) (by decide); exact h
      refine o19.pick f9 f18 ?_
      exact hK _ _ (Later.refl w) rfl
    · have ws := o20.waits ho hwait
      have f19 : a.eval (.tmp 30) = .bool true := by obtain ⟨_, _, _, h⟩ := F 19 (ws 19 (by simp)) (by decide); exact h
      refine o20.move ?_
      rw [show a.eval (.tmp 30) = .bool true from f19]
      exact hK _ _ (Later.refl w) rfl
    · have ws := o21.waits ho hwait
      have f20 : a.eval (.tmp 31) = .bool true := by obtain ⟨_, _, _, h⟩ := F 20 (ws 20 (by simp)) (by decide); exact h
      refine o21.via f20 (by rw [so.size]; show (31 : Nat) < _; omega) ?_
      refine o21.un.loadA Try.underlying25 Try.rpatchSize ((show _ = a1.eval _ from by simp only [Act.eval, Array.getD_eq_getD_getElem?, so.out 2 (by decide)]).trans e2) (hb2.later hl0) ?_
      exact hK _ _ (Later.refl w) rfl
    · have ws := o22.waits ho hwait
      have f20 : a.eval (.tmp 31) = .bool true := by obtain ⟨_, _, _, h⟩ := F 20 (ws 20 (by simp)) (by decide); exact h
      have f21 : a.eval (.tmp 32) = paV x := by obtain ⟨_, _, _, h⟩ := F 21 (ws 21 (by simp)) (by decide); exact h
      refine o22.via f20 (by rw [so.size]; show (31 : Nat) < _; omega) ?_
      refine o22.un.call1 (enters_of Try.func7 (by kernel_rfl) rfl) f21 (new7_any x w (okx.later hl0)) ?_
      rintro e w' ⟨p, rfl, ev', ok', -, hl'⟩
      exact ⟨_, rfl, hK _ _ hl' ⟨p, rfl, ok', ev'⟩⟩
    · have ws := o23.waits ho hwait
      have f20 : a.eval (.tmp 31) = .bool true := by obtain ⟨_, _, _, h⟩ := F 20 (ws 20 (by simp)) (by decide); exact h
      refine o23.via f20 (by rw [so.size]; show (31 : Nat) < _; omega) ?_
      refine o23.un.loadA Try.underlying25 Try.rpatchSize ((show _ = a1.eval _ from by simp only [Act.eval, Array.getD_eq_getD_getElem?, so.out 2 (by decide)]).trans e2) (hb2.later hl0) ?_
      exact hK _ _ (Later.refl w) rfl
    · have ws := o24.waits ho hwait
      have f20 : a.eval (.tmp 31) = .bool true := by obtain ⟨_, _, _, h⟩ := F 20 (ws 20 (by simp)) (by decide); exact h
      have f23 : a.eval (.tmp 34) = paV x := by obtain ⟨_, _, _, h⟩ := F 23 (ws 23 (by simp)) (by decide); exact h
      refine o24.via f20 (by rw [so.size]; show (31 : Nat) < _; omega) ?_
      refine o24.un.call1 (enters_of Try.func7 (by kernel_rfl) rfl) f23 (new7_any x w (okx.later hl0)) ?_
      rintro e w' ⟨p, rfl, ev', ok', -, hl'⟩
      exact ⟨_, rfl, hK _ _ hl' ⟨p, rfl, ok', ev'⟩⟩
    · have ws := o25.waits ho hwait
      have f20 : a.eval (.tmp 31) = .bool true := by obtain ⟨_, _, _, h⟩ := F 20 (ws 20 (by simp)) (by decide); exact h
      obtain ⟨x24, y24, z24, f24⟩ := F 24 (ws 24 (by simp)) (by decide)
      refine o25.via f20 (by rw [so.size]; show (31 : Nat) < _; omega) ?_
      obtain ⟨p, fe, ok1, ev1⟩ := f24
      refine o25.un.call1 (enters_of Try.func11 (by kernel_rfl) rfl) fe (clone7_any p w (ok1.later z24)) ?_
      rintro e w' ⟨q, rfl, ev', ok', -, hl'⟩
      exact ⟨_, rfl, hK _ _ hl' ⟨q, rfl, ok', ev'.trans ev1⟩⟩
    · have ws := o26.waits ho hwait
      have f20 : a.eval (.tmp 31) = .bool true := by obtain ⟨_, _, _, h⟩ := F 20 (ws 20 (by simp)) (by decide); exact h
      obtain ⟨x22, y22, z22, f22⟩ := F 22 (ws 22 (by simp)) (by decide)
      obtain ⟨x25, y25, z25, f25⟩ := F 25 (ws 25 (by simp)) (by decide)
      refine o26.via f20 (by rw [so.size]; show (31 : Nat) < _; omega) ?_
      obtain ⟨p, fe, ok1, ev1⟩ := f22
      obtain ⟨q, ge, ok2, ev2⟩ := f25
      refine o26.un.call2 (enters_of Try.func9 (by kernel_rfl) rfl) fe ge (same7_any p q w (ok1.later z22) (ok2.later z25)) ?_
      rintro e w' ⟨rfl, hl'⟩
      exact ⟨_, rfl, hK _ _ hl' (by show Value.bool _ = _; rw [ev1, ev2, sameN_iff.2 rfl])⟩
    · have ws := o27.waits ho hwait
      have f20 : a.eval (.tmp 31) = .bool true := by obtain ⟨_, _, _, h⟩ := F 20 (ws 20 (by simp)) (by decide); exact h
      have f26 : a.eval (.tmp 37) = .bool true := by obtain ⟨_, _, _, h⟩ := F 26 (ws 26 (by simp)) (by decide); exact h
      refine o27.pick f20 f26 ?_
      exact hK _ _ (Later.refl w) rfl
    · have ws := o28.waits ho hwait
      have f27 : a.eval (.tmp 38) = .bool true := by obtain ⟨_, _, _, h⟩ := F 27 (ws 27 (by simp)) (by decide); exact h
      refine o28.assign ?_
      rw [show a.eval (.tmp 38) = .bool true from f27]
      exact hK _ _ (Later.refl w) rfl
  · intro a w so hl F
    exact hend a w so hl (by obtain ⟨_, _, _, h⟩ := F 28 rfl (by decide); exact h)

end Go.Proofs.Ytomboeiaajggoaa

/-
  What the statements' own Many comes to, as a call: what prims weigh.
-/
namespace Go.Proofs.Ytomboeiaajggoaa
open Go.RowKit

theorem sizesP_take {l : List ByteArray} {k : Nat} (h : k < l.length) : ((l.take (k + 1)).map ByteArray.size).sum = ((l.take k).map ByteArray.size).sum + (l.getD k ByteArray.empty).size := by
  rw [List.take_succ_eq_append_getElem h, List.map_append, List.sum_append]
  simp [List.getD, List.getElem?_eq_getElem h]
theorem sizesP_take_le (l : List ByteArray) (k : Nat) : ((l.take k).map ByteArray.size).sum ≤ (l.map ByteArray.size).sum := by
  have : (l.map ByteArray.size).sum = ((l.take k).map ByteArray.size).sum + ((l.drop k).map ByteArray.size).sum := by
    rw [← List.sum_append, ← List.map_append, List.take_append_drop]
  omega

set_option maxRecDepth 100000 in
set_option maxHeartbeats 1000000 in
theorem manyP_any (A : Option Addr) (n c : Nat) (xs : List PrC) (w : World) (hx : Prims w A n xs) (hn : n ≤ 1048576) (hW : weightPs xs ≤ 4194304) :
    Calls Try.prog 29 #[.slice A n c] w fun e w' => e = .returned (.int .i64 (n + weightPs xs : Nat)) ∧ Later w w' := by
  have HX := Lib.hid hx; clear hx
  go_enter Try.func29, Try.ntmps29
  go_wp2
  go_loopg [3, 14] (n + 1) (fun g s3 s14 wr => ∃ k : Nat, k ≤ n ∧ n - k ≤ g ∧ s14 = .int .i64 k ∧ s3 = .int .i64 (n + weightPs (xs.take k) : Nat) ∧ Later w wr)
  case atStart => exact ⟨0, Nat.zero_le _, by omega, rfl, rfl, Later.refl w⟩
  case round =>
    obtain ⟨k, hk, hg, rfl, rfl, hwr⟩ := hrel
    by_cases hlt : k < n
    · obtain ⟨b, o, x, rfl, hz, g0, g1, g2, g3, g4, g5⟩ := (HX.out.later hwr).get hlt
      have hstep := weightPs_take hz
      have hle := weightPs_take_le xs (k + 1)
      rw [hstep] at hle
      have hcm := (HX.out.later hwr).each x (List.mem_of_getElem? hz)
      have hlen := hcm.old.len
      have hlen2 := hcm.new.len
      have HW := Lib.hid hwr; have HROW := Lib.hid hcm.old; have HROW2 := Lib.hid hcm.new
      have hwt : weightP x.v = x.v.name.size + x.v.to.size + x.n + x.m + (x.v.old.map ByteArray.size).sum + (x.v.new.map ByteArray.size).sum := by unfold weightP; rw [hlen, hlen2]
      rw [hwt] at hle hstep
      have hle2 : n + weightPs (xs.take k) + x.v.name.size + x.v.to.size + x.n + x.m + (x.v.old.map ByteArray.size).sum + (x.v.new.map ByteArray.size).sum ≤ 6000000 := by omega
      have HST := Lib.hid hstep
      clear hle hstep hwt hcm hwr hz
      generalize weightPs (xs.take k) = W0 at HST hle2 ⊢
      generalize x.v.name = nm at *
      generalize x.v.to = to at *
      generalize x.v.old = l at *
      generalize x.v.new = r at *
      generalize x.v.kind = kd at *
      generalize x.v.place = pl at *
      generalize x.n = nl at *
      generalize x.A = Al at *
      generalize x.c = cl at *
      generalize x.m = nr at *
      generalize x.B = Ar at *
      generalize x.d = cr at *
      have hlb : Later wr (wr.alloc (.cells #[.int .i64 kd, .string nm, .string to, .int .i64 pl, .slice Al nl cl, .slice Ar nr cr] 68)) := (Later.refl wr).alloc _
      have HLB := Lib.hid hlb; clear hlb
      have HLEN := Lib.hid hlen; have HLEN2 := Lib.hid hlen2; clear hlen hlen2
      go_wp2
      go_loopg [3, 38] (nl + 1) (fun g s3 s38 wx => ∃ j : Nat, j ≤ nl ∧ nl - j ≤ g ∧ s38 = .int .i64 j ∧ s3 = .int .i64 (n + W0 + nm.size + to.size + nl + nr + ((l.take j).map ByteArray.size).sum : Nat) ∧ wx = wr.alloc (.cells #[.int .i64 kd, .string nm, .string to, .int .i64 pl, .slice Al nl cl, .slice Ar nr cr] 68))
      case atStart => exact ⟨0, Nat.zero_le _, by omega, rfl, by simp; go_num, rfl⟩
      case round =>
        obtain ⟨j, hj, hgj, rfl, rfl, rfl⟩ := hrel
        by_cases hjl : j < nl
        · obtain ⟨b1, o1, rfl, h4⟩ := (HROW.out.later HLB.out).get hjl
          have h1 := sizesP_take (l := l) (k := j) (by rw [HLEN.out]; exact hjl)
          have h2 := sizesP_take_le l (j + 1)
          rw [h1] at h2
          have H1 := Lib.hid h1; clear h1
          generalize l.getD j ByteArray.empty = sx at *
          generalize ((l.take j).map ByteArray.size).sum = S at *
          go_wp2
          go_roundg (nl - (j + 1))
          case measure => omega
          case rel => exact ⟨j + 1, by omega, Nat.le_refl _, by go_num, by rw [H1.out]; go_num, rfl⟩
        · have e : l.take j = l := List.take_of_length_le (by rw [HLEN.out]; omega)
          rw [e]
          clear e
          generalize (l.map ByteArray.size).sum = S1 at *
          go_wp2
          go_loopg [3, 50] (nr + 1) (fun g s3 s50 wx => ∃ j : Nat, j ≤ nr ∧ nr - j ≤ g ∧ s50 = .int .i64 j ∧ s3 = .int .i64 (n + W0 + nm.size + to.size + nl + nr + S1 + ((r.take j).map ByteArray.size).sum : Nat) ∧ wx = wr.alloc (.cells #[.int .i64 kd, .string nm, .string to, .int .i64 pl, .slice Al nl cl, .slice Ar nr cr] 68))
          case atStart => exact ⟨0, Nat.zero_le _, by omega, rfl, by simp, rfl⟩
          case round =>
            obtain ⟨i, hi, hgi, rfl, rfl, rfl⟩ := hrel
            by_cases hil : i < nr
            · obtain ⟨b1, o1, rfl, h4⟩ := (HROW2.out.later HLB.out).get hil
              have h1 := sizesP_take (l := r) (k := i) (by rw [HLEN2.out]; exact hil)
              have h2 := sizesP_take_le r (i + 1)
              rw [h1] at h2
              have H1 := Lib.hid h1; clear h1
              generalize r.getD i ByteArray.empty = sx at *
              generalize ((r.take i).map ByteArray.size).sum = S at *
              go_wp2
              go_roundg (nr - (i + 1))
              case measure => omega
              case rel => exact ⟨i + 1, by omega, Nat.le_refl _, by go_num, by rw [H1.out]; go_num, rfl⟩
            · have e : r.take i = r := List.take_of_length_le (by rw [HLEN2.out]; omega)
              rw [e]
              clear e
              go_wp2
              go_roundg (n - (k + 1))
              case measure => omega
              case rel => exact ⟨k + 1, by omega, Nat.le_refl _, by go_num, by rw [HST.out]; go_num, HW.out.trans HLB.out⟩
    · have e : xs.take k = xs := List.take_of_length_le (by rw [HX.out.len]; omega)
      rw [e]
      have HW := Lib.hid hwr
      clear e hwr
      go_wp2
      go_ret
      exact ⟨rfl, HW.out⟩

end Go.Proofs.Ytomboeiaajggoaa
