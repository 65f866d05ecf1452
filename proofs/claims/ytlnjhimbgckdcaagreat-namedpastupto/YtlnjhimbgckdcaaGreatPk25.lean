import Derived.Test.YtlnjhimbgckdcaaGreatPk22
import Derived.Test.YtlnjhimbgckdcaaGreatPk24

/-
  The statement of the document's own Right of patches: in whatever order its operations come, by its ways (3).
-/
namespace Go.Proofs.YtlnjhimbgckdcaaGreat
open Go.RowKit Go.Maps

def rr_five_R (gb b o_ nd cd j : Nat) (idn d p : Int) : Nat -> Value -> World -> Prop
  | 0, v, _ => v = .pointer (some ⟨gb, 0 + 2, none⟩)
  | 1, v, _ => v = .slice (some ⟨b, o_, none⟩) nd cd
  | 2, v, _ => v = .int .i64 (j + 1 : Nat)
  | 3, v, _ => v = .pointer (some ⟨b, o_ + j + 1, none⟩)
  | 4, v, _ => v = .int .i64 d
  | 5, v, _ => v = .bool false
  | 6, v, _ => v = .bool false
  | 7, v, _ => v = .pointer (some ⟨gb, 0 + 2, none⟩)
  | 8, v, _ => v = .slice (some ⟨b, o_, none⟩) nd cd
  | 9, v, _ => v = .int .i64 (j + 1 : Nat)
  | 10, v, _ => v = .pointer (some ⟨b, o_ + j + 1, none⟩)
  | 11, v, _ => v = .int .i64 d
  | 12, v, _ => v = .bool false
  | 13, v, _ => v = .bool false
  | 14, v, _ => v = .bool false
  | 15, v, _ => v = .pointer (some ⟨gb, 0 + 2, none⟩)
  | 16, v, _ => v = .slice (some ⟨b, o_, none⟩) nd cd
  | 17, v, _ => v = .int .i64 (j + 1 : Nat)
  | 18, v, _ => v = .pointer (some ⟨b, o_ + j + 1, none⟩)
  | 19, v, _ => v = .int .i64 d
  | 20, v, _ => v = .pointer (some ⟨gb, 0 + 0, none⟩)
  | 21, v, _ => v = .int .i64 idn
  | 22, v, _ => v = .bool false
  | 23, v, _ => v = .bool false
  | 24, v, _ => v = .bool false
  | 25, v, _ => v = .int .i64 (j + 1 : Nat)
  | 26, v, _ => v = .bool true
  | 27, v, _ => v = .bool true
  | 28, v, _ => v = .pointer (some ⟨gb, 0 + 2, none⟩)
  | 29, v, _ => v = .slice (some ⟨b, o_, none⟩) nd cd
  | 30, v, _ => v = .int .i64 (j + 1 : Nat)
  | 31, v, _ => v = .pointer (some ⟨b, o_ + j + 1, none⟩)
  | 32, v, _ => v = .int .i64 d
  | 33, v, _ => v = .pointer (some ⟨gb, 0 + 2, none⟩)
  | 34, v, _ => v = .slice (some ⟨b, o_, none⟩) nd cd
  | 35, v, _ => v = .int .i64 (j + 1 : Nat)
  | 36, v, _ => v = .int .i64 (j : Nat)
  | 37, v, _ => v = .pointer (some ⟨b, o_ + j, none⟩)
  | 38, v, _ => v = .int .i64 p
  | 39, v, _ => v = .bool true
  | 40, v, _ => v = .bool true
  | 41, v, _ => v = .bool true
  | _, _, _ => True
set_option maxRecDepth 100000 in
set_option maxHeartbeats 1600000 in
theorem rr_five {ops : Array Oper} (hn : ops.size = 42) (hg : goesBack ops = true)
    (o0 : OpIs ops 0 (.fieldAddr 25 (.tmp 1) 2) (some 43) [])
    (o1 : OpIs ops 1 (.load 22 (.tmp 43)) (some 44) [0])
    (o2 : OpIs ops 2 (.move (.tmp 3)) (some 45) [])
    (o3 : OpIs ops 3 (.indexAddr 22 (.tmp 44) (.tmp 45)) (some 46) [1, 2])
    (o4 : OpIs ops 4 (.load 3 (.tmp 46)) (some 47) [3])
    (o5 : OpIs ops 5 (.binOp .lss 3 (.tmp 47) (.const (.int .i64 1)) 3) (some 48) [4])
    (o6 : OpIs ops 6 (.move (.tmp 48)) (some 49) [5])
    (o7 : OpN ops 7 (.fieldAddr 25 (.tmp 1) 2) (some 50) [6] 6 49)
    (o8 : OpN ops 8 (.load 22 (.tmp 50)) (some 51) [6, 7] 6 49)
    (o9 : OpN ops 9 (.move (.tmp 3)) (some 52) [6] 6 49)
    (o10 : OpN ops 10 (.indexAddr 22 (.tmp 51) (.tmp 52)) (some 53) [6, 8, 9] 6 49)
    (o11 : OpN ops 11 (.load 3 (.tmp 53)) (some 54) [6, 10] 6 49)
    (o12 : OpN ops 12 (.binOp .gtr 3 (.tmp 54) (.const (.int .i64 1000000000)) 3) (some 55) [6, 11] 6 49)
    (o13 : OpIs ops 13 (.pick (.tmp 49) (.const (.bool true)) (.tmp 55)) (some 56) [6, 12])
    (o14 : OpIs ops 14 (.move (.tmp 56)) (some 57) [13])
    (o15 : OpN ops 15 (.fieldAddr 25 (.tmp 1) 2) (some 58) [14] 14 57)
    (o16 : OpN ops 16 (.load 22 (.tmp 58)) (some 59) [14, 15] 14 57)
    (o17 : OpN ops 17 (.move (.tmp 3)) (some 60) [14] 14 57)
    (o18 : OpN ops 18 (.indexAddr 22 (.tmp 59) (.tmp 60)) (some 61) [14, 16, 17] 14 57)
    (o19 : OpN ops 19 (.load 3 (.tmp 61)) (some 62) [14, 18] 14 57)
    (o20 : OpN ops 20 (.fieldAddr 25 (.tmp 1) 0) (some 63) [14] 14 57)
    (o21 : OpN ops 21 (.load 3 (.tmp 63)) (some 64) [14, 20] 14 57)
    (o22 : OpN ops 22 (.binOp .eql 3 (.tmp 62) (.tmp 64) 3) (some 65) [14, 19, 21] 14 57)
    (o23 : OpIs ops 23 (.pick (.tmp 57) (.const (.bool true)) (.tmp 65)) (some 66) [14, 22])
    (o24 : OpIs ops 24 (.move (.tmp 66)) (some 67) [23])
    (o25 : OpN ops 25 (.move (.tmp 3)) (some 68) [24] 24 67)
    (o26 : OpN ops 26 (.binOp .gtr 3 (.tmp 68) (.const (.int .i64 0)) 3) (some 69) [24, 25] 24 67)
    (o27 : OpN ops 27 (.move (.tmp 69)) (some 70) [24, 26] 24 67)
    (o28 : OpG ops 28 (.fieldAddr 25 (.tmp 1) 2) (some 71) [27] 27 70)
    (o29 : OpG ops 29 (.load 22 (.tmp 71)) (some 72) [27, 28] 27 70)
    (o30 : OpG ops 30 (.move (.tmp 3)) (some 73) [27] 27 70)
    (o31 : OpG ops 31 (.indexAddr 22 (.tmp 72) (.tmp 73)) (some 74) [27, 29, 30] 27 70)
    (o32 : OpG ops 32 (.load 3 (.tmp 74)) (some 75) [27, 31] 27 70)
    (o33 : OpG ops 33 (.fieldAddr 25 (.tmp 1) 2) (some 76) [27] 27 70)
    (o34 : OpG ops 34 (.load 22 (.tmp 76)) (some 77) [27, 33] 27 70)
    (o35 : OpG ops 35 (.move (.tmp 3)) (some 78) [27] 27 70)
    (o36 : OpG ops 36 (.binOp .sub 3 (.tmp 78) (.const (.int .i64 1)) 3) (some 79) [27, 35] 27 70)
    (o37 : OpG ops 37 (.indexAddr 22 (.tmp 77) (.tmp 79)) (some 80) [27, 34, 36] 27 70)
    (o38 : OpG ops 38 (.load 3 (.tmp 80)) (some 81) [27, 37] 27 70)
    (o39 : OpG ops 39 (.binOp .leq 3 (.tmp 75) (.tmp 81) 3) (some 82) [27, 32, 38] 27 70)
    (o40 : OpN ops 40 (.pick (.tmp 70) (.tmp 82) (.const (.bool false))) (some 83) [24, 27, 39] 24 67)
    (o41 : OpIs ops 41 (.pick (.tmp 67) (.const (.bool true)) (.tmp 83)) (some 84) [24, 40])
    {a1 : Act} (hs : 88 <= a1.tmps.size) {wx : World} {gb b o_ nd cd j : Nat} {idn d p : Int} (e1 : a1.eval (.tmp 1) = .pointer (some ⟨gb, 0, none⟩)) (e3 : a1.eval (.tmp 3) = .int .i64 (j + 1 : Nat)) (hbd : wx.cell? ⟨gb, 2, none⟩ = some (.slice (some ⟨b, o_, none⟩) nd cd)) (hbi : wx.cell? ⟨gb, 0, none⟩ = some (.int .i64 idn)) (hd : wx.cell? ⟨b, o_ + j + 1, none⟩ = some (.int .i64 d)) (hp : wx.cell? ⟨b, o_ + j, none⟩ = some (.int .i64 p)) (hk : j + 1 < nd) (hkb : j + 1 <= 1000000) (c1 : decide (d < 1) = false) (c2 : decide (1000000000 < d) = false) (c3 : decide (d = idn) = false) (c5 : decide (d <= p) = true)
    {Q : Exit -> Act -> World -> Prop} {id : Nat} (hend : ∀ (a : Act) (w : World), SameOut a1 a [43, 44, 45, 46, 47, 48, 49, 50, 51, 52, 53, 54, 55, 56, 57, 58, 59, 60, 61, 62, 63, 64, 65, 66, 67, 68, 69, 70, 71, 72, 73, 74, 75, 76, 77, 78, 79, 80, 81, 82, 83, 84] -> Later wx w -> a.eval (.tmp 84) = .bool true -> Q .normal a w) :
    (Code.region id ops true).wp Tryz.prog Q a1 wx := by
  refine region_reads (n := 42) (by kernel_rfl) hg hn [43, 44, 45, 46, 47, 48, 49, 50, 51, 52, 53, 54, 55, 56, 57, 58, 59, 60, 61, 62, 63, 64, 65, 66, 67, 68, 69, 70, 71, 72, 73, 74, 75, 76, 77, 78, 79, 80, 81, 82, 83, 84] (by decide +kernel) rfl (fun d hd => ?_) (rr_five_R gb b o_ nd cd j idn d p) ?_ ?_
  · have : d < 88 := by
      have h : ∀ d ∈ ([43, 44, 45, 46, 47, 48, 49, 50, 51, 52, 53, 54, 55, 56, 57, 58, 59, 60, 61, 62, 63, 64, 65, 66, 67, 68, 69, 70, 71, 72, 73, 74, 75, 76, 77, 78, 79, 80, 81, 82, 83, 84] : List Nat), d < 88 := by decide +kernel
      exact h d hd
    omega
  · intro l a w i o K ho hi hwait so hl0 F hK
    have hc : i = 0 ∨ i = 1 ∨ i = 2 ∨ i = 3 ∨ i = 4 ∨ i = 5 ∨ i = 6 ∨ i = 7 ∨ i = 8 ∨ i = 9 ∨ i = 10 ∨ i = 11 ∨ i = 12 ∨ i = 13 ∨ i = 14 ∨ i = 15 ∨ i = 16 ∨ i = 17 ∨ i = 18 ∨ i = 19 ∨ i = 20 ∨ i = 21 ∨ i = 22 ∨ i = 23 ∨ i = 24 ∨ i = 25 ∨ i = 26 ∨ i = 27 ∨ i = 28 ∨ i = 29 ∨ i = 30 ∨ i = 31 ∨ i = 32 ∨ i = 33 ∨ i = 34 ∨ i = 35 ∨ i = 36 ∨ i = 37 ∨ i = 38 ∨ i = 39 ∨ i = 40 ∨ i = 41 := by omega
    rcases hc with rfl | rfl | rfl | rfl | rfl | rfl | rfl | rfl | rfl | rfl | rfl | rfl | rfl | rfl | rfl | rfl | rfl | rfl | rfl | rfl | rfl | rfl | rfl | rfl | rfl | rfl | rfl | rfl | rfl | rfl | rfl | rfl | rfl | rfl | rfl | rfl | rfl | rfl | rfl | rfl | rfl | rfl
    · refine o0.fieldRN (by omega) ((show _ = a1.eval _ from by simp only [Act.eval, Array.getD_eq_getD_getElem?, so.out 1 (by decide)]).trans e1) ?_
      exact hK _ _ (Later.refl w) rfl
    · have ws := o1.waits ho hwait
      have f0 : a.eval (.tmp 43) = .pointer (some ⟨gb, 0 + 2, none⟩) := by obtain ⟨_, _, _, h⟩ := F 0 (ws 0 (by simp)) (by decide); exact h
      refine o1.loadD7 f0 (hl0.cell hbd) ?_
      exact hK _ _ (Later.refl w) rfl
    · refine o2.move ?_
      rw [show a.eval (.tmp 3) = .int .i64 (j + 1 : Nat) from ((show _ = a1.eval _ from by simp only [Act.eval, Array.getD_eq_getD_getElem?, so.out 3 (by decide)]).trans e3)]
      exact hK _ _ (Later.refl w) rfl
    · have ws := o3.waits ho hwait
      have f1 : a.eval (.tmp 44) = .slice (some ⟨b, o_, none⟩) nd cd := by obtain ⟨_, _, _, h⟩ := F 1 (ws 1 (by simp)) (by decide); exact h
      have f2 : a.eval (.tmp 45) = .int .i64 (j + 1 : Nat) := by obtain ⟨_, _, _, h⟩ := F 2 (ws 2 (by simp)) (by decide); exact h
      refine o3.indexI7 f1 f2 (by omega) ?_
      exact hK _ _ (Later.refl w) rfl
    · have ws := o4.waits ho hwait
      have f3 : a.eval (.tmp 46) = .pointer (some ⟨b, o_ + j + 1, none⟩) := by obtain ⟨_, _, _, h⟩ := F 3 (ws 3 (by simp)) (by decide); exact h
      refine o4.loadI7 f3 (hl0.cell hd) ?_
      exact hK _ _ (Later.refl w) rfl
    · have ws := o5.waits ho hwait
      have f4 : a.eval (.tmp 47) = .int .i64 d := by obtain ⟨_, _, _, h⟩ := F 4 (ws 4 (by simp)) (by decide); exact h
      refine o5.lssC f4 c1 ?_
      exact hK _ _ (Later.refl w) rfl
    · have ws := o6.waits ho hwait
      have f5 : a.eval (.tmp 48) = .bool false := by obtain ⟨_, _, _, h⟩ := F 5 (ws 5 (by simp)) (by decide); exact h
      refine o6.move ?_
      rw [show a.eval (.tmp 48) = .bool false from f5]
      exact hK _ _ (Later.refl w) rfl
    · have ws := o7.waits ho hwait
      have f6 : a.eval (.tmp 49) = .bool false := by obtain ⟨_, _, _, h⟩ := F 6 (ws 6 (by simp)) (by decide); exact h
      refine o7.via f6 (by rw [so.size]; show (49 : Nat) < _; omega) ?_
      refine o7.un.fieldRN (by omega) ((show _ = a1.eval _ from by simp only [Act.eval, Array.getD_eq_getD_getElem?, so.out 1 (by decide)]).trans e1) ?_
      exact hK _ _ (Later.refl w) rfl
    · have ws := o8.waits ho hwait
      have f6 : a.eval (.tmp 49) = .bool false := by obtain ⟨_, _, _, h⟩ := F 6 (ws 6 (by simp)) (by decide); exact h
      have f7 : a.eval (.tmp 50) = .pointer (some ⟨gb, 0 + 2, none⟩) := by obtain ⟨_, _, _, h⟩ := F 7 (ws 7 (by simp)) (by decide); exact h
      refine o8.via f6 (by rw [so.size]; show (49 : Nat) < _; omega) ?_
      refine o8.un.loadD7 f7 (hl0.cell hbd) ?_
      exact hK _ _ (Later.refl w) rfl
    · have ws := o9.waits ho hwait
      have f6 : a.eval (.tmp 49) = .bool false := by obtain ⟨_, _, _, h⟩ := F 6 (ws 6 (by simp)) (by decide); exact h
      refine o9.via f6 (by rw [so.size]; show (49 : Nat) < _; omega) ?_
      refine o9.un.move ?_
      rw [show a.eval (.tmp 3) = .int .i64 (j + 1 : Nat) from ((show _ = a1.eval _ from by simp only [Act.eval, Array.getD_eq_getD_getElem?, so.out 3 (by decide)]).trans e3)]
      exact hK _ _ (Later.refl w) rfl
    · have ws := o10.waits ho hwait
      have f6 : a.eval (.tmp 49) = .bool false := by obtain ⟨_, _, _, h⟩ := F 6 (ws 6 (by simp)) (by decide); exact h
      have f8 : a.eval (.tmp 51) = .slice (some ⟨b, o_, none⟩) nd cd := by obtain ⟨_, _, _, h⟩ := F 8 (ws 8 (by simp)) (by decide); exact h
      have f9 : a.eval (.tmp 52) = .int .i64 (j + 1 : Nat) := by obtain ⟨_, _, _, h⟩ := F 9 (ws 9 (by simp)) (by decide); exact h
      refine o10.via f6 (by rw [so.size]; show (49 : Nat) < _; omega) ?_
      refine o10.un.indexI7 f8 f9 (by omega) ?_
      exact hK _ _ (Later.refl w) rfl
    · have ws := o11.waits ho hwait
      have f6 : a.eval (.tmp 49) = .bool false := by obtain ⟨_, _, _, h⟩ := F 6 (ws 6 (by simp)) (by decide); exact h
      have f10 : a.eval (.tmp 53) = .pointer (some ⟨b, o_ + j + 1, none⟩) := by obtain ⟨_, _, _, h⟩ := F 10 (ws 10 (by simp)) (by decide); exact h
      refine o11.via f6 (by rw [so.size]; show (49 : Nat) < _; omega) ?_
      refine o11.un.loadI7 f10 (hl0.cell hd) ?_
      exact hK _ _ (Later.refl w) rfl
    · have ws := o12.waits ho hwait
      have f6 : a.eval (.tmp 49) = .bool false := by obtain ⟨_, _, _, h⟩ := F 6 (ws 6 (by simp)) (by decide); exact h
      have f11 : a.eval (.tmp 54) = .int .i64 d := by obtain ⟨_, _, _, h⟩ := F 11 (ws 11 (by simp)) (by decide); exact h
      refine o12.via f6 (by rw [so.size]; show (49 : Nat) < _; omega) ?_
      refine o12.un.gtrC f11 c2 ?_
      exact hK _ _ (Later.refl w) rfl
    · have ws := o13.waits ho hwait
      have f6 : a.eval (.tmp 49) = .bool false := by obtain ⟨_, _, _, h⟩ := F 6 (ws 6 (by simp)) (by decide); exact h
      have f12 : a.eval (.tmp 55) = .bool false := by obtain ⟨_, _, _, h⟩ := F 12 (ws 12 (by simp)) (by decide); exact h
      refine o13.pickF f6 f12 ?_
      exact hK _ _ (Later.refl w) rfl
    · have ws := o14.waits ho hwait
      have f13 : a.eval (.tmp 56) = .bool false := by obtain ⟨_, _, _, h⟩ := F 13 (ws 13 (by simp)) (by decide); exact h
      refine o14.move ?_
      rw [show a.eval (.tmp 56) = .bool false from f13]
      exact hK _ _ (Later.refl w) rfl
    · have ws := o15.waits ho hwait
      have f14 : a.eval (.tmp 57) = .bool false := by obtain ⟨_, _, _, h⟩ := F 14 (ws 14 (by simp)) (by decide); exact h
      refine o15.via f14 (by rw [so.size]; show (57 : Nat) < _; omega) ?_
      refine o15.un.fieldRN (by omega) ((show _ = a1.eval _ from by simp only [Act.eval, Array.getD_eq_getD_getElem?, so.out 1 (by decide)]).trans e1) ?_
      exact hK _ _ (Later.refl w) rfl
    · have ws := o16.waits ho hwait
      have f14 : a.eval (.tmp 57) = .bool false := by obtain ⟨_, _, _, h⟩ := F 14 (ws 14 (by simp)) (by decide); exact h
      have f15 : a.eval (.tmp 58) = .pointer (some ⟨gb, 0 + 2, none⟩) := by obtain ⟨_, _, _, h⟩ := F 15 (ws 15 (by simp)) (by decide); exact h
      refine o16.via f14 (by rw [so.size]; show (57 : Nat) < _; omega) ?_
      refine o16.un.loadD7 f15 (hl0.cell hbd) ?_
      exact hK _ _ (Later.refl w) rfl
    · have ws := o17.waits ho hwait
      have f14 : a.eval (.tmp 57) = .bool false := by obtain ⟨_, _, _, h⟩ := F 14 (ws 14 (by simp)) (by decide); exact h
      refine o17.via f14 (by rw [so.size]; show (57 : Nat) < _; omega) ?_
      refine o17.un.move ?_
      rw [show a.eval (.tmp 3) = .int .i64 (j + 1 : Nat) from ((show _ = a1.eval _ from by simp only [Act.eval, Array.getD_eq_getD_getElem?, so.out 3 (by decide)]).trans e3)]
      exact hK _ _ (Later.refl w) rfl
    · have ws := o18.waits ho hwait
      have f14 : a.eval (.tmp 57) = .bool false := by obtain ⟨_, _, _, h⟩ := F 14 (ws 14 (by simp)) (by decide); exact h
      have f16 : a.eval (.tmp 59) = .slice (some ⟨b, o_, none⟩) nd cd := by obtain ⟨_, _, _, h⟩ := F 16 (ws 16 (by simp)) (by decide); exact h
      have f17 : a.eval (.tmp 60) = .int .i64 (j + 1 : Nat) := by obtain ⟨_, _, _, h⟩ := F 17 (ws 17 (by simp)) (by decide); exact h
      refine o18.via f14 (by rw [so.size]; show (57 : Nat) < _; omega) ?_
      refine o18.un.indexI7 f16 f17 (by omega) ?_
      exact hK _ _ (Later.refl w) rfl
    · have ws := o19.waits ho hwait
      have f14 : a.eval (.tmp 57) = .bool false := by obtain ⟨_, _, _, h⟩ := F 14 (ws 14 (by simp)) (by decide); exact h
      have f18 : a.eval (.tmp 61) = .pointer (some ⟨b, o_ + j + 1, none⟩) := by obtain ⟨_, _, _, h⟩ := F 18 (ws 18 (by simp)) (by decide); exact h
      refine o19.via f14 (by rw [so.size]; show (57 : Nat) < _; omega) ?_
      refine o19.un.loadI7 f18 (hl0.cell hd) ?_
      exact hK _ _ (Later.refl w) rfl
    · have ws := o20.waits ho hwait
      have f14 : a.eval (.tmp 57) = .bool false := by obtain ⟨_, _, _, h⟩ := F 14 (ws 14 (by simp)) (by decide); exact h
      refine o20.via f14 (by rw [so.size]; show (57 : Nat) < _; omega) ?_
      refine o20.un.fieldRN (by omega) ((show _ = a1.eval _ from by simp only [Act.eval, Array.getD_eq_getD_getElem?, so.out 1 (by decide)]).trans e1) ?_
      exact hK _ _ (Later.refl w) rfl
    · have ws := o21.waits ho hwait
      have f14 : a.eval (.tmp 57) = .bool false := by obtain ⟨_, _, _, h⟩ := F 14 (ws 14 (by simp)) (by decide); exact h
      have f20 : a.eval (.tmp 63) = .pointer (some ⟨gb, 0 + 0, none⟩) := by obtain ⟨_, _, _, h⟩ := F 20 (ws 20 (by simp)) (by decide); exact h
      refine o21.via f14 (by rw [so.size]; show (57 : Nat) < _; omega) ?_
      refine o21.un.loadI7 f20 (hl0.cell hbi) ?_
      exact hK _ _ (Later.refl w) rfl
    · have ws := o22.waits ho hwait
      have f14 : a.eval (.tmp 57) = .bool false := by obtain ⟨_, _, _, h⟩ := F 14 (ws 14 (by simp)) (by decide); exact h
      have f19 : a.eval (.tmp 62) = .int .i64 d := by obtain ⟨_, _, _, h⟩ := F 19 (ws 19 (by simp)) (by decide); exact h
      have f21 : a.eval (.tmp 64) = .int .i64 idn := by obtain ⟨_, _, _, h⟩ := F 21 (ws 21 (by simp)) (by decide); exact h
      refine o22.via f14 (by rw [so.size]; show (57 : Nat) < _; omega) ?_
      refine o22.un.eqlTT f19 f21 c3 ?_
      exact hK _ _ (Later.refl w) rfl
    · have ws := o23.waits ho hwait
      have f14 : a.eval (.tmp 57) = .bool false := by obtain ⟨_, _, _, h⟩ := F 14 (ws 14 (by simp)) (by decide); exact h
      have f22 : a.eval (.tmp 65) = .bool false := by obtain ⟨_, _, _, h⟩ := F 22 (ws 22 (by simp)) (by decide); exact h
      refine o23.pickF f14 f22 ?_
      exact hK _ _ (Later.refl w) rfl
    · have ws := o24.waits ho hwait
      have f23 : a.eval (.tmp 66) = .bool false := by obtain ⟨_, _, _, h⟩ := F 23 (ws 23 (by simp)) (by decide); exact h
      refine o24.move ?_
      rw [show a.eval (.tmp 66) = .bool false from f23]
      exact hK _ _ (Later.refl w) rfl
    · have ws := o25.waits ho hwait
      have f24 : a.eval (.tmp 67) = .bool false := by obtain ⟨_, _, _, h⟩ := F 24 (ws 24 (by simp)) (by decide); exact h
      refine o25.via f24 (by rw [so.size]; show (67 : Nat) < _; omega) ?_
      refine o25.un.move ?_
      rw [show a.eval (.tmp 3) = .int .i64 (j + 1 : Nat) from ((show _ = a1.eval _ from by simp only [Act.eval, Array.getD_eq_getD_getElem?, so.out 3 (by decide)]).trans e3)]
      exact hK _ _ (Later.refl w) rfl
    · have ws := o26.waits ho hwait
      have f24 : a.eval (.tmp 67) = .bool false := by obtain ⟨_, _, _, h⟩ := F 24 (ws 24 (by simp)) (by decide); exact h
      have f25 : a.eval (.tmp 68) = .int .i64 (j + 1 : Nat) := by obtain ⟨_, _, _, h⟩ := F 25 (ws 25 (by simp)) (by decide); exact h
      refine o26.via f24 (by rw [so.size]; show (67 : Nat) < _; omega) ?_
      refine o26.un.gtrC f25 (decide_eq_true (show (0 : Int) < ((j + 1 : Nat) : Int) by omega)) ?_
      exact hK _ _ (Later.refl w) rfl
    · have ws := o27.waits ho hwait
      have f24 : a.eval (.tmp 67) = .bool false := by obtain ⟨_, _, _, h⟩ := F 24 (ws 24 (by simp)) (by decide); exact h
      have f26 : a.eval (.tmp 69) = .bool true := by obtain ⟨_, _, _, h⟩ := F 26 (ws 26 (by simp)) (by decide); exact h
      refine o27.via f24 (by rw [so.size]; show (67 : Nat) < _; omega) ?_
      refine o27.un.move ?_
      rw [show a.eval (.tmp 69) = .bool true from f26]
      exact hK _ _ (Later.refl w) rfl
    · have ws := o28.waits ho hwait
      have f27 : a.eval (.tmp 70) = .bool true := by obtain ⟨_, _, _, h⟩ := F 27 (ws 27 (by simp)) (by decide); exact h
      refine o28.via f27 (by rw [so.size]; show (70 : Nat) < _; omega) ?_
      refine o28.un.fieldRN (by omega) ((show _ = a1.eval _ from by simp only [Act.eval, Array.getD_eq_getD_getElem?, so.out 1 (by decide)]).trans e1) ?_
      exact hK _ _ (Later.refl w) rfl
    · have ws := o29.waits ho hwait
      have f27 : a.eval (.tmp 70) = .bool true := by obtain ⟨_, _, _, h⟩ := F 27 (ws 27 (by simp)) (by decide); exact h
      have f28 : a.eval (.tmp 71) = .pointer (some ⟨gb, 0 + 2, none⟩) := by obtain ⟨_, _, _, h⟩ := F 28 (ws 28 (by simp)) (by decide); exact h
      refine o29.via f27 (by rw [so.size]; show (70 : Nat) < _; omega) ?_
      refine o29.un.loadD7 f28 (hl0.cell hbd) ?_
      exact hK _ _ (Later.refl w) rfl
    · have ws := o30.waits ho hwait
      have f27 : a.eval (.tmp 70) = .bool true := by obtain ⟨_, _, _, h⟩ := F 27 (ws 27 (by simp)) (by decide); exact h
      refine o30.via f27 (by rw [so.size]; show (70 : Nat) < _; omega) ?_
      refine o30.un.move ?_
      rw [show a.eval (.tmp 3) = .int .i64 (j + 1 : Nat) from ((show _ = a1.eval _ from by simp only [Act.eval, Array.getD_eq_getD_getElem?, so.out 3 (by decide)]).trans e3)]
      exact hK _ _ (Later.refl w) rfl
    · have ws := o31.waits ho hwait
      have f27 : a.eval (.tmp 70) = .bool true := by obtain ⟨_, _, _, h⟩ := F 27 (ws 27 (by simp)) (by decide); exact h
      have f29 : a.eval (.tmp 72) = .slice (some ⟨b, o_, none⟩) nd cd := by obtain ⟨_, _, _, h⟩ := F 29 (ws 29 (by simp)) (by decide); exact h
      have f30 : a.eval (.tmp 73) = .int .i64 (j + 1 : Nat) := by obtain ⟨_, _, _, h⟩ := F 30 (ws 30 (by simp)) (by decide); exact h
      refine o31.via f27 (by rw [so.size]; show (70 : Nat) < _; omega) ?_
      refine o31.un.indexI7 f29 f30 (by omega) ?_
      exact hK _ _ (Later.refl w) rfl
    · have ws := o32.waits ho hwait
      have f27 : a.eval (.tmp 70) = .bool true := by obtain ⟨_, _, _, h⟩ := F 27 (ws 27 (by simp)) (by decide); exact h
      have f31 : a.eval (.tmp 74) = .pointer (some ⟨b, o_ + j + 1, none⟩) := by obtain ⟨_, _, _, h⟩ := F 31 (ws 31 (by simp)) (by decide); exact h
      refine o32.via f27 (by rw [so.size]; show (70 : Nat) < _; omega) ?_
      refine o32.un.loadI7 f31 (hl0.cell hd) ?_
      exact hK _ _ (Later.refl w) rfl
    · have ws := o33.waits ho hwait
      have f27 : a.eval (.tmp 70) = .bool true := by obtain ⟨_, _, _, h⟩ := F 27 (ws 27 (by simp)) (by decide); exact h
      refine o33.via f27 (by rw [so.size]; show (70 : Nat) < _; omega) ?_
      refine o33.un.fieldRN (by omega) ((show _ = a1.eval _ from by simp only [Act.eval, Array.getD_eq_getD_getElem?, so.out 1 (by decide)]).trans e1) ?_
      exact hK _ _ (Later.refl w) rfl
    · have ws := o34.waits ho hwait
      have f27 : a.eval (.tmp 70) = .bool true := by obtain ⟨_, _, _, h⟩ := F 27 (ws 27 (by simp)) (by decide); exact h
      have f33 : a.eval (.tmp 76) = .pointer (some ⟨gb, 0 + 2, none⟩) := by obtain ⟨_, _, _, h⟩ := F 33 (ws 33 (by simp)) (by decide); exact h
      refine o34.via f27 (by rw [so.size]; show (70 : Nat) < _; omega) ?_
      refine o34.un.loadD7 f33 (hl0.cell hbd) ?_
      exact hK _ _ (Later.refl w) rfl
    · have ws := o35.waits ho hwait
      have f27 : a.eval (.tmp 70) = .bool true := by obtain ⟨_, _, _, h⟩ := F 27 (ws 27 (by simp)) (by decide); exact h
      refine o35.via f27 (by rw [so.size]; show (70 : Nat) < _; omega) ?_
      refine o35.un.move ?_
      rw [show a.eval (.tmp 3) = .int .i64 (j + 1 : Nat) from ((show _ = a1.eval _ from by simp only [Act.eval, Array.getD_eq_getD_getElem?, so.out 3 (by decide)]).trans e3)]
      exact hK _ _ (Later.refl w) rfl
    · have ws := o36.waits ho hwait
      have f27 : a.eval (.tmp 70) = .bool true := by obtain ⟨_, _, _, h⟩ := F 27 (ws 27 (by simp)) (by decide); exact h
      have f35 : a.eval (.tmp 78) = .int .i64 (j + 1 : Nat) := by obtain ⟨_, _, _, h⟩ := F 35 (ws 35 (by simp)) (by decide); exact h
      refine o36.via f27 (by rw [so.size]; show (70 : Nat) < _; omega) ?_
      refine o36.un.subC f35 (by omega) ?_
      exact hK _ _ (Later.refl w) rfl
    · have ws := o37.waits ho hwait
      have f27 : a.eval (.tmp 70) = .bool true := by obtain ⟨_, _, _, h⟩ := F 27 (ws 27 (by simp)) (by decide); exact h
      have f34 : a.eval (.tmp 77) = .slice (some ⟨b, o_, none⟩) nd cd := by obtain ⟨_, _, _, h⟩ := F 34 (ws 34 (by simp)) (by decide); exact h
      have f36 : a.eval (.tmp 79) = .int .i64 (j : Nat) := by obtain ⟨_, _, _, h⟩ := F 36 (ws 36 (by simp)) (by decide); exact h
      refine o37.via f27 (by rw [so.size]; show (70 : Nat) < _; omega) ?_
      refine o37.un.indexI7 f34 f36 (by omega) ?_
      exact hK _ _ (Later.refl w) rfl
    · have ws := o38.waits ho hwait
      have f27 : a.eval (.tmp 70) = .bool true := by obtain ⟨_, _, _, h⟩ := F 27 (ws 27 (by simp)) (by decide); exact h
      have f37 : a.eval (.tmp 80) = .pointer (some ⟨b, o_ + j, none⟩) := by obtain ⟨_, _, _, h⟩ := F 37 (ws 37 (by simp)) (by decide); exact h
      refine o38.via f27 (by rw [so.size]; show (70 : Nat) < _; omega) ?_
      refine o38.un.loadI7 f37 (hl0.cell hp) ?_
      exact hK _ _ (Later.refl w) rfl
    · have ws := o39.waits ho hwait
      have f27 : a.eval (.tmp 70) = .bool true := by obtain ⟨_, _, _, h⟩ := F 27 (ws 27 (by simp)) (by decide); exact h
      have f32 : a.eval (.tmp 75) = .int .i64 d := by obtain ⟨_, _, _, h⟩ := F 32 (ws 32 (by simp)) (by decide); exact h
      have f38 : a.eval (.tmp 81) = .int .i64 p := by obtain ⟨_, _, _, h⟩ := F 38 (ws 38 (by simp)) (by decide); exact h
      refine o39.via f27 (by rw [so.size]; show (70 : Nat) < _; omega) ?_
      refine o39.un.leqTT f32 f38 c5 ?_
      exact hK _ _ (Later.refl w) rfl
    · have ws := o40.waits ho hwait
      have f24 : a.eval (.tmp 67) = .bool false := by obtain ⟨_, _, _, h⟩ := F 24 (ws 24 (by simp)) (by decide); exact h
      have f27 : a.eval (.tmp 70) = .bool true := by obtain ⟨_, _, _, h⟩ := F 27 (ws 27 (by simp)) (by decide); exact h
      have f39 : a.eval (.tmp 82) = .bool true := by obtain ⟨_, _, _, h⟩ := F 39 (ws 39 (by simp)) (by decide); exact h
      refine o40.via f24 (by rw [so.size]; show (67 : Nat) < _; omega) ?_
      refine o40.un.pick f27 f39 ?_
      exact hK _ _ (Later.refl w) rfl
    · have ws := o41.waits ho hwait
      have f24 : a.eval (.tmp 67) = .bool false := by obtain ⟨_, _, _, h⟩ := F 24 (ws 24 (by simp)) (by decide); exact h
      have f40 : a.eval (.tmp 83) = .bool true := by obtain ⟨_, _, _, h⟩ := F 40 (ws 40 (by simp)) (by decide); exact h
      refine o41.pickF f24 f40 ?_
      exact hK _ _ (Later.refl w) rfl
  · intro a w so hl F
    exact hend a w so hl (by obtain ⟨_, _, _, h⟩ := F 41 rfl (by decide); exact h)


end Go.Proofs.YtlnjhimbgckdcaaGreat
