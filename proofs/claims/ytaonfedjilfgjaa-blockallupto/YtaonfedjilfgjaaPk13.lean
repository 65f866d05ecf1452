import Derived.Test.YtaonfedjilfgjaaPk10
import Derived.Test.YtaonfedjilfgjaaPk12
import Derived.Test.YtaonfedjilfgjaaPk11
import Derived.Test.YtaonfedjilfgjaaPk3

/-
  The statement of stands that draws its order: a device is as the reference's state.
-/
namespace Go.Proofs.Ytaonfedjilfgjaa
open Go.RowKit

theorem Try.stateSize : (Try.prog.info? 30).map (·.size) = some 5 := by kernel_rfl
def stL (A : Option Addr) (n c : Nat) (B : Option Addr) (m e : Nat) (s : StP) : List Value := [.slice A n c, .slice B m e, .int .i64 (s.ops : Nat), .int .i64 s.fuse, .bool s.down]
/-- A device is as the reference's state. -/
structure Same (d : DvP) (s : StP) (n m : Nat) : Prop where
  len : d.bl.length = n
  row : d.row.length = m
  ops : d.ops = s.ops
  down : d.down = s.down
  bl : ∀ k, k < n → d.bl.getD k [] = atR s k
theorem Same.image {d : DvP} {s : StP} {n m : Nat} (h : Same d s n m) : imageP d = imageR n s := by
  unfold imageP imageR
  congr 1
  apply List.ext_getElem?
  intro k
  by_cases hk : k < n
  · have h1 := h.bl k hk
    have hl := h.len
    rw [List.getElem?_map, List.getElem?_range hk]
    rw [List.getElem?_eq_getElem (show k < d.bl.length by omega)]
    rw [List.getD_eq_getElem?_getD, List.getElem?_eq_getElem (show k < d.bl.length by omega)] at h1
    simp only [Option.getD_some] at h1
    rw [h1]
    rfl
  · rw [List.getElem?_eq_none (by rw [h.len]; omega), List.getElem?_eq_none (by rw [List.length_map, List.length_range]; omega)]
def stands1_R (g g3 : Nat) (A : Option Addr) (n c : Nat) (B : Option Addr) (m e : Nat) (s : StP) (d : DvP) : Nat → Value → World → Prop
  | 0, v, _ => v = .pointer (some ⟨g, 0, none⟩)
  | 1, v, _ => v = .int .i64 (n : Nat)
  | 2, v, _ => v = .pointer (some ⟨g3, 0 + 0, none⟩)
  | 3, v, _ => v = .slice A n c
  | 4, v, _ => v = .int .i64 (n : Nat)
  | 5, v, _ => v = .bool false
  | 6, v, _ => v = .bool false
  | 7, v, _ => v = .pointer (some ⟨g, 0, none⟩)
  | 8, v, _ => v = .int .i64 (m : Nat)
  | 9, v, _ => v = .pointer (some ⟨g3, 0 + 1, none⟩)
  | 10, v, _ => v = .slice B m e
  | 11, v, _ => v = .int .i64 (m : Nat)
  | 12, v, _ => v = .bool false
  | 13, v, _ => v = .bool false
  | 14, v, _ => v = .bool false
  | 15, v, _ => v = .pointer (some ⟨g, 0, none⟩)
  | 16, v, _ => v = .int .i64 (s.ops : Nat)
  | 17, v, _ => v = .pointer (some ⟨g3, 0 + 2, none⟩)
  | 18, v, _ => v = .int .i64 (s.ops : Nat)
  | 19, v, _ => v = .bool false
  | 20, v, _ => v = .bool false
  | 21, v, _ => v = .bool false
  | 22, v, _ => v = .pointer (some ⟨g, 0, none⟩)
  | 23, v, _ => v = .bool s.down
  | 24, v, _ => v = .pointer (some ⟨g3, 0 + 4, none⟩)
  | 25, v, _ => v = .bool s.down
  | 26, v, _ => v = .bool false
  | 27, v, _ => v = .bool false
  | 28, v, _ => v = .bool false
  | 29, v, _ => v = .pointer (some ⟨g, 0, none⟩)
  | 30, v, w => ∃ b cb, v = .slice (some ⟨b, 0, none⟩) (imageP d).length cb ∧ BsAt w (some ⟨b, 0, none⟩) (imageP d).length (imageP d)
  | 31, v, _ => v = .agg (stL A n c B m e s).toArray
  | 32, v, w => ∃ b cb, v = .slice (some ⟨b, 0, none⟩) (imageP d).length cb ∧ BsAt w (some ⟨b, 0, none⟩) (imageP d).length (imageP d)
  | 33, v, _ => v = .bool true
  | 34, v, _ => v = .bool false
  | 35, v, _ => v = .bool false
  | _, _, _ => True
set_option maxRecDepth 100000 in
set_option maxHeartbeats 1600000 in
theorem stands1 {ops : Array Oper} (hn : ops.size = 36) (hg : goesBack ops = true)
    (o0 : OpIs ops 0 (.move (.tmp 0)) (some 11) [])
    (o1 : OpIs ops 1 (.call { callee := .value (.func 49), args := #[.tmp 11], argTypes := #[25] }) (some 12) [0])
    (o2 : OpIs ops 2 (.fieldAddr 30 (.tmp 3) 0) (some 13) [])
    (o3 : OpIs ops 3 (.load 27 (.tmp 13)) (some 14) [2])
    (o4 : OpIs ops 4 (.call { callee := .builtin .len, args := #[.tmp 14], argTypes := #[27] }) (some 15) [3])
    (o5 : OpIs ops 5 (.binOp .neq 3 (.tmp 12) (.tmp 15) 3) (some 16) [1, 4])
    (o6 : OpIs ops 6 (.move (.tmp 16)) (some 17) [5])
    (o7 : OpN ops 7 (.move (.tmp 0)) (some 18) [6] 6 17)
    (o8 : OpN ops 8 (.call { callee := .value (.func 48), args := #[.tmp 18], argTypes := #[25] }) (some 19) [6, 7] 6 17)
    (o9 : OpN ops 9 (.fieldAddr 30 (.tmp 3) 1) (some 20) [6] 6 17)
    (o10 : OpN ops 10 (.load 28 (.tmp 20)) (some 21) [6, 9] 6 17)
    (o11 : OpN ops 11 (.call { callee := .builtin .len, args := #[.tmp 21], argTypes := #[28] }) (some 22) [6, 10] 6 17)
    (o12 : OpN ops 12 (.binOp .neq 3 (.tmp 19) (.tmp 22) 3) (some 23) [6, 8, 11] 6 17)
    (o13 : OpIs ops 13 (.pick (.tmp 17) (.const (.bool true)) (.tmp 23)) (some 24) [6, 12])
    (o14 : OpIs ops 14 (.move (.tmp 24)) (some 25) [13])
    (o15 : OpN ops 15 (.move (.tmp 0)) (some 26) [14] 14 25)
    (o16 : OpN ops 16 (.call { callee := .value (.func 31), args := #[.tmp 26], argTypes := #[25] }) (some 27) [14, 15] 14 25)
    (o17 : OpN ops 17 (.fieldAddr 30 (.tmp 3) 2) (some 28) [14] 14 25)
    (o18 : OpN ops 18 (.load 3 (.tmp 28)) (some 29) [14, 17] 14 25)
    (o19 : OpN ops 19 (.binOp .neq 3 (.tmp 27) (.tmp 29) 3) (some 30) [14, 16, 18] 14 25)
    (o20 : OpIs ops 20 (.pick (.tmp 25) (.const (.bool true)) (.tmp 30)) (some 31) [14, 19])
    (o21 : OpIs ops 21 (.move (.tmp 31)) (some 32) [20])
    (o22 : OpN ops 22 (.move (.tmp 0)) (some 33) [21] 21 32)
    (o23 : OpN ops 23 (.call { callee := .value (.func 24), args := #[.tmp 33], argTypes := #[25] }) (some 34) [21, 22] 21 32)
    (o24 : OpN ops 24 (.fieldAddr 30 (.tmp 3) 4) (some 35) [21] 21 32)
    (o25 : OpN ops 25 (.load 4 (.tmp 35)) (some 36) [21, 24] 21 32)
    (o26 : OpN ops 26 (.binOp .neq 4 (.tmp 34) (.tmp 36) 4) (some 37) [21, 23, 25] 21 32)
    (o27 : OpIs ops 27 (.pick (.tmp 32) (.const (.bool true)) (.tmp 37)) (some 38) [21, 26])
    (o28 : OpIs ops 28 (.move (.tmp 38)) (some 39) [27])
    (o29 : OpN ops 29 (.move (.tmp 0)) (some 40) [28] 28 39)
    (o30 : OpN ops 30 (.call { callee := .value (.func 19), args := #[.tmp 40], argTypes := #[25] }) (some 41) [28, 29] 28 39)
    (o31 : OpN ops 31 (.load 30 (.tmp 3)) (some 42) [28] 28 39)
    (o32 : OpN ops 32 (.call { callee := .value (.func 50), args := #[.tmp 42], argTypes := #[30] }) (some 43) [28, 31] 28 39)
    (o33 : OpN ops 33 (.call { callee := .value (.func 20), args := #[.tmp 41, .tmp 43], argTypes := #[33, 33] }) (some 44) [28, 30, 32] 28 39)
    (o34 : OpN ops 34 (.unOp .not 4 (.tmp 44)) (some 45) [28, 33] 28 39)
    (o35 : OpIs ops 35 (.pick (.tmp 39) (.const (.bool true)) (.tmp 45)) (some 46) [28, 34])
    {a1 : Act} (hs : 84 ≤ a1.tmps.size) {wx : World} {W : World} {S : Nat → Prop} {g g3 : Nat} {A : Option Addr} {n c : Nat} {B : Option Addr} {m e : Nat} {s : StP} {d : DvP} (e0 : a1.eval (.tmp 0) = .pointer (some ⟨g, 0, none⟩)) (e3 : a1.eval (.tmp 3) = .pointer (some ⟨g3, 0, none⟩)) (hd : DevAt W wx S g d) (hs0 : StAt wx A n B m s) (hb : CellsAt wx g3 (stL A n c B m e s).toArray 30) (hsm : Same d s n m) (hm : m ≤ 1000000) (hn4 : n ≤ 100000)
    {Q : Exit → Act → World → Prop} {id : Nat} (hend : ∀ (a : Act) (w : World), SameOut a1 a [11, 12, 13, 14, 15, 16, 17, 18, 19, 20, 21, 22, 23, 24, 25, 26, 27, 28, 29, 30, 31, 32, 33, 34, 35, 36, 37, 38, 39, 40, 41, 42, 43, 44, 45, 46] → Later wx w → a.eval (.tmp 46) = .bool false → Q .normal a w) :
    (Code.region id ops true).wp Try.prog Q a1 wx := by
  refine region_reads (n := 36) (by kernel_rfl) hg hn [11, 12, 13, 14, 15, 16, 17, 18, 19, 20, 21, 22, 23, 24, 25, 26, 27, 28, 29, 30, 31, 32, 33, 34, 35, 36, 37, 38, 39, 40, 41, 42, 43, 44, 45, 46] (by decide +kernel) rfl (fun d hd => ?_) (stands1_R g g3 A n c B m e s d) ?_ ?_
  · have : d < 84 := by
      have h : ∀ d ∈ ([11, 12, 13, 14, 15, 16, 17, 18, 19, 20, 21, 22, 23, 24, 25, 26, 27, 28, 29, 30, 31, 32, 33, 34, 35, 36, 37, 38, 39, 40, 41, 42, 43, 44, 45, 46] : List Nat), d < 84 := by decide +kernel
      exact h d hd
    omega
  · intro l a w i o K ho hi hwait so hl0 F hK
    have hc : i = 0 ∨ i = 1 ∨ i = 2 ∨ i = 3 ∨ i = 4 ∨ i = 5 ∨ i = 6 ∨ i = 7 ∨ i = 8 ∨ i = 9 ∨ i = 10 ∨ i = 11 ∨ i = 12 ∨ i = 13 ∨ i = 14 ∨ i = 15 ∨ i = 16 ∨ i = 17 ∨ i = 18 ∨ i = 19 ∨ i = 20 ∨ i = 21 ∨ i = 22 ∨ i = 23 ∨ i = 24 ∨ i = 25 ∨ i = 26 ∨ i = 27 ∨ i = 28 ∨ i = 29 ∨ i = 30 ∨ i = 31 ∨ i = 32 ∨ i = 33 ∨ i = 34 ∨ i = 35 := by omega
    rcases hc with rfl | rfl | rfl | rfl | rfl | rfl | rfl | rfl | rfl | rfl | rfl | rfl | rfl | rfl | rfl | rfl | rfl | rfl | rfl | rfl | rfl | rfl | rfl | rfl | rfl | rfl | rfl | rfl | rfl | rfl | rfl | rfl | rfl | rfl | rfl | rfl
    · refine o0.move ?_
      rw [show a.eval (.tmp 0) = .pointer (some ⟨g, 0, none⟩) from ((show _ = a1.eval _ from by simp only [Act.eval, Array.getD_eq_getD_getElem?, so.out 0 (by decide)]).trans e0)]
      exact hK _ _ (Later.refl w) rfl
    · have ws := o1.waits ho hwait
      have f0 : a.eval (.tmp 11) = .pointer (some ⟨g, 0, none⟩) := by obtain ⟨_, _, _, h⟩ := F 0 (ws 0 (by simp)) (by decide); exact h
      refine o1.call1 (enters_of Try.func49 (by kernel_rfl) rfl) f0 (countDev_any (hd.later hl0)) ?_
      rintro e w' ⟨rfl, rfl⟩
      exact ⟨_, rfl, hK _ _ (Later.refl _) (by rw [hsm.len]; rfl)⟩
    · refine o2.fieldSt (by omega) ((show _ = a1.eval _ from by simp only [Act.eval, Array.getD_eq_getD_getElem?, so.out 3 (by decide)]).trans e3) ?_
      exact hK _ _ (Later.refl w) rfl
    · have ws := o3.waits ho hwait
      have f2 : a.eval (.tmp 13) = .pointer (some ⟨g3, 0 + 0, none⟩) := by obtain ⟨_, _, _, h⟩ := F 2 (ws 2 (by simp)) (by decide); exact h
      refine o3.loadRL f2 (hl0.cell (hb.cell rfl)) ?_
      exact hK _ _ (Later.refl w) rfl
    · have ws := o4.waits ho hwait
      have f3 : a.eval (.tmp 14) = .slice A n c := by obtain ⟨_, _, _, h⟩ := F 3 (ws 3 (by simp)) (by decide); exact h
      refine o4.lenRL f3 ?_
      exact hK _ _ (Later.refl w) rfl
    · have ws := o5.waits ho hwait
      have f1 : a.eval (.tmp 12) = .int .i64 (n : Nat) := by obtain ⟨_, _, _, h⟩ := F 1 (ws 1 (by simp)) (by decide); exact h
      have f4 : a.eval (.tmp 15) = .int .i64 (n : Nat) := by obtain ⟨_, _, _, h⟩ := F 4 (ws 4 (by simp)) (by decide); exact h
      refine o5.neqI f1 f4 ?_
      exact hK _ _ (Later.refl w) rfl
    · have ws := o6.waits ho hwait
      have f5 : a.eval (.tmp 16) = .bool false := by obtain ⟨_, _, _, h⟩ := F 5 (ws 5 (by simp)) (by decide); exact h
      refine o6.move ?_
      rw [show a.eval (.tmp 16) = .bool false from f5]
      exact hK _ _ (Later.refl w) rfl
    · have ws := o7.waits ho hwait
      have f6 : a.eval (.tmp 17) = .bool false := by obtain ⟨_, _, _, h⟩ := F 6 (ws 6 (by simp)) (by decide); exact h
      refine o7.via f6 (by rw [so.size]; show (17 : Nat) < _; omega) ?_
      refine o7.un.move ?_
      rw [show a.eval (.tmp 0) = .pointer (some ⟨g, 0, none⟩) from ((show _ = a1.eval _ from by simp only [Act.eval, Array.getD_eq_getD_getElem?, so.out 0 (by decide)]).trans e0)]
      exact hK _ _ (Later.refl w) rfl
    · have ws := o8.waits ho hwait
      have f6 : a.eval (.tmp 17) = .bool false := by obtain ⟨_, _, _, h⟩ := F 6 (ws 6 (by simp)) (by decide); exact h
      have f7 : a.eval (.tmp 18) = .pointer (some ⟨g, 0, none⟩) := by obtain ⟨_, _, _, h⟩ := F 7 (ws 7 (by simp)) (by decide); exact h
      refine o8.via f6 (by rw [so.size]; show (17 : Nat) < _; omega) ?_
      refine o8.un.call1 (enters_of Try.func48 (by kernel_rfl) rfl) f7 (pendingDev_any (hd.later hl0)) ?_
      rintro e w' ⟨rfl, rfl⟩
      exact ⟨_, rfl, hK _ _ (Later.refl _) (by rw [hsm.row]; rfl)⟩
    · have ws := o9.waits ho hwait
      have f6 : a.eval (.tmp 17) = .bool false := by obtain ⟨_, _, _, h⟩ := F 6 (ws 6 (by simp)) (by decide); exact h
      refine o9.via f6 (by rw [so.size]; show (17 : Nat) < _; omega) ?_
      refine o9.un.fieldSt (by omega) ((show _ = a1.eval _ from by simp only [Act.eval, Array.getD_eq_getD_getElem?, so.out 3 (by decide)]).trans e3) ?_
      exact hK _ _ (Later.refl w) rfl
    · have ws := o10.waits ho hwait
      have f6 : a.eval (.tmp 17) = .bool false := by obtain ⟨_, _, _, h⟩ := F 6 (ws 6 (by simp)) (by decide); exact h
      have f9 : a.eval (.tmp 20) = .pointer (some ⟨g3, 0 + 1, none⟩) := by obtain ⟨_, _, _, h⟩ := F 9 (ws 9 (by simp)) (by decide); exact h
      refine o10.via f6 (by rw [so.size]; show (17 : Nat) < _; omega) ?_
      refine o10.un.loadRW f9 (hl0.cell (hb.cell rfl)) ?_
      exact hK _ _ (Later.refl w) rfl
    · have ws := o11.waits ho hwait
      have f6 : a.eval (.tmp 17) = .bool false := by obtain ⟨_, _, _, h⟩ := F 6 (ws 6 (by simp)) (by decide); exact h
      have f10 : a.eval (.tmp 21) = .slice B m e := by obtain ⟨_, _, _, h⟩ := F 10 (ws 10 (by simp)) (by decide); exact h
      refine o11.via f6 (by rw [so.size]; show (17 : Nat) < _; omega) ?_
      refine o11.un.lenRW f10 ?_
      exact hK _ _ (Later.refl w) rfl
    · have ws := o12.waits ho hwait
      have f6 : a.eval (.tmp 17) = .bool false := by obtain ⟨_, _, _, h⟩ := F 6 (ws 6 (by simp)) (by decide); exact h
      have f8 : a.eval (.tmp 19) = .int .i64 (m : Nat) := by obtain ⟨_, _, _, h⟩ := F 8 (ws 8 (by simp)) (by decide); exact h
      have f11 : a.eval (.tmp 22) = .int .i64 (m : Nat) := by obtain ⟨_, _, _, h⟩ := F 11 (ws 11 (by simp)) (by decide); exact h
      refine o12.via f6 (by rw [so.size]; show (17 : Nat) < _; omega) ?_
      refine o12.un.neqI f8 f11 ?_
      exact hK _ _ (Later.refl w) rfl
    · have ws := o13.waits ho hwait
      have f6 : a.eval (.tmp 17) = .bool false := by obtain ⟨_, _, _, h⟩ := F 6 (ws 6 (by simp)) (by decide); exact h
      have f12 : a.eval (.tmp 23) = .bool false := by obtain ⟨_, _, _, h⟩ := F 12 (ws 12 (by simp)) (by decide); exact h
      refine o13.pickF f6 f12 ?_
      exact hK _ _ (Later.refl w) rfl
    · have ws := o14.waits ho hwait
      have f13 : a.eval (.tmp 24) = .bool false := by obtain ⟨_, _, _, h⟩ := F 13 (ws 13 (by simp)) (by decide); exact h
      refine o14.move ?_
      rw [show a.eval (.tmp 24) = .bool false from f13]
      exact hK _ _ (Later.refl w) rfl
    · have ws := o15.waits ho hwait
      have f14 : a.eval (.tmp 25) = .bool false := by obtain ⟨_, _, _, h⟩ := F 14 (ws 14 (by simp)) (by decide); exact h
      refine o15.via f14 (by rw [so.size]; show (25 : Nat) < _; omega) ?_
      refine o15.un.move ?_
      rw [show a.eval (.tmp 0) = .pointer (some ⟨g, 0, none⟩) from ((show _ = a1.eval _ from by simp only [Act.eval, Array.getD_eq_getD_getElem?, so.out 0 (by decide)]).trans e0)]
      exact hK _ _ (Later.refl w) rfl
    · have ws := o16.waits ho hwait
      have f14 : a.eval (.tmp 25) = .bool false := by obtain ⟨_, _, _, h⟩ := F 14 (ws 14 (by simp)) (by decide); exact h
      have f15 : a.eval (.tmp 26) = .pointer (some ⟨g, 0, none⟩) := by obtain ⟨_, _, _, h⟩ := F 15 (ws 15 (by simp)) (by decide); exact h
      refine o16.via f14 (by rw [so.size]; show (25 : Nat) < _; omega) ?_
      refine o16.un.call1 (enters_of Try.func31 (by kernel_rfl) rfl) f15 (opsDev_any (hd.later hl0)) ?_
      rintro e w' ⟨rfl, rfl⟩
      exact ⟨_, rfl, hK _ _ (Later.refl _) (by rw [hsm.ops]; rfl)⟩
    · have ws := o17.waits ho hwait
      have f14 : a.eval (.tmp 25) = .bool false := by obtain ⟨_, _, _, h⟩ := F 14 (ws 14 (by simp)) (by decide); exact h
      refine o17.via f14 (by rw [so.size]; show (25 : Nat) < _; omega) ?_
      refine o17.un.fieldSt (by omega) ((show _ = a1.eval _ from by simp only [Act.eval, Array.getD_eq_getD_getElem?, so.out 3 (by decide)]).trans e3) ?_
      exact hK _ _ (Later.refl w) rfl
    · have ws := o18.waits ho hwait
      have f14 : a.eval (.tmp 25) = .bool false := by obtain ⟨_, _, _, h⟩ := F 14 (ws 14 (by simp)) (by decide); exact h
      have f17 : a.eval (.tmp 28) = .pointer (some ⟨g3, 0 + 2, none⟩) := by obtain ⟨_, _, _, h⟩ := F 17 (ws 17 (by simp)) (by decide); exact h
      refine o18.via f14 (by rw [so.size]; show (25 : Nat) < _; omega) ?_
      refine o18.un.loadI10 f17 (hl0.cell (hb.cell rfl)) ?_
      exact hK _ _ (Later.refl w) rfl
    · have ws := o19.waits ho hwait
      have f14 : a.eval (.tmp 25) = .bool false := by obtain ⟨_, _, _, h⟩ := F 14 (ws 14 (by simp)) (by decide); exact h
      have f16 : a.eval (.tmp 27) = .int .i64 (s.ops : Nat) := by obtain ⟨_, _, _, h⟩ := F 16 (ws 16 (by simp)) (by decide); exact h
      have f18 : a.eval (.tmp 29) = .int .i64 (s.ops : Nat) := by obtain ⟨_, _, _, h⟩ := F 18 (ws 18 (by simp)) (by decide); exact h
      refine o19.via f14 (by rw [so.size]; show (25 : Nat) < _; omega) ?_
      refine o19.un.neqI f16 f18 ?_
      exact hK _ _ (Later.refl w) rfl
    · have ws := o20.waits ho hwait
      have f14 : a.eval (.tmp 25) = .bool false := by obtain ⟨_, _, _, h⟩ := F 14 (ws 14 (by simp)) (by decide); exact h
      have f19 : a.eval (.tmp 30) = .bool false := by obtain ⟨_, _, _, h⟩ := F 19 (ws 19 (by simp)) (by decide); exact h
      refine o20.pickF f14 f19 ?_
      exact hK _ _ (Later.refl w) rfl
    · have ws := o21.waits ho hwait
      have f20 : a.eval (.tmp 31) = .bool false := by obtain ⟨_, _, _, h⟩ := F 20 (ws 20 (by simp)) (by decide); exact h
      refine o21.move ?_
      rw [show a.eval (.tmp 31) = .bool false from f20]
      exact hK _ _ (Later.refl w) rfl
    · have ws := o22.waits ho hwait
      have f21 : a.eval (.tmp 32) = .bool false := by obtain ⟨_, _, _, h⟩ := F 21 (ws 21 (by simp)) (by decide); exact h
      refine o22.via f21 (by rw [so.size]; show (32 : Nat) < _; omega) ?_
      refine o22.un.move ?_
      rw [show a.eval (.tmp 0) = .pointer (some ⟨g, 0, none⟩) from ((show _ = a1.eval _ from by simp only [Act.eval, Array.getD_eq_getD_getElem?, so.out 0 (by decide)]).trans e0)]
      exact hK _ _ (Later.refl w) rfl
    · have ws := o23.waits ho hwait
      have f21 : a.eval (.tmp 32) = .bool false := by obtain ⟨_, _, _, h⟩ := F 21 (ws 21 (by simp)) (by decide); exact h
      have f22 : a.eval (.tmp 33) = .pointer (some ⟨g, 0, none⟩) := by obtain ⟨_, _, _, h⟩ := F 22 (ws 22 (by simp)) (by decide); exact h
      refine o23.via f21 (by rw [so.size]; show (32 : Nat) < _; omega) ?_
      refine o23.un.call1 (enters_of Try.func24 (by kernel_rfl) rfl) f22 (downDev_any (hd.later hl0)) ?_
      rintro e w' ⟨rfl, rfl⟩
      exact ⟨_, rfl, hK _ _ (Later.refl _) (by rw [hsm.down]; rfl)⟩
    · have ws := o24.waits ho hwait
      have f21 : a.eval (.tmp 32) = .bool false := by obtain ⟨_, _, _, h⟩ := F 21 (ws 21 (by simp)) (by decide); exact h
      refine o24.via f21 (by rw [so.size]; show (32 : Nat) < _; omega) ?_
      refine o24.un.fieldSt (by omega) ((show _ = a1.eval _ from by simp only [Act.eval, Array.getD_eq_getD_getElem?, so.out 3 (by decide)]).trans e3) ?_
      exact hK _ _ (Later.refl w) rfl
    · have ws := o25.waits ho hwait
      have f21 : a.eval (.tmp 32) = .bool false := by obtain ⟨_, _, _, h⟩ := F 21 (ws 21 (by simp)) (by decide); exact h
      have f24 : a.eval (.tmp 35) = .pointer (some ⟨g3, 0 + 4, none⟩) := by obtain ⟨_, _, _, h⟩ := F 24 (ws 24 (by simp)) (by decide); exact h
      refine o25.via f21 (by rw [so.size]; show (32 : Nat) < _; omega) ?_
      refine o25.un.loadB10 f24 (hl0.cell (hb.cell rfl)) ?_
      exact hK _ _ (Later.refl w) rfl
    · have ws := o26.waits ho hwait
      have f21 : a.eval (.tmp 32) = .bool false := by obtain ⟨_, _, _, h⟩ := F 21 (ws 21 (by simp)) (by decide); exact h
      have f23 : a.eval (.tmp 34) = .bool s.down := by obtain ⟨_, _, _, h⟩ := F 23 (ws 23 (by simp)) (by decide); exact h
      have f25 : a.eval (.tmp 36) = .bool s.down := by obtain ⟨_, _, _, h⟩ := F 25 (ws 25 (by simp)) (by decide); exact h
      refine o26.via f21 (by rw [so.size]; show (32 : Nat) < _; omega) ?_
      refine o26.un.neqB f23 f25 ?_
      exact hK _ _ (Later.refl w) rfl
    · have ws := o27.waits ho hwait
      have f21 : a.eval (.tmp 32) = .bool false := by obtain ⟨_, _, _, h⟩ := F 21 (ws 21 (by simp)) (by decide); exact h
      have f26 : a.eval (.tmp 37) = .bool false := by obtain ⟨_, _, _, h⟩ := F 26 (ws 26 (by simp)) (by decide); exact h
      refine o27.pickF f21 f26 ?_
      exact hK _ _ (Later.refl w) rfl
    · have ws := o28.waits ho hwait
      have f27 : a.eval (.tmp 38) = .bool false := by obtain ⟨_, _, _, h⟩ := F 27 (ws 27 (by simp)) (by decide); exact h
      refine o28.move ?_
      rw [show a.eval (.tmp 38) = .bool false from f27]
      exact hK _ _ (Later.refl w) rfl
    · have ws := o29.waits ho hwait
      have f28 : a.eval (.tmp 39) = .bool false := by obtain ⟨_, _, _, h⟩ := F 28 (ws 28 (by simp)) (by decide); exact h
      refine o29.via f28 (by rw [so.size]; show (39 : Nat) < _; omega) ?_
      refine o29.un.move ?_
      rw [show a.eval (.tmp 0) = .pointer (some ⟨g, 0, none⟩) from ((show _ = a1.eval _ from by simp only [Act.eval, Array.getD_eq_getD_getElem?, so.out 0 (by decide)]).trans e0)]
      exact hK _ _ (Later.refl w) rfl
    · have ws := o30.waits ho hwait
      have f28 : a.eval (.tmp 39) = .bool false := by obtain ⟨_, _, _, h⟩ := F 28 (ws 28 (by simp)) (by decide); exact h
      have f29 : a.eval (.tmp 40) = .pointer (some ⟨g, 0, none⟩) := by obtain ⟨_, _, _, h⟩ := F 29 (ws 29 (by simp)) (by decide); exact h
      refine o30.via f28 (by rw [so.size]; show (39 : Nat) < _; omega) ?_
      refine o30.un.call1 (enters_of Try.func19 (by kernel_rfl) rfl) f29 (imageDev_any (hd.later hl0)) ?_
      rintro e w' ⟨v, rfl, hv, hl'⟩
      obtain ⟨b, cb, rfl, _, _, hbs⟩ := own_bs_at hv (image_pos hd)
      exact ⟨_, rfl, hK _ _ hl' ⟨_, _, rfl, hbs⟩⟩
    · have ws := o31.waits ho hwait
      have f28 : a.eval (.tmp 39) = .bool false := by obtain ⟨_, _, _, h⟩ := F 28 (ws 28 (by simp)) (by decide); exact h
      refine o31.via f28 (by rw [so.size]; show (39 : Nat) < _; omega) ?_
      refine o31.un.loadMid (cs := stL A n c B m e s) ((show _ = a1.eval _ from by simp only [Act.eval, Array.getD_eq_getD_getElem?, so.out 3 (by decide)]).trans e3) ((hb.later hl0).range (o := 0) (fun j u hj => by rw [Nat.zero_add, List.getElem?_toArray]; exact hj)) Try.underlying30 rfl Try.stateSize ?_
      exact hK _ _ (Later.refl w) rfl
    · have ws := o32.waits ho hwait
      have f28 : a.eval (.tmp 39) = .bool false := by obtain ⟨_, _, _, h⟩ := F 28 (ws 28 (by simp)) (by decide); exact h
      have f31 : a.eval (.tmp 42) = .agg (stL A n c B m e s).toArray := by obtain ⟨_, _, _, h⟩ := F 31 (ws 31 (by simp)) (by decide); exact h
      refine o32.via f28 (by rw [so.size]; show (39 : Nat) < _; omega) ?_
      refine o32.un.call1 (enters_of Try.func50 (by kernel_rfl) rfl) f31 (imageRef_any (hs0.later hl0) hm hn4 c e) ?_
      rintro e w' ⟨v, rfl, hv, hl'⟩
      rw [← hsm.image] at hv
      obtain ⟨b, cb, rfl, _, _, hbs⟩ := own_bs_at hv (image_pos hd)
      exact ⟨_, rfl, hK _ _ hl' ⟨_, _, rfl, hbs⟩⟩
    · have ws := o33.waits ho hwait
      have f28 : a.eval (.tmp 39) = .bool false := by obtain ⟨_, _, _, h⟩ := F 28 (ws 28 (by simp)) (by decide); exact h
      obtain ⟨x30, y30, z30, f30⟩ := F 30 (ws 30 (by simp)) (by decide)
      obtain ⟨x32, y32, z32, f32⟩ := F 32 (ws 32 (by simp)) (by decide)
      refine o33.via f28 (by rw [so.size]; show (39 : Nat) < _; omega) ?_
      obtain ⟨b, cb, e1, hb1⟩ := f30
      obtain ⟨b2, cb2, e2, hb2⟩ := f32
      refine o33.un.call2 (enters_of Try.func20 (by kernel_rfl) rfl) e1 e2 (bytesEqual_any (c := cb) (e := cb2) (hb1.later z30) (hb2.later z32)) ?_
      rintro e w' ⟨rfl, rfl⟩
      exact ⟨_, rfl, hK _ _ (Later.refl _) (by rw [show decide (imageP d = imageP d) = true by simp]; rfl)⟩
    · have ws := o34.waits ho hwait
      have f28 : a.eval (.tmp 39) = .bool false := by obtain ⟨_, _, _, h⟩ := F 28 (ws 28 (by simp)) (by decide); exact h
      have f33 : a.eval (.tmp 44) = .bool true := by obtain ⟨_, _, _, h⟩ := F 33 (ws 33 (by simp)) (by decide); exact h
      refine o34.via f28 (by rw [so.size]; show (39 : Nat) < _; omega) ?_
      refine o34.un.notB f33 ?_
      exact hK _ _ (Later.refl w) rfl
    · have ws := o35.waits ho hwait
      have f28 : a.eval (.tmp 39) = .bool false := by obtain ⟨_, _, _, h⟩ := F 28 (ws 28 (by simp)) (by decide); exact h
      have f34 : a.eval (.tmp 45) = .bool false := by obtain ⟨_, _, _, h⟩ := F 34 (ws 34 (by simp)) (by decide); exact h
      refine o35.pickF f28 f34 ?_
      exact hK _ _ (Later.refl w) rfl
  · intro a w so hl F
    exact hend a w so hl (by obtain ⟨_, _, _, h⟩ := F 35 rfl (by decide); exact h)

end Go.Proofs.Ytaonfedjilfgjaa

/-
  The reference's count, as a call.
-/
namespace Go.Proofs.Ytaonfedjilfgjaa
open Go.RowKit

/-- An op more. -/
def countR (s : StP) : StP := { s with ops := s.ops + 1, down := s.down || decide (s.fuse = 0), fuse := if 0 ≤ s.fuse then s.fuse - 1 else s.fuse }
theorem StAt.same {w : World} {A B : Option Addr} {n m : Nat} {s s' : StP} (h : StAt w A n B m s) (h1 : s'.l = s.l) (h2 : s'.row = s.row) : StAt w A n B m s' := ⟨by rw [h1]; exact h.l, by rw [h2]; exact h.row, by rw [h1]; exact h.sz, by rw [h2]; exact h.rz, h.nil⟩
theorem made2 (w : World) (o : Obj) (cs : Array Value) (T : TypeId) : CellsAt ((w.alloc o).alloc (.cells cs T)) (w.heap.size + 1) cs T := by
  have := CellsAt.made (w.alloc o) cs T
  rwa [World.size_alloc] at this
set_option maxRecDepth 100000 in
set_option maxHeartbeats 800000 in
theorem count_any (vL vR : Value) (s : StP) (hL : ∃ A n c, vL = .slice A n c) (hR : ∃ B m e, vR = .slice B m e) (ho : s.ops ≤ 1000000000) (hf0 : -9223372036854775808 ≤ s.fuse) (hf1 : s.fuse ≤ 9223372036854775807) (w : World) :
    Calls Try.prog 53 #[.agg #[vL, vR, .int .i64 (s.ops : Nat), .int .i64 s.fuse, .bool s.down]] w fun e w' => e = .returned (.agg #[vL, vR, .int .i64 ((countR s).ops : Nat), .int .i64 (countR s).fuse, .bool (countR s).down]) ∧ Later w w' := by
  obtain ⟨A, n, c, rfl⟩ := hL
  obtain ⟨B, m, e, rfl⟩ := hR
  obtain ⟨l, row, ops, fuse, down⟩ := s
  dsimp only at ho hf0 hf1 ⊢
  go_enter Try.func53, Try.ntmps53
  by_cases h0 : fuse = 0
  · subst h0
    go_wp2
    refine bodyPost_ret (results_cell_row rfl _ _ (w.heap.size + 1) _ _ _ _ rfl (made2 _ _ _ _) Try.underlying30 rfl Try.stateSize) rfl ?_
    exact ⟨by simp [countR], ((Later.refl w).alloc _).alloc _⟩
  · by_cases h1 : 0 ≤ fuse
    · go_wp2
      refine bodyPost_ret (results_cell_row rfl _ _ (w.heap.size + 1) _ _ _ _ rfl (made2 _ _ _ _) Try.underlying30 rfl Try.stateSize) rfl ?_
      exact ⟨by simp [countR, h0, h1], ((Later.refl w).alloc _).alloc _⟩
    · go_wp2
      refine bodyPost_ret (results_cell_row rfl _ _ (w.heap.size + 1) _ _ _ _ rfl (made2 _ _ _ _) Try.underlying30 rfl Try.stateSize) rfl ?_
      exact ⟨by simp [countR, h0]; omega, ((Later.refl w).alloc _).alloc _⟩

end Go.Proofs.Ytaonfedjilfgjaa

/-
  The reference's Do, as a call: the kinds that make no write.
-/
namespace Go.Proofs.Ytaonfedjilfgjaa
open Go.RowKit

/-- Two results: one stands in a block, one in a slot. -/
theorem results_cell_two {P : Program} {fn : Func} {p u : Tmp} {ty : TypeId} (h : fn.results = #[.cell p ty, .tmp u]) (tmps : Array Value) (w : World) (g : Nat) (t : TypeId) (cs : Array Value) (fr : Nat × Nat) (d : TypeDesc)
    (hp : tmps.getD p undef = .pointer (some ⟨g, 0, none⟩)) (hg : w.heap[g]? = some (.cells cs t fr))
    (hu : P.underlying ty = some d) (hd : (match d with | .struct _ | .array _ _ => true | _ => false) = true) (hi : (P.info? ty).map (·.size) = some cs.size) :
    (results fn tmps).run P w = .ok (.tuple #[.agg cs, tmps.getD u undef]) w := by
  have hp' : tmps[p]?.getD undef = .pointer (some ⟨g, 0, none⟩) := by simpa using hp
  simp [results, h, hp', asAddr, run_loadVar_row w g t ty cs fr d hg hu hd hi]
theorem made3 (w : World) (o o2 : Obj) (cs : Array Value) (T : TypeId) : CellsAt (((w.alloc o).alloc o2).alloc (.cells cs T)) (w.heap.size + 2) cs T := by
  have := CellsAt.made ((w.alloc o).alloc o2) cs T
  rwa [World.size_alloc, World.size_alloc] at this
/-- What Do makes of a state. -/
def doR (s : StP) (x : OpC) : StP × Int :=
  if x.kind = 0 then
    if s.down = true then (s, 100) else if x.k < 0 ∨ (s.l.length : Int) ≤ x.k ∨ 64 < x.bs.length then (s, 101)
    else let t := countR { s with row := s.row ++ [(x.k, fillB x.bs)] }; (t, if t.down = true then 100 else 0)
  else if x.kind = 1 then
    if s.down = true then (s, 100) else let t := countR s; if t.down = true then (t, 100) else ({ t with l := (List.range s.l.length).map (atR s), row := [] }, 0)
  else if x.kind = 2 then ({ s with fuse := max x.k (-1) }, 0)
  else (s, 0)
section
variable {w : World} {A B : Option Addr} {n m : Nat} {s : StP}
set_option maxRecDepth 100000 in
set_option maxHeartbeats 800000 in
theorem do_else (h : StAt w A n B m s) (c e : Nat) (x : OpC) (hk0 : x.kind ≠ 0) (hk1 : x.kind ≠ 1) (hk3 : x.kind ≠ 3) :
    Calls Try.prog 16 #[.agg #[.slice A n c, .slice B m e, .int .i64 (s.ops : Nat), .int .i64 s.fuse, .bool s.down], opV x] w fun e9 w' => ∃ A' n' c' B' m' e', e9 = .returned (.tuple #[.agg #[.slice A' n' c', .slice B' m' e', .int .i64 ((doR s x).1.ops : Nat), .int .i64 (doR s x).1.fuse, .bool (doR s x).1.down], .int .i64 (doR s x).2]) ∧ StAt w' A' n' B' m' (doR s x).1 ∧ Later w w' ∧ (∀ a, A' = some a → A' = A ∨ w.heap.size ≤ a.block) ∧ ∀ a, B' = some a → B' = B ∨ w.heap.size ≤ a.block := by
  obtain ⟨kd, k, A1, n1, c1, bs, F, m1, e1, fs⟩ := x
  dsimp only at hk0 hk1 hk3
  have HS := Lib.hid h
  clear h
  unfold opV opL
  dsimp only
  by_cases hk2 : kd = 2
  · subst hk2
    have hd : doR s ⟨2, k, A1, n1, c1, bs, F, m1, e1, fs⟩ = ({ s with fuse := max k (-1) }, 0) := rfl
    rw [hd]
    go_enter Try.func16, Try.ntmps16
    go_wp2
    refine bodyPost_ret (results_cell_two rfl _ _ (w.heap.size + 2) _ _ _ _ rfl (made3 _ _ _ _ _) Try.underlying30 rfl Try.stateSize) rfl ?_
    have hl : ∀ o1 o2 o3 : Obj, Later w (((w.alloc o1).alloc o2).alloc o3) := fun _ _ _ => (((Later.refl w).alloc _).alloc _).alloc _
    exact ⟨A, n, c, B, m, e, rfl, (HS.out.later (hl _ _ _)).same rfl rfl, hl _ _ _, fun _ _ => .inl rfl, fun _ _ => .inl rfl⟩
  · have hd : doR s ⟨kd, k, A1, n1, c1, bs, F, m1, e1, fs⟩ = (s, 0) := by unfold doR; rw [if_neg hk0, if_neg hk1, if_neg hk2]
    rw [hd]
    go_enter Try.func16, Try.ntmps16
    go_wp2
    refine bodyPost_ret (results_cell_two rfl _ _ (w.heap.size + 2) _ _ _ _ rfl (made3 _ _ _ _ _) Try.underlying30 rfl Try.stateSize) rfl ?_
    have hl : ∀ o1 o2 o3 : Obj, Later w (((w.alloc o1).alloc o2).alloc o3) := fun _ _ _ => (((Later.refl w).alloc _).alloc _).alloc _
    exact ⟨A, n, c, B, m, e, rfl, (HS.out.later (hl _ _ _)).same rfl rfl, hl _ _ _, fun _ _ => .inl rfl, fun _ _ => .inl rfl⟩
end

end Go.Proofs.Ytaonfedjilfgjaa
