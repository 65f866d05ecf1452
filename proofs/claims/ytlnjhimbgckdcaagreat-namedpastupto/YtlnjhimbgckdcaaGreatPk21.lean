import Derived.Test.YtlnjhimbgckdcaaGreatPk16
import Derived.Test.YtlnjhimbgckdcaaGreatPk18
import Derived.Test.YtlnjhimbgckdcaaGreatPk19
import Derived.Test.YtlnjhimbgckdcaaGreatPk20

/-
  The example's last statement: in whatever order its operations come.
-/
namespace Go.Proofs.YtlnjhimbgckdcaaGreat
open Go.RowKit Go.Maps

def alive5_region_R (y z xa xb xc : PaC) (gl bv bu g7 b7 cv cu c7 : Nat) : Nat -> Value -> World -> Prop
  | 0, v, _ => v = .slice (some ⟨bv, 0, none⟩) 2 cv
  | 1, v, _ => v = .int .i64 (2 : Nat)
  | 2, v, _ => v = .bool true
  | 3, v, _ => v = .bool true
  | 4, v, _ => v = .slice (some ⟨bv, 0, none⟩) 2 cv
  | 5, v, _ => v = .pointer (some ⟨bv, 0 + 0 * 4, none⟩)
  | 6, v, _ => v = .pointer (some ⟨bv, 0 + 0 * 4 + 0, none⟩)
  | 7, v, _ => v = .int .i64 1
  | 8, v, _ => v = .bool true
  | 9, v, _ => v = .bool true
  | 10, v, _ => v = .bool true
  | 11, v, _ => v = .slice (some ⟨bv, 0, none⟩) 2 cv
  | 12, v, _ => v = .pointer (some ⟨bv, 0 + 1 * 4, none⟩)
  | 13, v, _ => v = .pointer (some ⟨bv, 0 + 1 * 4 + 0, none⟩)
  | 14, v, _ => v = .int .i64 3
  | 15, v, _ => v = .bool true
  | 16, v, _ => v = .bool true
  | 17, v, _ => v = .bool true
  | 18, v, _ => v = .slice (some ⟨bu, 0, none⟩) 1 cu
  | 19, v, _ => v = .int .i64 (1 : Nat)
  | 20, v, _ => v = .bool true
  | 21, v, _ => v = .bool true
  | 22, v, _ => v = .bool true
  | 23, v, _ => v = .slice (some ⟨bu, 0, none⟩) 1 cu
  | 24, v, _ => v = .pointer (some ⟨bu, 0 + 0 * 4, none⟩)
  | 25, v, _ => v = .pointer (some ⟨bu, 0 + 0 * 4 + 0, none⟩)
  | 26, v, _ => v = .int .i64 2
  | 27, v, _ => v = .bool true
  | 28, v, _ => v = .bool true
  | 29, v, _ => v = .bool true
  | 30, v, _ => v = .bool true
  | 31, v, _ => v = .bool true
  | 32, v, _ => v = .bool true
  | 33, v, _ => v = paV y
  | 34, v, _ => v = .slice (some ⟨gl, 0, none⟩) 3 3
  | 35, v, _ => v = .pointer (some ⟨gl, 0 + 1 * 4, none⟩)
  | 36, v, _ => v = paV xb
  | 37, v, _ => v = .bool true
  | 38, v, _ => v = .bool true
  | 39, v, _ => v = .bool true
  | 40, v, _ => v = paV z
  | 41, v, _ => v = .slice (some ⟨gl, 0, none⟩) 3 3
  | 42, v, _ => v = .pointer (some ⟨gl, 0 + 0 * 4, none⟩)
  | 43, v, _ => v = paV xa
  | 44, v, w => ∃ y2 : PaC, v = paV y2 /\ PaOk w y2 /\ y2.v = xa.v
  | 45, v, _ => v = .bool true
  | 46, v, _ => v = .bool true
  | 47, v, _ => v = .bool true
  | 48, v, _ => v = .bool true
  | 49, v, _ => v = .bool true
  | 50, v, _ => v = .bool true
  | 51, v, _ => v = .pointer (some ⟨g7, 0 + 0, none⟩)
  | 52, v, _ => v = .int .i64 9
  | 53, v, _ => v = .bool true
  | 54, v, _ => v = .bool true
  | 55, v, _ => v = .bool true
  | 56, v, _ => v = .slice (some ⟨b7, 0, none⟩) 2 c7
  | 57, v, _ => v = .int .i64 (2 : Nat)
  | 58, v, _ => v = .bool true
  | 59, v, _ => v = .bool true
  | 60, v, _ => v = .bool true
  | 61, v, _ => v = .slice (some ⟨gl, 0, none⟩) 3 3
  | 62, v, _ => v = .pointer (some ⟨gl, 0 + 0 * 4, none⟩)
  | 63, v, _ => v = paV xa
  | 64, v, _ => v = .slice (some ⟨gl, 0, none⟩) 3 3
  | 65, v, _ => v = .pointer (some ⟨gl, 0 + 2 * 4, none⟩)
  | 66, v, _ => v = paV xc
  | 67, v, _ => v = .bool true
  | 68, v, _ => v = .bool true
  | 69, v, _ => v = .bool true
  | 70, v, _ => v = .slice (some ⟨gl, 0, none⟩) 3 3
  | 71, v, _ => v = .pointer (some ⟨gl, 0 + 0 * 4, none⟩)
  | 72, v, _ => v = paV xa
  | 73, v, _ => v = .bool true
  | 74, v, _ => v = .bool true
  | 75, v, _ => v = .bool true
  | 76, v, _ => v = paV zeroN
  | 77, v, _ => v = .bool false
  | 78, v, _ => v = .bool true
  | 79, v, _ => v = .bool true
  | 80, v, _ => v = .bool true
  | _, _, _ => True
set_option maxRecDepth 100000 in
set_option maxHeartbeats 1600000 in
theorem alive5_region {ops : Array Oper} (hn : ops.size = 81) (hg : goesBack ops = true)
    (o0 : OpIs ops 0 (.move (.tmp 2)) (some 47) [])
    (o1 : OpIs ops 1 (.call { callee := .builtin .len, args := #[.tmp 47], argTypes := #[40] }) (some 48) [0])
    (o2 : OpIs ops 2 (.binOp .eql 3 (.tmp 48) (.const (.int .i64 2)) 3) (some 49) [1])
    (o3 : OpIs ops 3 (.move (.tmp 49)) (some 50) [2])
    (o4 : OpG ops 4 (.move (.tmp 2)) (some 51) [3] 3 50)
    (o5 : OpG ops 5 (.indexAddr 40 (.tmp 51) (.const (.int .i64 0))) (some 52) [3, 4] 3 50)
    (o6 : OpG ops 6 (.fieldAddr 30 (.tmp 52) 0) (some 53) [3, 5] 3 50)
    (o7 : OpG ops 7 (.load 3 (.tmp 53)) (some 54) [3, 6] 3 50)
    (o8 : OpG ops 8 (.binOp .eql 3 (.tmp 54) (.const (.int .i64 1)) 3) (some 55) [3, 7] 3 50)
    (o9 : OpIs ops 9 (.pick (.tmp 50) (.tmp 55) (.const (.bool false))) (some 56) [3, 8])
    (o10 : OpIs ops 10 (.move (.tmp 56)) (some 57) [9])
    (o11 : OpG ops 11 (.move (.tmp 2)) (some 58) [10] 10 57)
    (o12 : OpG ops 12 (.indexAddr 40 (.tmp 58) (.const (.int .i64 1))) (some 59) [10, 11] 10 57)
    (o13 : OpG ops 13 (.fieldAddr 30 (.tmp 59) 0) (some 60) [10, 12] 10 57)
    (o14 : OpG ops 14 (.load 3 (.tmp 60)) (some 61) [10, 13] 10 57)
    (o15 : OpG ops 15 (.binOp .eql 3 (.tmp 61) (.const (.int .i64 3)) 3) (some 62) [10, 14] 10 57)
    (o16 : OpIs ops 16 (.pick (.tmp 57) (.tmp 62) (.const (.bool false))) (some 63) [10, 15])
    (o17 : OpIs ops 17 (.move (.tmp 63)) (some 64) [16])
    (o18 : OpG ops 18 (.move (.tmp 3)) (some 65) [17] 17 64)
    (o19 : OpG ops 19 (.call { callee := .builtin .len, args := #[.tmp 65], argTypes := #[40] }) (some 66) [17, 18] 17 64)
    (o20 : OpG ops 20 (.binOp .eql 3 (.tmp 66) (.const (.int .i64 1)) 3) (some 67) [17, 19] 17 64)
    (o21 : OpIs ops 21 (.pick (.tmp 64) (.tmp 67) (.const (.bool false))) (some 68) [17, 20])
    (o22 : OpIs ops 22 (.move (.tmp 68)) (some 69) [21])
    (o23 : OpG ops 23 (.move (.tmp 3)) (some 70) [22] 22 69)
    (o24 : OpG ops 24 (.indexAddr 40 (.tmp 70) (.const (.int .i64 0))) (some 71) [22, 23] 22 69)
    (o25 : OpG ops 25 (.fieldAddr 30 (.tmp 71) 0) (some 72) [22, 24] 22 69)
    (o26 : OpG ops 26 (.load 3 (.tmp 72)) (some 73) [22, 25] 22 69)
    (o27 : OpG ops 27 (.binOp .eql 3 (.tmp 73) (.const (.int .i64 2)) 3) (some 74) [22, 26] 22 69)
    (o28 : OpIs ops 28 (.pick (.tmp 69) (.tmp 74) (.const (.bool false))) (some 75) [22, 27])
    (o29 : OpIs ops 29 (.move (.tmp 75)) (some 76) [28])
    (o30 : OpG ops 30 (.move (.tmp 6)) (some 77) [29] 29 76)
    (o31 : OpIs ops 31 (.pick (.tmp 76) (.tmp 77) (.const (.bool false))) (some 78) [29, 30])
    (o32 : OpIs ops 32 (.move (.tmp 78)) (some 79) [31])
    (o33 : OpG ops 33 (.load 30 (.tmp 4)) (some 80) [32] 32 79)
    (o34 : OpG ops 34 (.move (.tmp 1)) (some 81) [32] 32 79)
    (o35 : OpG ops 35 (.indexAddr 40 (.tmp 81) (.const (.int .i64 1))) (some 82) [32, 34] 32 79)
    (o36 : OpG ops 36 (.load 30 (.tmp 82)) (some 83) [32, 35] 32 79)
    (o37 : OpG ops 37 (.call { callee := .value (.func 25), args := #[.tmp 80, .tmp 83], argTypes := #[30, 30] }) (some 84) [32, 33, 36] 32 79)
    (o38 : OpIs ops 38 (.pick (.tmp 79) (.tmp 84) (.const (.bool false))) (some 85) [32, 37])
    (o39 : OpIs ops 39 (.move (.tmp 85)) (some 86) [38])
    (o40 : OpG ops 40 (.load 30 (.tmp 5)) (some 87) [39] 39 86)
    (o41 : OpG ops 41 (.move (.tmp 1)) (some 88) [39] 39 86)
    (o42 : OpG ops 42 (.indexAddr 40 (.tmp 88) (.const (.int .i64 0))) (some 89) [39, 41] 39 86)
    (o43 : OpG ops 43 (.load 30 (.tmp 89)) (some 90) [39, 42] 39 86)
    (o44 : OpG ops 44 (.call { callee := .value (.func 23), args := #[.tmp 90], argTypes := #[30] }) (some 91) [39, 43] 39 86)
    (o45 : OpG ops 45 (.call { callee := .value (.func 25), args := #[.tmp 87, .tmp 91], argTypes := #[30, 30] }) (some 92) [39, 40, 44] 39 86)
    (o46 : OpIs ops 46 (.pick (.tmp 86) (.tmp 92) (.const (.bool false))) (some 93) [39, 45])
    (o47 : OpIs ops 47 (.move (.tmp 93)) (some 94) [46])
    (o48 : OpG ops 48 (.move (.tmp 9)) (some 95) [47] 47 94)
    (o49 : OpIs ops 49 (.pick (.tmp 94) (.tmp 95) (.const (.bool false))) (some 96) [47, 48])
    (o50 : OpIs ops 50 (.move (.tmp 96)) (some 97) [49])
    (o51 : OpG ops 51 (.fieldAddr 30 (.tmp 7) 0) (some 98) [50] 50 97)
    (o52 : OpG ops 52 (.load 3 (.tmp 98)) (some 99) [50, 51] 50 97)
    (o53 : OpG ops 53 (.binOp .eql 3 (.tmp 99) (.const (.int .i64 9)) 3) (some 100) [50, 52] 50 97)
    (o54 : OpIs ops 54 (.pick (.tmp 97) (.tmp 100) (.const (.bool false))) (some 101) [50, 53])
    (o55 : OpIs ops 55 (.move (.tmp 101)) (some 102) [54])
    (o56 : OpG ops 56 (.move (.tmp 8)) (some 103) [55] 55 102)
    (o57 : OpG ops 57 (.call { callee := .builtin .len, args := #[.tmp 103], argTypes := #[40] }) (some 104) [55, 56] 55 102)
    (o58 : OpG ops 58 (.binOp .eql 3 (.tmp 104) (.const (.int .i64 2)) 3) (some 105) [55, 57] 55 102)
    (o59 : OpIs ops 59 (.pick (.tmp 102) (.tmp 105) (.const (.bool false))) (some 106) [55, 58])
    (o60 : OpIs ops 60 (.move (.tmp 106)) (some 107) [59])
    (o61 : OpG ops 61 (.move (.tmp 1)) (some 108) [60] 60 107)
    (o62 : OpG ops 62 (.indexAddr 40 (.tmp 108) (.const (.int .i64 0))) (some 109) [60, 61] 60 107)
    (o63 : OpG ops 63 (.load 30 (.tmp 109)) (some 110) [60, 62] 60 107)
    (o64 : OpG ops 64 (.move (.tmp 1)) (some 111) [60] 60 107)
    (o65 : OpG ops 65 (.indexAddr 40 (.tmp 111) (.const (.int .i64 2))) (some 112) [60, 64] 60 107)
    (o66 : OpG ops 66 (.load 30 (.tmp 112)) (some 113) [60, 65] 60 107)
    (o67 : OpG ops 67 (.call { callee := .value (.func 14), args := #[.tmp 110, .tmp 113], argTypes := #[30, 30] }) (some 114) [60, 63, 66] 60 107)
    (o68 : OpIs ops 68 (.pick (.tmp 107) (.tmp 114) (.const (.bool false))) (some 115) [60, 67])
    (o69 : OpIs ops 69 (.move (.tmp 115)) (some 116) [68])
    (o70 : OpG ops 70 (.move (.tmp 1)) (some 117) [69] 69 116)
    (o71 : OpG ops 71 (.indexAddr 40 (.tmp 117) (.const (.int .i64 0))) (some 118) [69, 70] 69 116)
    (o72 : OpG ops 72 (.load 30 (.tmp 118)) (some 119) [69, 71] 69 116)
    (o73 : OpG ops 73 (.call { callee := .value (.func 26), args := #[.tmp 119], argTypes := #[30] }) (some 120) [69, 72] 69 116)
    (o74 : OpIs ops 74 (.pick (.tmp 116) (.tmp 120) (.const (.bool false))) (some 121) [69, 73])
    (o75 : OpIs ops 75 (.move (.tmp 121)) (some 122) [74])
    (o76 : OpG ops 76 (.build 30 #[]) (some 123) [75] 75 122)
    (o77 : OpG ops 77 (.call { callee := .value (.func 26), args := #[.tmp 123], argTypes := #[30] }) (some 124) [75, 76] 75 122)
    (o78 : OpG ops 78 (.unOp .not 4 (.tmp 124)) (some 125) [75, 77] 75 122)
    (o79 : OpIs ops 79 (.pick (.tmp 122) (.tmp 125) (.const (.bool false))) (some 126) [75, 78])
    (o80 : OpIs ops 80 (.assign (.tmp 126)) (some 0) [79])
    {a1 : Act} (hs : 127 <= a1.tmps.size) {wx : World} {y z xa xb xc : PaC} {xs : List PaC} {gl bv bu g7 g8 g9 b7 cv cu c7 : Nat} (e1 : a1.eval (.tmp 1) = .slice (some ⟨gl, 0, none⟩) 3 3) (e2 : a1.eval (.tmp 2) = .slice (some ⟨bv, 0, none⟩) 2 cv) (e3 : a1.eval (.tmp 3) = .slice (some ⟨bu, 0, none⟩) 1 cu) (e4 : a1.eval (.tmp 4) = .pointer (some ⟨g8, 0, none⟩)) (e5 : a1.eval (.tmp 5) = .pointer (some ⟨g9, 0, none⟩)) (e6 : a1.eval (.tmp 6) = .bool true) (e7 : a1.eval (.tmp 7) = .pointer (some ⟨g7, 0, none⟩)) (e8 : a1.eval (.tmp 8) = .slice (some ⟨b7, 0, none⟩) 2 c7) (e9 : a1.eval (.tmp 9) = .bool true) (hrow : RowK 4 wx (some ⟨gl, 0, none⟩) 3 (xs.map paL)) (hxa : xs[0]? = some xa) (hxb : xs[1]? = some xb) (hxc : xs[2]? = some xc) (oka : PaOk wx xa) (okb : PaOk wx xb) (okc : PaOk wx xc) (oky : PaOk wx y) (okz : PaOk wx z) (hb8 : BoxAt wx g8 (paL y).toArray 30) (hb9 : BoxAt wx g9 (paL z).toArray 30) (hv0 : wx.cell? ⟨bv, 0, none⟩ = some (.int .i64 1)) (hv1 : wx.cell? ⟨bv, 4, none⟩ = some (.int .i64 3)) (hu0 : wx.cell? ⟨bu, 0, none⟩ = some (.int .i64 2)) (h7 : wx.cell? ⟨g7, 0, none⟩ = some (.int .i64 9)) (hs1 : sameN y.v xb.v = true) (hs2 : sameN z.v xa.v = true) (hs3 : (swapN xa.v xc.v).isNone = true) (hs4 : rightN xa.v = true) (hs5 : rightN zeroN.v = false)
    {Q : Exit -> Act -> World -> Prop} {id : Nat} (hend : ∀ (a : Act) (w : World), SameOut a1 a [47, 48, 49, 50, 51, 52, 53, 54, 55, 56, 57, 58, 59, 60, 61, 62, 63, 64, 65, 66, 67, 68, 69, 70, 71, 72, 73, 74, 75, 76, 77, 78, 79, 80, 81, 82, 83, 84, 85, 86, 87, 88, 89, 90, 91, 92, 93, 94, 95, 96, 97, 98, 99, 100, 101, 102, 103, 104, 105, 106, 107, 108, 109, 110, 111, 112, 113, 114, 115, 116, 117, 118, 119, 120, 121, 122, 123, 124, 125, 126, 0] -> Later wx w -> a.eval (.tmp 0) = .bool true -> Q .normal a w) :
    (Code.region id ops true).wp Tryz.prog Q a1 wx := by
  refine region_reads (n := 81) (by kernel_rfl) hg hn [47, 48, 49, 50, 51, 52, 53, 54, 55, 56, 57, 58, 59, 60, 61, 62, 63, 64, 65, 66, 67, 68, 69, 70, 71, 72, 73, 74, 75, 76, 77, 78, 79, 80, 81, 82, 83, 84, 85, 86, 87, 88, 89, 90, 91, 92, 93, 94, 95, 96, 97, 98, 99, 100, 101, 102, 103, 104, 105, 106, 107, 108, 109, 110, 111, 112, 113, 114, 115, 116, 117, 118, 119, 120, 121, 122, 123, 124, 125, 126, 0] (by decide +kernel) rfl (fun d hd => ?_) (alive5_region_R y z xa xb xc gl bv bu g7 b7 cv cu c7) ?_ ?_
  · have : d < 127 := by
      have h : ∀ d ∈ ([47, 48, 49, 50, 51, 52, 53, 54, 55, 56, 57, 58, 59, 60, 61, 62, 63, 64, 65, 66, 67, 68, 69, 70, 71, 72, 73, 74, 75, 76, 77, 78, 79, 80, 81, 82, 83, 84, 85, 86, 87, 88, 89, 90, 91, 92, 93, 94, 95, 96, 97, 98, 99, 100, 101, 102, 103, 104, 105, 106, 107, 108, 109, 110, 111, 112, 113, 114, 115, 116, 117, 118, 119, 120, 121, 122, 123, 124, 125, 126, 0] : List Nat), d < 127 := by decide +kernel
      exact h d hd
    omega
  · intro l a w i o K ho hi hwait so hl0 F hK
    have hc : i = 0 ∨ i = 1 ∨ i = 2 ∨ i = 3 ∨ i = 4 ∨ i = 5 ∨ i = 6 ∨ i = 7 ∨ i = 8 ∨ i = 9 ∨ i = 10 ∨ i = 11 ∨ i = 12 ∨ i = 13 ∨ i = 14 ∨ i = 15 ∨ i = 16 ∨ i = 17 ∨ i = 18 ∨ i = 19 ∨ i = 20 ∨ i = 21 ∨ i = 22 ∨ i = 23 ∨ i = 24 ∨ i = 25 ∨ i = 26 ∨ i = 27 ∨ i = 28 ∨ i = 29 ∨ i = 30 ∨ i = 31 ∨ i = 32 ∨ i = 33 ∨ i = 34 ∨ i = 35 ∨ i = 36 ∨ i = 37 ∨ i = 38 ∨ i = 39 ∨ i = 40 ∨ i = 41 ∨ i = 42 ∨ i = 43 ∨ i = 44 ∨ i = 45 ∨ i = 46 ∨ i = 47 ∨ i = 48 ∨ i = 49 ∨ i = 50 ∨ i = 51 ∨ i = 52 ∨ i = 53 ∨ i = 54 ∨ i = 55 ∨ i = 56 ∨ i = 57 ∨ i = 58 ∨ i = 59 ∨ i = 60 ∨ i = 61 ∨ i = 62 ∨ i = 63 ∨ i = 64 ∨ i = 65 ∨ i = 66 ∨ i = 67 ∨ i = 68 ∨ i = 69 ∨ i = 70 ∨ i = 71 ∨ i = 72 ∨ i = 73 ∨ i = 74 ∨ i = 75 ∨ i = 76 ∨ i = 77 ∨ i = 78 ∨ i = 79 ∨ i = 80 := by omega
    rcases hc with rfl | rfl | rfl | rfl | rfl | rfl | rfl | rfl | rfl | rfl | rfl | rfl | rfl | rfl | rfl | rfl | rfl | rfl | rfl | rfl | rfl | rfl | rfl | rfl | rfl | rfl | rfl | rfl | rfl | rfl | rfl | rfl | rfl | rfl | rfl | rfl | rfl | rfl | rfl | rfl | rfl | rfl | rfl | rfl | rfl | rfl | rfl | rfl | rfl | rfl | rfl | rfl | rfl | rfl | rfl | rfl | rfl | rfl | rfl | rfl | rfl | rfl | rfl | rfl | rfl | rfl | rfl | rfl | rfl | rfl | rfl | rfl | rfl | rfl | rfl | rfl | rfl | rfl | rfl | rfl | rfl
    · refine o0.move ?_
      rw [show a.eval (.tmp 2) = .slice (some ⟨bv, 0, none⟩) 2 cv from ((show _ = a1.eval _ from by simp only [Act.eval, Array.getD_eq_getD_getElem?, so.out 2 (by decide)]).trans e2)]
      exact hK _ _ (Later.refl w) rfl
    · have ws := o1.waits ho hwait
      have f0 : a.eval (.tmp 47) = .slice (some ⟨bv, 0, none⟩) 2 cv := by obtain ⟨_, _, _, h⟩ := F 0 (ws 0 (by simp)) (by decide); exact h
      refine o1.lenN f0 ?_
      exact hK _ _ (Later.refl w) rfl
    · have ws := o2.waits ho hwait
      have f1 : a.eval (.tmp 48) = .int .i64 (2 : Nat) := by obtain ⟨_, _, _, h⟩ := F 1 (ws 1 (by simp)) (by decide); exact h
      refine o2.eqlC f1 ?_
      exact hK _ _ (Later.refl w) rfl
    · have ws := o3.waits ho hwait
      have f2 : a.eval (.tmp 49) = .bool true := by obtain ⟨_, _, _, h⟩ := F 2 (ws 2 (by simp)) (by decide); exact h
      refine o3.move ?_
      rw [show a.eval (.tmp 49) = .bool true from f2]
      exact hK _ _ (Later.refl w) rfl
    · have ws := o4.waits ho hwait
      have f3 : a.eval (.tmp 50) = .bool true := by obtain ⟨_, _, _, h⟩ := F 3 (ws 3 (by simp)) (by decide); exact h
      refine o4.via f3 (by rw [so.size]; show (50 : Nat) < _; omega) ?_
      refine o4.un.move ?_
      rw [show a.eval (.tmp 2) = .slice (some ⟨bv, 0, none⟩) 2 cv from ((show _ = a1.eval _ from by simp only [Act.eval, Array.getD_eq_getD_getElem?, so.out 2 (by decide)]).trans e2)]
      exact hK _ _ (Later.refl w) rfl
    · have ws := o5.waits ho hwait
      have f3 : a.eval (.tmp 50) = .bool true := by obtain ⟨_, _, _, h⟩ := F 3 (ws 3 (by simp)) (by decide); exact h
      have f4 : a.eval (.tmp 51) = .slice (some ⟨bv, 0, none⟩) 2 cv := by obtain ⟨_, _, _, h⟩ := F 4 (ws 4 (by simp)) (by decide); exact h
      refine o5.via f3 (by rw [so.size]; show (50 : Nat) < _; omega) ?_
      refine o5.un.indexNC (m := 0) rfl f4 (by omega) ?_
      exact hK _ _ (Later.refl w) rfl
    · have ws := o6.waits ho hwait
      have f3 : a.eval (.tmp 50) = .bool true := by obtain ⟨_, _, _, h⟩ := F 3 (ws 3 (by simp)) (by decide); exact h
      have f5 : a.eval (.tmp 52) = .pointer (some ⟨bv, 0 + 0 * 4, none⟩) := by obtain ⟨_, _, _, h⟩ := F 5 (ws 5 (by simp)) (by decide); exact h
      refine o6.via f3 (by rw [so.size]; show (50 : Nat) < _; omega) ?_
      refine o6.un.fieldN (by omega) f5 ?_
      exact hK _ _ (Later.refl w) rfl
    · have ws := o7.waits ho hwait
      have f3 : a.eval (.tmp 50) = .bool true := by obtain ⟨_, _, _, h⟩ := F 3 (ws 3 (by simp)) (by decide); exact h
      have f6 : a.eval (.tmp 53) = .pointer (some ⟨bv, 0 + 0 * 4 + 0, none⟩) := by obtain ⟨_, _, _, h⟩ := F 6 (ws 6 (by simp)) (by decide); exact h
      refine o7.via f3 (by rw [so.size]; show (50 : Nat) < _; omega) ?_
      refine o7.un.loadI7 f6 (hl0.cell hv0) ?_
      exact hK _ _ (Later.refl w) rfl
    · have ws := o8.waits ho hwait
      have f3 : a.eval (.tmp 50) = .bool true := by obtain ⟨_, _, _, h⟩ := F 3 (ws 3 (by simp)) (by decide); exact h
      have f7 : a.eval (.tmp 54) = .int .i64 1 := by obtain ⟨_, _, _, h⟩ := F 7 (ws 7 (by simp)) (by decide); exact h
      refine o8.via f3 (by rw [so.size]; show (50 : Nat) < _; omega) ?_
      refine o8.un.eqlC f7 ?_
      exact hK _ _ (Later.refl w) rfl
    · have ws := o9.waits ho hwait
      have f3 : a.eval (.tmp 50) = .bool true := by obtain ⟨_, _, _, h⟩ := F 3 (ws 3 (by simp)) (by decide); exact h
      have f8 : a.eval (.tmp 55) = .bool true := by obtain ⟨_, _, _, h⟩ := F 8 (ws 8 (by simp)) (by decide); exact h
      refine o9.pick f3 f8 ?_
      exact hK _ _ (Later.refl w) rfl
    · have ws := o10.waits ho hwait
      have f9 : a.eval (.tmp 56) = .bool true := by obtain ⟨_, _, _, h⟩ := F 9 (ws 9 (by simp)) (by decide); exact h
      refine o10.move ?_
      rw [show a.eval (.tmp 56) = .bool true from f9]
      exact hK _ _ (Later.refl w) rfl
    · have ws := o11.waits ho hwait
      have f10 : a.eval (.tmp 57) = .bool true := by obtain ⟨_, _, _, h⟩ := F 10 (ws 10 (by simp)) (by decide); exact h
      refine o11.via f10 (by rw [so.size]; show (57 : Nat) < _; omega) ?_
      refine o11.un.move ?_
      rw [show a.eval (.tmp 2) = .slice (some ⟨bv, 0, none⟩) 2 cv from ((show _ = a1.eval _ from by simp only [Act.eval, Array.getD_eq_getD_getElem?, so.out 2 (by decide)]).trans e2)]
      exact hK _ _ (Later.refl w) rfl
    · have ws := o12.waits ho hwait
      have f10 : a.eval (.tmp 57) = .bool true := by obtain ⟨_, _, _, h⟩ := F 10 (ws 10 (by simp)) (by decide); exact h
      have f11 : a.eval (.tmp 58) = .slice (some ⟨bv, 0, none⟩) 2 cv := by obtain ⟨_, _, _, h⟩ := F 11 (ws 11 (by simp)) (by decide); exact h
      refine o12.via f10 (by rw [so.size]; show (57 : Nat) < _; omega) ?_
      refine o12.un.indexNC (m := 1) rfl f11 (by omega) ?_
      exact hK _ _ (Later.refl w) rfl
    · have ws := o13.waits ho hwait
      have f10 : a.eval (.tmp 57) = .bool true := by obtain ⟨_, _, _, h⟩ := F 10 (ws 10 (by simp)) (by decide); exact h
      have f12 : a.eval (.tmp 59) = .pointer (some ⟨bv, 0 + 1 * 4, none⟩) := by obtain ⟨_, _, _, h⟩ := F 12 (ws 12 (by simp)) (by decide); exact h
      refine o13.via f10 (by rw [so.size]; show (57 : Nat) < _; omega) ?_
      refine o13.un.fieldN (by omega) f12 ?_
      exact hK _ _ (Later.refl w) rfl
    · have ws := o14.waits ho hwait
      have f10 : a.eval (.tmp 57) = .bool true := by obtain ⟨_, _, _, h⟩ := F 10 (ws 10 (by simp)) (by decide); exact h
      have f13 : a.eval (.tmp 60) = .pointer (some ⟨bv, 0 + 1 * 4 + 0, none⟩) := by obtain ⟨_, _, _, h⟩ := F 13 (ws 13 (by simp)) (by decide); exact h
      refine o14.via f10 (by rw [so.size]; show (57 : Nat) < _; omega) ?_
      refine o14.un.loadI7 f13 (hl0.cell hv1) ?_
      exact hK _ _ (Later.refl w) rfl
    · have ws := o15.waits ho hwait
      have f10 : a.eval (.tmp 57) = .bool true := by obtain ⟨_, _, _, h⟩ := F 10 (ws 10 (by simp)) (by decide); exact h
      have f14 : a.eval (.tmp 61) = .int .i64 3 := by obtain ⟨_, _, _, h⟩ := F 14 (ws 14 (by simp)) (by decide); exact h
      refine o15.via f10 (by rw [so.size]; show (57 : Nat) < _; omega) ?_
      refine o15.un.eqlC f14 ?_
      exact hK _ _ (Later.refl w) rfl
    · have ws := o16.waits ho hwait
      have f10 : a.eval (.tmp 57) = .bool true := by obtain ⟨_, _, _, h⟩ := F 10 (ws 10 (by simp)) (by decide); exact h
      have f15 : a.eval (.tmp 62) = .bool true := by obtain ⟨_, _, _, h⟩ := F 15 (ws 15 (by simp)) (by decide); exact h
      refine o16.pick f10 f15 ?_
      exact hK _ _ (Later.refl w) rfl
    · have ws := o17.waits ho hwait
      have f16 : a.eval (.tmp 63) = .bool true := by obtain ⟨_, _, _, h⟩ := F 16 (ws 16 (by simp)) (by decide); exact h
      refine o17.move ?_
      rw [show a.eval (.tmp 63) = .bool true from f16]
      exact hK _ _ (Later.refl w) rfl
    · have ws := o18.waits ho hwait
      have f17 : a.eval (.tmp 64) = .bool true := by obtain ⟨_, _, _, h⟩ := F 17 (ws 17 (by simp)) (by decide); exact h
      refine o18.via f17 (by rw [so.size]; show (64 : Nat) < _; omega) ?_
      refine o18.un.move ?_
      rw [show a.eval (.tmp 3) = .slice (some ⟨bu, 0, none⟩) 1 cu from ((show _ = a1.eval _ from by simp only [Act.eval, Array.getD_eq_getD_getElem?, so.out 3 (by decide)]).trans e3)]
      exact hK _ _ (Later.refl w) rfl
    · have ws := o19.waits ho hwait
      have f17 : a.eval (.tmp 64) = .bool true := by obtain ⟨_, _, _, h⟩ := F 17 (ws 17 (by simp)) (by decide); exact h
      have f18 : a.eval (.tmp 65) = .slice (some ⟨bu, 0, none⟩) 1 cu := by obtain ⟨_, _, _, h⟩ := F 18 (ws 18 (by simp)) (by decide); exact h
      refine o19.via f17 (by rw [so.size]; show (64 : Nat) < _; omega) ?_
      refine o19.un.lenN f18 ?_
      exact hK _ _ (Later.refl w) rfl
    · have ws := o20.waits ho hwait
      have f17 : a.eval (.tmp 64) = .bool true := by obtain ⟨_, _, _, h⟩ := F 17 (ws 17 (by simp)) (by decide); exact h
      have f19 : a.eval (.tmp 66) = .int .i64 (1 : Nat) := by obtain ⟨_, _, _, h⟩ := F 19 (ws 19 (by simp)) (by decide); exact h
      refine o20.via f17 (by rw [so.size]; show (64 : Nat) < _; omega) ?_
      refine o20.un.eqlC f19 ?_
      exact hK _ _ (Later.refl w) rfl
    · have ws := o21.waits ho hwait
      have f17 : a.eval (.tmp 64) = .bool true := by obtain ⟨_, _, _, h⟩ := F 17 (ws 17 (by simp)) (by decide); exact h
      have f20 : a.eval (.tmp 67) = .bool true := by obtain ⟨_, _, _, h⟩ := F 20 (ws 20 (by simp)) (by decide); exact h
      refine o21.pick f17 f20 ?_
      exact hK _ _ (Later.refl w) rfl
    · have ws := o22.waits ho hwait
      have f21 : a.eval (.tmp 68) = .bool true := by obtain ⟨_, _, _, h⟩ := F 21 (ws 21 (by simp)) (by decide); exact h
      refine o22.move ?_
      rw [show a.eval (.tmp 68) = .bool true from f21]
      exact hK _ _ (Later.refl w) rfl
    · have ws := o23.waits ho hwait
      have f22 : a.eval (.tmp 69) = .bool true := by obtain ⟨_, _, _, h⟩ := F 22 (ws 22 (by simp)) (by decide); exact h
      refine o23.via f22 (by rw [so.size]; show (69 : Nat) < _; omega) ?_
      refine o23.un.move ?_
      rw [show a.eval (.tmp 3) = .slice (some ⟨bu, 0, none⟩) 1 cu from ((show _ = a1.eval _ from by simp only [Act.eval, Array.getD_eq_getD_getElem?, so.out 3 (by decide)]).trans e3)]
      exact hK _ _ (Later.refl w) rfl
    · have ws := o24.waits ho hwait
      have f22 : a.eval (.tmp 69) = .bool true := by obtain ⟨_, _, _, h⟩ := F 22 (ws 22 (by simp)) (by decide); exact h
      have f23 : a.eval (.tmp 70) = .slice (some ⟨bu, 0, none⟩) 1 cu := by obtain ⟨_, _, _, h⟩ := F 23 (ws 23 (by simp)) (by decide); exact h
      refine o24.via f22 (by rw [so.size]; show (69 : Nat) < _; omega) ?_
      refine o24.un.indexNC (m := 0) rfl f23 (by omega) ?_
      exact hK _ _ (Later.refl w) rfl
    · have ws := o25.waits ho hwait
      have f22 : a.eval (.tmp 69) = .bool true := by obtain ⟨_, _, _, h⟩ := F 22 (ws 22 (by simp)) (by decide); exact h
      have f24 : a.eval (.tmp 71) = .pointer (some ⟨bu, 0 + 0 * 4, none⟩) := by obtain ⟨_, _, _, h⟩ := F 24 (ws 24 (by simp)) (by decide); exact h
      refine o25.via f22 (by rw [so.size]; show (69 : Nat) < _; omega) ?_
      refine o25.un.fieldN (by omega) f24 ?_
      exact hK _ _ (Later.refl w) rfl
    · have ws := o26.waits ho hwait
      have f22 : a.eval (.tmp 69) = .bool true := by obtain ⟨_, _, _, h⟩ := F 22 (ws 22 (by simp)) (by decide); exact h
      have f25 : a.eval (.tmp 72) = .pointer (some ⟨bu, 0 + 0 * 4 + 0, none⟩) := by obtain ⟨_, _, _, h⟩ := F 25 (ws 25 (by simp)) (by decide); exact h
      refine o26.via f22 (by rw [so.size]; show (69 : Nat) < _; omega) ?_
      refine o26.un.loadI7 f25 (hl0.cell hu0) ?_
      exact hK _ _ (Later.refl w) rfl
    · have ws := o27.waits ho hwait
      have f22 : a.eval (.tmp 69) = .bool true := by obtain ⟨_, _, _, h⟩ := F 22 (ws 22 (by simp)) (by decide); exact h
      have f26 : a.eval (.tmp 73) = .int .i64 2 := by obtain ⟨_, _, _, h⟩ := F 26 (ws 26 (by simp)) (by decide); exact h
      refine o27.via f22 (by rw [so.size]; show (69 : Nat) < _; omega) ?_
      refine o27.un.eqlC f26 ?_
      exact hK _ _ (Later.refl w) rfl
    · have ws := o28.waits ho hwait
      have f22 : a.eval (.tmp 69) = .bool true := by obtain ⟨_, _, _, h⟩ := F 22 (ws 22 (by simp)) (by decide); exact h
      have f27 : a.eval (.tmp 74) = .bool true := by obtain ⟨_, _, _, h⟩ := F 27 (ws 27 (by simp)) (by decide); exact h
      refine o28.pick f22 f27 ?_
      exact hK _ _ (Later.refl w) rfl
    · have ws := o29.waits ho hwait
      have f28 : a.eval (.tmp 75) = .bool true := by obtain ⟨_, _, _, h⟩ := F 28 (ws 28 (by simp)) (by decide); exact h
      refine o29.move ?_
      rw [show a.eval (.tmp 75) = .bool true from f28]
      exact hK _ _ (Later.refl w) rfl
    · have ws := o30.waits ho hwait
      have f29 : a.eval (.tmp 76) = .bool true := by obtain ⟨_, _, _, h⟩ := F 29 (ws 29 (by simp)) (by decide); exact h
      refine o30.via f29 (by rw [so.size]; show (76 : Nat) < _; omega) ?_
      refine o30.un.move ?_
      rw [show a.eval (.tmp 6) = .bool true from ((show _ = a1.eval _ from by simp only [Act.eval, Array.getD_eq_getD_getElem?, so.out 6 (by decide)]).trans e6)]
      exact hK _ _ (Later.refl w) rfl
    · have ws := o31.waits ho hwait
      have f29 : a.eval (.tmp 76) = .bool true := by obtain ⟨_, _, _, h⟩ := F 29 (ws 29 (by simp)) (by decide); exact h
      have f30 : a.eval (.tmp 77) = .bool true := by obtain ⟨_, _, _, h⟩ := F 30 (ws 30 (by simp)) (by decide); exact h
      refine o31.pick f29 f30 ?_
      exact hK _ _ (Later.refl w) rfl
    · have ws := o32.waits ho hwait
      have f31 : a.eval (.tmp 78) = .bool true := by obtain ⟨_, _, _, h⟩ := F 31 (ws 31 (by simp)) (by decide); exact h
      refine o32.move ?_
      rw [show a.eval (.tmp 78) = .bool true from f31]
      exact hK _ _ (Later.refl w) rfl
    · have ws := o33.waits ho hwait
      have f32 : a.eval (.tmp 79) = .bool true := by obtain ⟨_, _, _, h⟩ := F 32 (ws 32 (by simp)) (by decide); exact h
      refine o33.via f32 (by rw [so.size]; show (79 : Nat) < _; omega) ?_
      refine o33.un.loadA Tryz.underlying30 Tryz.patchSize ((show _ = a1.eval _ from by simp only [Act.eval, Array.getD_eq_getD_getElem?, so.out 4 (by decide)]).trans e4) (hb8.later hl0) ?_
      exact hK _ _ (Later.refl w) rfl
    · have ws := o34.waits ho hwait
      have f32 : a.eval (.tmp 79) = .bool true := by obtain ⟨_, _, _, h⟩ := F 32 (ws 32 (by simp)) (by decide); exact h
      refine o34.via f32 (by rw [so.size]; show (79 : Nat) < _; omega) ?_
      refine o34.un.move ?_
      rw [show a.eval (.tmp 1) = .slice (some ⟨gl, 0, none⟩) 3 3 from ((show _ = a1.eval _ from by simp only [Act.eval, Array.getD_eq_getD_getElem?, so.out 1 (by decide)]).trans e1)]
      exact hK _ _ (Later.refl w) rfl
    · have ws := o35.waits ho hwait
      have f32 : a.eval (.tmp 79) = .bool true := by obtain ⟨_, _, _, h⟩ := F 32 (ws 32 (by simp)) (by decide); exact h
      have f34 : a.eval (.tmp 81) = .slice (some ⟨gl, 0, none⟩) 3 3 := by obtain ⟨_, _, _, h⟩ := F 34 (ws 34 (by simp)) (by decide); exact h
      refine o35.via f32 (by rw [so.size]; show (79 : Nat) < _; omega) ?_
      refine o35.un.indexNC (m := 1) rfl f34 (by omega) ?_
      exact hK _ _ (Later.refl w) rfl
    · have ws := o36.waits ho hwait
      have f32 : a.eval (.tmp 79) = .bool true := by obtain ⟨_, _, _, h⟩ := F 32 (ws 32 (by simp)) (by decide); exact h
      have f35 : a.eval (.tmp 82) = .pointer (some ⟨gl, 0 + 1 * 4, none⟩) := by obtain ⟨_, _, _, h⟩ := F 35 (ws 35 (by simp)) (by decide); exact h
      refine o36.via f32 (by rw [so.size]; show (79 : Nat) < _; omega) ?_
      refine o36.un.loadNs f35 (hrow.later hl0) hxb ?_
      exact hK _ _ (Later.refl w) rfl
    · have ws := o37.waits ho hwait
      have f32 : a.eval (.tmp 79) = .bool true := by obtain ⟨_, _, _, h⟩ := F 32 (ws 32 (by simp)) (by decide); exact h
      have f33 : a.eval (.tmp 80) = paV y := by obtain ⟨_, _, _, h⟩ := F 33 (ws 33 (by simp)) (by decide); exact h
      have f36 : a.eval (.tmp 83) = paV xb := by obtain ⟨_, _, _, h⟩ := F 36 (ws 36 (by simp)) (by decide); exact h
      refine o37.via f32 (by rw [so.size]; show (79 : Nat) < _; omega) ?_
      refine o37.un.call2 (enters_of Tryz.func25 (by kernel_rfl) rfl) f33 f36 (same7_any y xb w (oky.later hl0) (okb.later hl0)) ?_
      rintro e w' ⟨rfl, hl'⟩
      exact ⟨_, rfl, hK _ _ hl' (by show Value.bool _ = _; rw [hs1])⟩
    · have ws := o38.waits ho hwait
      have f32 : a.eval (.tmp 79) = .bool true := by obtain ⟨_, _, _, h⟩ := F 32 (ws 32 (by simp)) (by decide); exact h
      have f37 : a.eval (.tmp 84) = .bool true := by obtain ⟨_, _, _, h⟩ := F 37 (ws 37 (by simp)) (by decide); exact h
      refine o38.pick f32 f37 ?_
      exact hK _ _ (Later.refl w) rfl
    · have ws := o39.waits ho hwait
      have f38 : a.eval (.tmp 85) = .bool true := by obtain ⟨_, _, _, h⟩ := F 38 (ws 38 (by simp)) (by decide); exact h
      refine o39.move ?_
      rw [show a.eval (.tmp 85) = .bool true from f38]
      exact hK _ _ (Later.refl w) rfl
    · have ws := o40.waits ho hwait
      have f39 : a.eval (.tmp 86) = .bool true := by obtain ⟨_, _, _, h⟩ := F 39 (ws 39 (by simp)) (by decide); exact h
      refine o40.via f39 (by rw [so.size]; show (86 : Nat) < _; omega) ?_
      refine o40.un.loadA Tryz.underlying30 Tryz.patchSize ((show _ = a1.eval _ from by simp only [Act.eval, Array.getD_eq_getD_getElem?, so.out 5 (by decide)]).trans e5) (hb9.later hl0) ?_
      exact hK _ _ (Later.refl w) rfl
    · have ws := o41.waits ho hwait
      have f39 : a.eval (.tmp 86) = .bool true := by obtain ⟨_, _, _, h⟩ := F 39 (ws 39 (by simp)) (by decide); exact h
      refine o41.via f39 (by rw [so.size]; show (86 : Nat) < _; omega) ?_
      refine o41.un.move ?_
      rw [show a.eval (.tmp 1) = .slice (some ⟨gl, 0, none⟩) 3 3 from ((show _ = a1.eval _ from by simp only [Act.eval, Array.getD_eq_getD_getElem?, so.out 1 (by decide)]).trans e1)]
      exact hK _ _ (Later.refl w) rfl
    · have ws := o42.waits ho hwait
      have f39 : a.eval (.tmp 86) = .bool true := by obtain ⟨_, _, _, h⟩ := F 39 (ws 39 (by simp)) (by decide); exact h
      have f41 : a.eval (.tmp 88) = .slice (some ⟨gl, 0, none⟩) 3 3 := by obtain ⟨_, _, _, h⟩ := F 41 (ws 41 (by simp)) (by decide); exact h
      refine o42.via f39 (by rw [so.size]; show (86 : Nat) < _; omega) ?_
      refine o42.un.indexNC (m := 0) rfl f41 (by omega) ?_
      exact hK _ _ (Later.refl w) rfl
    · have ws := o43.waits ho hwait
      have f39 : a.eval (.tmp 86) = .bool true := by obtain ⟨_, _, _, h⟩ := F 39 (ws 39 (by simp)) (by decide); exact h
      have f42 : a.eval (.tmp 89) = .pointer (some ⟨gl, 0 + 0 * 4, none⟩) := by obtain ⟨_, _, _, h⟩ := F 42 (ws 42 (by simp)) (by decide); exact h
      refine o43.via f39 (by rw [so.size]; show (86 : Nat) < _; omega) ?_
      refine o43.un.loadNs f42 (hrow.later hl0) hxa ?_
      exact hK _ _ (Later.refl w) rfl
    · have ws := o44.waits ho hwait
      have f39 : a.eval (.tmp 86) = .bool true := by obtain ⟨_, _, _, h⟩ := F 39 (ws 39 (by simp)) (by decide); exact h
      have f43 : a.eval (.tmp 90) = paV xa := by obtain ⟨_, _, _, h⟩ := F 43 (ws 43 (by simp)) (by decide); exact h
      refine o44.via f39 (by rw [so.size]; show (86 : Nat) < _; omega) ?_
      refine o44.un.call1 (enters_of Tryz.func23 (by kernel_rfl) rfl) f43 (clone7_any xa w (oka.later hl0)) ?_
      rintro e w' ⟨y2, rfl, ev', ok', -, hl'⟩
      exact ⟨_, rfl, hK _ _ hl' ⟨y2, rfl, ok', ev'⟩⟩
    · have ws := o45.waits ho hwait
      have f39 : a.eval (.tmp 86) = .bool true := by obtain ⟨_, _, _, h⟩ := F 39 (ws 39 (by simp)) (by decide); exact h
      have f40 : a.eval (.tmp 87) = paV z := by obtain ⟨_, _, _, h⟩ := F 40 (ws 40 (by simp)) (by decide); exact h
      obtain ⟨x44, y44, z44, f44⟩ := F 44 (ws 44 (by simp)) (by decide)
      refine o45.via f39 (by rw [so.size]; show (86 : Nat) < _; omega) ?_
      obtain ⟨y2, fe, ok2, ev2⟩ := f44
      refine o45.un.call2 (enters_of Tryz.func25 (by kernel_rfl) rfl) f40 fe (same7_any z y2 w (okz.later hl0) (ok2.later z44)) ?_
      rintro e w' ⟨rfl, hl'⟩
      exact ⟨_, rfl, hK _ _ hl' (by show Value.bool _ = _; rw [ev2, hs2])⟩
    · have ws := o46.waits ho hwait
      have f39 : a.eval (.tmp 86) = .bool true := by obtain ⟨_, _, _, h⟩ := F 39 (ws 39 (by simp)) (by decide); exact h
      have f45 : a.eval (.tmp 92) = .bool true := by obtain ⟨_, _, _, h⟩ := F 45 (ws 45 (by simp)) (by decide); exact h
      refine o46.pick f39 f45 ?_
      exact hK _ _ (Later.refl w) rfl
    · have ws := o47.waits ho hwait
      have f46 : a.eval (.tmp 93) = .bool true := by obtain ⟨_, _, _, h⟩ := F 46 (ws 46 (by simp)) (by decide); exact h
      refine o47.move ?_
      rw [show a.eval (.tmp 93) = .bool true from f46]
      exact hK _ _ (Later.refl w) rfl
    · have ws := o48.waits ho hwait
      have f47 : a.eval (.tmp 94) = .bool true := by obtain ⟨_, _, _, h⟩ := F 47 (ws 47 (by simp)) (by decide); exact h
      refine o48.via f47 (by rw [so.size]; show (94 : Nat) < _; omega) ?_
      refine o48.un.move ?_
      rw [show a.eval (.tmp 9) = .bool true from ((show _ = a1.eval _ from by simp only [Act.eval, Array.getD_eq_getD_getElem?, so.out 9 (by decide)]).trans e9)]
      exact hK _ _ (Later.refl w) rfl
    · have ws := o49.waits ho hwait
      have f47 : a.eval (.tmp 94) = .bool true := by obtain ⟨_, _, _, h⟩ := F 47 (ws 47 (by simp)) (by decide); exact h
      have f48 : a.eval (.tmp 95) = .bool true := by obtain ⟨_, _, _, h⟩ := F 48 (ws 48 (by simp)) (by decide); exact h
      refine o49.pick f47 f48 ?_
      exact hK _ _ (Later.refl w) rfl
    · have ws := o50.waits ho hwait
      have f49 : a.eval (.tmp 96) = .bool true := by obtain ⟨_, _, _, h⟩ := F 49 (ws 49 (by simp)) (by decide); exact h
      refine o50.move ?_
      rw [show a.eval (.tmp 96) = .bool true from f49]
      exact hK _ _ (Later.refl w) rfl
    · have ws := o51.waits ho hwait
      have f50 : a.eval (.tmp 97) = .bool true := by obtain ⟨_, _, _, h⟩ := F 50 (ws 50 (by simp)) (by decide); exact h
      refine o51.via f50 (by rw [so.size]; show (97 : Nat) < _; omega) ?_
      refine o51.un.fieldN (by omega) ((show _ = a1.eval _ from by simp only [Act.eval, Array.getD_eq_getD_getElem?, so.out 7 (by decide)]).trans e7) ?_
      exact hK _ _ (Later.refl w) rfl
    · have ws := o52.waits ho hwait
      have f50 : a.eval (.tmp 97) = .bool true := by obtain ⟨_, _, _, h⟩ := F 50 (ws 50 (by simp)) (by decide); exact h
      have f51 : a.eval (.tmp 98) = .pointer (some ⟨g7, 0 + 0, none⟩) := by obtain ⟨_, _, _, h⟩ := F 51 (ws 51 (by simp)) (by decide); exact h
      refine o52.via f50 (by rw [so.size]; show (97 : Nat) < _; omega) ?_
      refine o52.un.loadI7 f51 (hl0.cell h7) ?_
      exact hK _ _ (Later.refl w) rfl
    · have ws := o53.waits ho hwait
      have f50 : a.eval (.tmp 97) = .bool true := by obtain ⟨_, _, _, h⟩ := F 50 (ws 50 (by simp)) (by decide); exact h
      have f52 : a.eval (.tmp 99) = .int .i64 9 := by obtain ⟨_, _, _, h⟩ := F 52 (ws 52 (by simp)) (by decide); exact h
      refine o53.via f50 (by rw [so.size]; show (97 : Nat) < _; omega) ?_
      refine o53.un.eqlC f52 ?_
      exact hK _ _ (Later.refl w) rfl
    · have ws := o54.waits ho hwait
      have f50 : a.eval (.tmp 97) = .bool true := by obtain ⟨_, _, _, h⟩ := F 50 (ws 50 (by simp)) (by decide); exact h
      have f53 : a.eval (.tmp 100) = .bool true := by obtain ⟨_, _, _, h⟩ := F 53 (ws 53 (by simp)) (by decide); exact h
      refine o54.pick f50 f53 ?_
      exact hK _ _ (Later.refl w) rfl
    · have ws := o55.waits ho hwait
      have f54 : a.eval (.tmp 101) = .bool true := by obtain ⟨_, _, _, h⟩ := F 54 (ws 54 (by simp)) (by decide); exact h
      refine o55.move ?_
      rw [show a.eval (.tmp 101) = .bool true from f54]
      exact hK _ _ (Later.refl w) rfl
    · have ws := o56.waits ho hwait
      have f55 : a.eval (.tmp 102) = .bool true := by obtain ⟨_, _, _, h⟩ := F 55 (ws 55 (by simp)) (by decide); exact h
      refine o56.via f55 (by rw [so.size]; show (102 : Nat) < _; omega) ?_
      refine o56.un.move ?_
      rw [show a.eval (.tmp 8) = .slice (some ⟨b7, 0, none⟩) 2 c7 from ((show _ = a1.eval _ from by simp only [Act.eval, Array.getD_eq_getD_getElem?, so.out 8 (by decide)]).trans e8)]
      exact hK _ _ (Later.refl w) rfl
    · have ws := o57.waits ho hwait
      have f55 : a.eval (.tmp 102) = .bool true := by obtain ⟨_, _, _, h⟩ := F 55 (ws 55 (by simp)) (by decide); exact h
      have f56 : a.eval (.tmp 103) = .slice (some ⟨b7, 0, none⟩) 2 c7 := by obtain ⟨_, _, _, h⟩ := F 56 (ws 56 (by simp)) (by decide); exact h
      refine o57.via f55 (by rw [so.size]; show (102 : Nat) < _; omega) ?_
      refine o57.un.lenN f56 ?_
      exact hK _ _ (Later.refl w) rfl
    · have ws := o58.waits ho hwait
      have f55 : a.eval (.tmp 102) = .bool true := by obtain ⟨_, _, _, h⟩ := F 55 (ws 55 (by simp)) (by decide); exact h
      have f57 : a.eval (.tmp 104) = .int .i64 (2 : Nat) := by obtain ⟨_, _, _, h⟩ := F 57 (ws 57 (by simp)) (by decide); exact h
      refine o58.via f55 (by rw [so.size]; show (102 : Nat) < _; omega) ?_
      refine o58.un.eqlC f57 ?_
      exact hK _ _ (Later.refl w) rfl
    · have ws := o59.waits ho hwait
      have f55 : a.eval (.tmp 102) = .bool true := by obtain ⟨_, _, _, h⟩ := F 55 (ws 55 (by simp)) (by decide); exact h
      have f58 : a.eval (.tmp 105) = .bool true := by obtain ⟨_, _, _, h⟩ := F 58 (ws 58 (by simp)) (by decide); exact h
      refine o59.pick f55 f58 ?_
      exact hK _ _ (Later.refl w) rfl
    · have ws := o60.waits ho hwait
      have f59 : a.eval (.tmp 106) = .bool true := by obtain ⟨_, _, _, h⟩ := F 59 (ws 59 (by simp)) (by decide); exact h
      refine o60.move ?_
      rw [show a.eval (.tmp 106) = .bool true from f59]
      exact hK _ _ (Later.refl w) rfl
    · have ws := o61.waits ho hwait
      have f60 : a.eval (.tmp 107) = .bool true := by obtain ⟨_, _, _, h⟩ := F 60 (ws 60 (by simp)) (by decide); exact h
      refine o61.via f60 (by rw [so.size]; show (107 : Nat) < _; omega) ?_
      refine o61.un.move ?_
      rw [show a.eval (.tmp 1) = .slice (some ⟨gl, 0, none⟩) 3 3 from ((show _ = a1.eval _ from by simp only [Act.eval, Array.getD_eq_getD_getElem?, so.out 1 (by decide)]).trans e1)]
      exact hK _ _ (Later.refl w) rfl
    · have ws := o62.waits ho hwait
      have f60 : a.eval (.tmp 107) = .bool true := by obtain ⟨_, _, _, h⟩ := F 60 (ws 60 (by simp)) (by decide); exact h
      have f61 : a.eval (.tmp 108) = .slice (some ⟨gl, 0, none⟩) 3 3 := by obtain ⟨_, _, _, h⟩ := F 61 (ws 61 (by simp)) (by decide); exact h
      refine o62.via f60 (by rw [so.size]; show (107 : Nat) < _; omega) ?_
      refine o62.un.indexNC (m := 0) rfl f61 (by omega) ?_
      exact hK _ _ (Later.refl w) rfl
    · have ws := o63.waits ho hwait
      have f60 : a.eval (.tmp 107) = .bool true := by obtain ⟨_, _, _, h⟩ := F 60 (ws 60 (by simp)) (by decide); exact h
      have f62 : a.eval (.tmp 109) = .pointer (some ⟨gl, 0 + 0 * 4, none⟩) := by obtain ⟨_, _, _, h⟩ := F 62 (ws 62 (by simp)) (by decide); exact h
      refine o63.via f60 (by rw [so.size]; show (107 : Nat) < _; omega) ?_
      refine o63.un.loadNs f62 (hrow.later hl0) hxa ?_
      exact hK _ _ (Later.refl w) rfl
    · have ws := o64.waits ho hwait
      have f60 : a.eval (.tmp 107) = .bool true := by obtain ⟨_, _, _, h⟩ := F 60 (ws 60 (by simp)) (by decide); exact h
      refine o64.via f60 (by rw [so.size]; show (107 : Nat) < _; omega) ?_
      refine o64.un.move ?_
      rw [show a.eval (.tmp 1) = .slice (some ⟨gl, 0, none⟩) 3 3 from ((show _ = a1.eval _ from by simp only [Act.eval, Array.getD_eq_getD_getElem?, so.out 1 (by decide)]).trans e1)]
      exact hK _ _ (Later.refl w) rfl
    · have ws := o65.waits ho hwait
      have f60 : a.eval (.tmp 107) = .bool true := by obtain ⟨_, _, _, h⟩ := F 60 (ws 60 (by simp)) (by decide); exact h
      have f64 : a.eval (.tmp 111) = .slice (some ⟨gl, 0, none⟩) 3 3 := by obtain ⟨_, _, _, h⟩ := F 64 (ws 64 (by simp)) (by decide); exact h
      refine o65.via f60 (by rw [so.size]; show (107 : Nat) < _; omega) ?_
      refine o65.un.indexNC (m := 2) rfl f64 (by omega) ?_
      exact hK _ _ (Later.refl w) rfl
    · have ws := o66.waits ho hwait
      have f60 : a.eval (.tmp 107) = .bool true := by obtain ⟨_, _, _, h⟩ := F 60 (ws 60 (by simp)) (by decide); exact h
      have f65 : a.eval (.tmp 112) = .pointer (some ⟨gl, 0 + 2 * 4, none⟩) := by obtain ⟨_, _, _, h⟩ := F 65 (ws 65 (by simp)) (by decide); exact h
      refine o66.via f60 (by rw [so.size]; show (107 : Nat) < _; omega) ?_
      refine o66.un.loadNs f65 (hrow.later hl0) hxc ?_
      exact hK _ _ (Later.refl w) rfl
    · have ws := o67.waits ho hwait
      have f60 : a.eval (.tmp 107) = .bool true := by obtain ⟨_, _, _, h⟩ := F 60 (ws 60 (by simp)) (by decide); exact h
      have f63 : a.eval (.tmp 110) = paV xa := by obtain ⟨_, _, _, h⟩ := F 63 (ws 63 (by simp)) (by decide); exact h
      have f66 : a.eval (.tmp 113) = paV xc := by obtain ⟨_, _, _, h⟩ := F 66 (ws 66 (by simp)) (by decide); exact h
      refine o67.via f60 (by rw [so.size]; show (107 : Nat) < _; omega) ?_
      refine o67.un.call2 (enters_of Tryz.func14 (by kernel_rfl) rfl) f63 f66 (needs7_any xa xc w (oka.later hl0) (okc.later hl0)) ?_
      rintro e w' ⟨rfl, hl'⟩
      exact ⟨_, rfl, hK _ _ hl' (by show Value.bool _ = _; rw [hs3])⟩
    · have ws := o68.waits ho hwait
      have f60 : a.eval (.tmp 107) = .bool true := by obtain ⟨_, _, _, h⟩ := F 60 (ws 60 (by simp)) (by decide); exact h
      have f67 : a.eval (.tmp 114) = .bool true := by obtain ⟨_, _, _, h⟩ := F 67 (ws 67 (by simp)) (by decide); exact h
      refine o68.pick f60 f67 ?_
      exact hK _ _ (Later.refl w) rfl
    · have ws := o69.waits ho hwait
      have f68 : a.eval (.tmp 115) = .bool true := by obtain ⟨_, _, _, h⟩ := F 68 (ws 68 (by simp)) (by decide); exact h
      refine o69.move ?_
      rw [show a.eval (.tmp 115) = .bool true from f68]
      exact hK _ _ (Later.refl w) rfl
    · have ws := o70.waits ho hwait
      have f69 : a.eval (.tmp 116) = .bool true := by obtain ⟨_, _, _, h⟩ := F 69 (ws 69 (by simp)) (by decide); exact h
      refine o70.via f69 (by rw [so.size]; show (116 : Nat) < _; omega) ?_
      refine o70.un.move ?_
      rw [show a.eval (.tmp 1) = .slice (some ⟨gl, 0, none⟩) 3 3 from ((show _ = a1.eval _ from by simp only [Act.eval, Array.getD_eq_getD_getElem?, so.out 1 (by decide)]).trans e1)]
      exact hK _ _ (Later.refl w) rfl
    · have ws := o71.waits ho hwait
      have f69 : a.eval (.tmp 116) = .bool true := by obtain ⟨_, _, _, h⟩ := F 69 (ws 69 (by simp)) (by decide); exact h
      have f70 : a.eval (.tmp 117) = .slice (some ⟨gl, 0, none⟩) 3 3 := by obtain ⟨_, _, _, h⟩ := F 70 (ws 70 (by simp)) (by decide); exact h
      refine o71.via f69 (by rw [so.size]; show (116 : Nat) < _; omega) ?_
      refine o71.un.indexNC (m := 0) rfl f70 (by omega) ?_
      exact hK _ _ (Later.refl w) rfl
    · have ws := o72.waits ho hwait
      have f69 : a.eval (.tmp 116) = .bool true := by obtain ⟨_, _, _, h⟩ := F 69 (ws 69 (by simp)) (by decide); exact h
      have f71 : a.eval (.tmp 118) = .pointer (some ⟨gl, 0 + 0 * 4, none⟩) := by obtain ⟨_, _, _, h⟩ := F 71 (ws 71 (by simp)) (by decide); exact h
      refine o72.via f69 (by rw [so.size]; show (116 : Nat) < _; omega) ?_
      refine o72.un.loadNs f71 (hrow.later hl0) hxa ?_
      exact hK _ _ (Later.refl w) rfl
    · have ws := o73.waits ho hwait
      have f69 : a.eval (.tmp 116) = .bool true := by obtain ⟨_, _, _, h⟩ := F 69 (ws 69 (by simp)) (by decide); exact h
      have f72 : a.eval (.tmp 119) = paV xa := by obtain ⟨_, _, _, h⟩ := F 72 (ws 72 (by simp)) (by decide); exact h
      refine o73.via f69 (by rw [so.size]; show (116 : Nat) < _; omega) ?_
      refine o73.un.call1 (enters_of Tryz.func26 (by kernel_rfl) rfl) f72 (right7_any xa w (oka.later hl0)) ?_
      rintro e w' ⟨rfl, hl'⟩
      exact ⟨_, rfl, hK _ _ hl' (by show Value.bool _ = _; rw [hs4])⟩
    · have ws := o74.waits ho hwait
      have f69 : a.eval (.tmp 116) = .bool true := by obtain ⟨_, _, _, h⟩ := F 69 (ws 69 (by simp)) (by decide); exact h
      have f73 : a.eval (.tmp 120) = .bool true := by obtain ⟨_, _, _, h⟩ := F 73 (ws 73 (by simp)) (by decide); exact h
      refine o74.pick f69 f73 ?_
      exact hK _ _ (Later.refl w) rfl
    · have ws := o75.waits ho hwait
      have f74 : a.eval (.tmp 121) = .bool true := by obtain ⟨_, _, _, h⟩ := F 74 (ws 74 (by simp)) (by decide); exact h
      refine o75.move ?_
      rw [show a.eval (.tmp 121) = .bool true from f74]
      exact hK _ _ (Later.refl w) rfl
    · have ws := o76.waits ho hwait
      have f75 : a.eval (.tmp 122) = .bool true := by obtain ⟨_, _, _, h⟩ := F 75 (ws 75 (by simp)) (by decide); exact h
      refine o76.via f75 (by rw [so.size]; show (122 : Nat) < _; omega) ?_
      refine o76.un.buildZ ?_
      exact hK _ _ (Later.refl w) rfl
    · have ws := o77.waits ho hwait
      have f75 : a.eval (.tmp 122) = .bool true := by obtain ⟨_, _, _, h⟩ := F 75 (ws 75 (by simp)) (by decide); exact h
      have f76 : a.eval (.tmp 123) = paV zeroN := by obtain ⟨_, _, _, h⟩ := F 76 (ws 76 (by simp)) (by decide); exact h
      refine o77.via f75 (by rw [so.size]; show (122 : Nat) < _; omega) ?_
      refine o77.un.call1 (enters_of Tryz.func26 (by kernel_rfl) rfl) f76 (right7_any zeroN w (zeroN_ok w)) ?_
      rintro e w' ⟨rfl, hl'⟩
      exact ⟨_, rfl, hK _ _ hl' (by show Value.bool _ = _; rw [hs5])⟩
    · have ws := o78.waits ho hwait
      have f75 : a.eval (.tmp 122) = .bool true := by obtain ⟨_, _, _, h⟩ := F 75 (ws 75 (by simp)) (by decide); exact h
      have f77 : a.eval (.tmp 124) = .bool false := by obtain ⟨_, _, _, h⟩ := F 77 (ws 77 (by simp)) (by decide); exact h
      refine o78.via f75 (by rw [so.size]; show (122 : Nat) < _; omega) ?_
      refine o78.un.notB f77 ?_
      exact hK _ _ (Later.refl w) rfl
    · have ws := o79.waits ho hwait
      have f75 : a.eval (.tmp 122) = .bool true := by obtain ⟨_, _, _, h⟩ := F 75 (ws 75 (by simp)) (by decide); exact h
      have f78 : a.eval (.tmp 125) = .bool true := by obtain ⟨_, _, _, h⟩ := F 78 (ws 78 (by simp)) (by decide); exact h
      refine o79.pick f75 f78 ?_
      exact hK _ _ (Later.refl w) rfl
    · have ws := o80.waits ho hwait
      have f79 : a.eval (.tmp 126) = .bool true := by obtain ⟨_, _, _, h⟩ := F 79 (ws 79 (by simp)) (by decide); exact h
      refine o80.assign ?_
      rw [show a.eval (.tmp 126) = .bool true from f79]
      exact hK _ _ (Later.refl w) rfl
  · intro a w so hl F
    exact hend a w so hl (by obtain ⟨_, _, _, h⟩ := F 80 rfl (by decide); exact h)

end Go.Proofs.YtlnjhimbgckdcaaGreat
