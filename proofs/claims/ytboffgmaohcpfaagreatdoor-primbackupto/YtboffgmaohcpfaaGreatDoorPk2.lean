import Derived.Shelf.Strings.Builder1
import Derived.Test.YtboffgmaohcpfaaGreatDoorChecked
import Derived.Shelf.Strings.BuilderK
import Derived.Shelf.LaysM
import Derived.Shelf.Strconv.Itoa3
import Derived.Ground.GgzProg
import Derived.Ground.SlgmProg
import Derived.Shelf.SlIter.Nil
import Derived.Shelf.SortM.Plain
import Derived.Shelf.SortM.SortNone
import Derived.Test.YtboffgmaohcpfaaGreatDoorProg
import Derived.Test.YtboffgmaohcpfaaGreatDoorPk1
import Derived.Lib.IndexLaws
import Derived.Lib.Strings
import Derived.Lib.Bytealg

/-
  What calls of the library come to, laid at this program: A builder: written into, and told as a text.
-/
namespace Go.Proofs
open Go.Shelf
def Tryz.lays169_ren : Go.Shelf.Ren := ⟨fun | 169 => 38 | n => n, fun | 70 => 76 | 9 => 9 | 0 => 0 | 72 => 79 | 37 => 77 | 127 => 94 | 3 => 3 | 5 => 5 | n => n, fun | n => n⟩
theorem Tryz.lays169 : Go.Proofs.Lays.n169 Tryz.prog Tryz.lays169_ren := {
  mixed := by kernel_rfl
  f169 := Tryz.func38.trans (congrArg some (by kernel_rfl))
  t0 := Tryz.underlying0
  a0 := Tryz.isAgg0
  z0 := Tryz.sizeOf0
  v0 := Tryz.zeroValue0
  t3 := Tryz.underlying3
  a3 := Tryz.isAgg3
  z3 := Tryz.sizeOf3
  v3 := Tryz.zeroValue3
  t9 := Tryz.underlying9
  a9 := Tryz.isAgg9
  z9 := Tryz.sizeOf9
  v9 := Tryz.zeroValue9
  t37 := Tryz.underlying77
  a37 := Tryz.isAgg77
  z37 := Tryz.sizeOf77
  v37 := Tryz.zeroValue77
  t70 := Tryz.underlying76
  a70 := Tryz.isAgg76
  z70 := Tryz.sizeOf76
  v70 := Tryz.zeroValue76
  t72 := Tryz.underlying79
  a72 := Tryz.isAgg79
  z72 := Tryz.sizeOf79
  v72 := Tryz.zeroValue79
  t127 := Tryz.underlying94
  a127 := Tryz.isAgg94
  z127 := Tryz.sizeOf94
  v127 := Tryz.zeroValue94 }
theorem Tryz.Builder_Extra_169 : Builder.Extra Tryz.prog Tryz.lays169_ren := {
  sizeBuilder := by kernel_rfl
  liesBuilder := by kernel_rfl
  t5 := Tryz.underlying5
  a5 := Tryz.isAgg5
  z5 := Tryz.sizeOf5
  v5 := Tryz.zeroValue5
  infoByte := by kernel_rfl
  cellsByte := by kernel_rfl
  sizeByte := by kernel_rfl
  neB5 := by decide }
open Go.RowKit in
theorem Tryz.Builder_String_any (B b : Nat) (l : List UInt8) (w : World) (h : Lib.IsBuilder 79 5 B b (Lib.byteCells l) w) (hBw : B ≤ w.heap.size) :
    Calls Tryz.prog 38 #[.pointer (some ⟨b, 0, none⟩)] w fun e w' => e = .returned (.string ⟨l.toArray⟩) ∧ Below B w w' := Any.Builder_String_any Tryz.lays169 Tryz.Builder_Extra_169 B b l w h hBw
def Tryz.lays166_ren : Go.Shelf.Ren := ⟨fun | 166 => 35 | 240 => 57 | 276 => 68 | n => n, fun | 0 => 0 | 3 => 3 | 4 => 4 | 5 => 5 | 9 => 9 | 20 => 20 | 37 => 77 | 70 => 76 | 72 => 79 | 75 => 81 | 80 => 49 | 164 => 100 | n => n, fun | n => n⟩
theorem Tryz.lays166 : Go.Proofs.Lays.n166 Tryz.prog Tryz.lays166_ren := {
  mixed := by kernel_rfl
  f166 := Tryz.func35.trans (congrArg some (by kernel_rfl))
  f240 := Tryz.func57.trans (congrArg some (by kernel_rfl))
  f276 := Tryz.func68.trans (congrArg some (by kernel_rfl))
  t0 := Tryz.underlying0
  a0 := Tryz.isAgg0
  z0 := Tryz.sizeOf0
  v0 := Tryz.zeroValue0
  t3 := Tryz.underlying3
  a3 := Tryz.isAgg3
  z3 := Tryz.sizeOf3
  v3 := Tryz.zeroValue3
  t4 := Tryz.underlying4
  a4 := Tryz.isAgg4
  z4 := Tryz.sizeOf4
  v4 := Tryz.zeroValue4
  t9 := Tryz.underlying9
  a9 := Tryz.isAgg9
  z9 := Tryz.sizeOf9
  v9 := Tryz.zeroValue9
  t20 := Tryz.underlying20
  a20 := Tryz.isAgg20
  z20 := Tryz.sizeOf20
  v20 := Tryz.zeroValue20
  t37 := Tryz.underlying77
  a37 := Tryz.isAgg77
  z37 := Tryz.sizeOf77
  v37 := Tryz.zeroValue77
  t70 := Tryz.underlying76
  a70 := Tryz.isAgg76
  z70 := Tryz.sizeOf76
  v70 := Tryz.zeroValue76
  t72 := Tryz.underlying79
  a72 := Tryz.isAgg79
  z72 := Tryz.sizeOf79
  v72 := Tryz.zeroValue79
  t75 := Tryz.underlying81
  a75 := Tryz.isAgg81
  z75 := Tryz.sizeOf81
  v75 := Tryz.zeroValue81
  t164 := Tryz.underlying100
  a164 := Tryz.isAgg100
  z164 := Tryz.sizeOf100
  v164 := Tryz.zeroValue100 }
theorem Tryz.Builder_Extra_166 : Builder.Extra Tryz.prog Tryz.lays166_ren := {
  sizeBuilder := by kernel_rfl
  liesBuilder := by kernel_rfl
  t5 := Tryz.underlying5
  a5 := Tryz.isAgg5
  z5 := Tryz.sizeOf5
  v5 := Tryz.zeroValue5
  infoByte := by kernel_rfl
  cellsByte := by kernel_rfl
  sizeByte := by kernel_rfl
  neB5 := by decide }
open Go.RowKit in
theorem Tryz.Builder_WriteString (B b : Nat) (bs : List Value) (s : ByteArray) (w : World) (h : Lib.IsBuilder 79 5 B b bs w) (hlen : bs.length + s.size ≤ 140737488355328) (hBw : B ≤ w.heap.size) :
    Calls Tryz.prog 35 #[.pointer (some ⟨b, 0, none⟩), .string s] w fun e w' => e = .returned (.tuple #[.int .i64 s.size, .nilIface]) ∧ (Lib.BuilderAt 79 5 B b (.pointer (some ⟨b, 0, none⟩)) (bs ++ Lib.strCells s) w' ∧ Below B w w') := Any.Builder_WriteString Tryz.lays166 Tryz.Builder_Extra_166 B b bs s w h hlen hBw
end Go.Proofs

/-
  What calls of the library come to, laid at this program: a builder, beside which other rows are kept.
-/
namespace Go.Proofs
open Go.Shelf Go.RowKit
theorem Tryz.Builder_WriteString_k (B b : Nat) (bs : List Value) (s : ByteArray) (w : World) (h : Lib.IsBuilderF 79 5 B b bs w) (hlen : bs.length + s.size ≤ 140737488355328) (hBw : B ≤ w.heap.size) :
    Calls Tryz.prog 35 #[.pointer (some ⟨b, 0, none⟩), .string s] w fun e w' => e = .returned (.tuple #[.int .i64 s.size, .nilIface]) ∧ (Lib.BuilderAtF 79 5 B b (.pointer (some ⟨b, 0, none⟩)) (bs ++ Lib.strCells s) w' ∧ Below B w w' ∧ Lib.OthersKept 5 (some b) w w') := Any.Builder_WriteString_k Tryz.lays166 Tryz.Builder_Extra_166 B b bs s w h hlen hBw
theorem Tryz.Builder_String_any_k (B b : Nat) (l : List UInt8) (w : World) (h : Lib.IsBuilderF 79 5 B b (Lib.byteCells l) w) (hBw : B ≤ w.heap.size) :
    Calls Tryz.prog 38 #[.pointer (some ⟨b, 0, none⟩)] w fun e w' => e = .returned (.string ⟨l.toArray⟩) ∧ (Lib.IsBuilderF 79 5 B b (Lib.byteCells l) w' ∧ Below B w w' ∧ Lib.OthersKept 5 (some b) w w') := Any.Builder_String_any_k Tryz.lays169 Tryz.Builder_Extra_169 B b l w h hBw
end Go.Proofs

/-
  What calls of the library come to, laid at this program: a number in decimal digits; the names of a map, sorted.
-/
namespace Go.Proofs
open Go.Shelf
def Tryz.laysItoa_ren : Go.Shelf.Ren := ⟨fun | 171 => 36 | 243 => 58 | 246 => 69 | 283 => 85 | 284 => 86 | 285 => 87 | 286 => 88 | 129 => 80 | 317 => 96 | 318 => 97 | 319 => 98 | 320 => 99 | 337 => 105 | 338 => 106 | n => n, fun | 3 => 3 | 9 => 9 | 2 => 2 | 4 => 4 | 171 => 119 | 0 => 0 | 53 => 114 | 37 => 77 | 5 => 5 | 173 => 121 | 212 => 131 | 51 => 112 | 20 => 20 | 213 => 132 | 46 => 97 | 232 => 140 | 233 => 141 | n => n, fun | 17 => 0 | 18 => 2 | 19 => 3 | n => n⟩
theorem Tryz.laysItoa : Go.Proofs.LaysM.n171 Tryz.prog Tryz.laysItoa_ren := {
  mixed := by kernel_rfl
  f129 := Tryz.func80.trans (congrArg some (by kernel_rfl))
  f171 := Tryz.func36.trans (congrArg some (by kernel_rfl))
  f243 := Tryz.func58.trans (congrArg some (by kernel_rfl))
  f246 := Tryz.func69.trans (congrArg some (by kernel_rfl))
  f283 := Tryz.func85.trans (congrArg some (by kernel_rfl))
  f284 := Tryz.func86.trans (congrArg some (by kernel_rfl))
  f285 := Tryz.func87.trans (congrArg some (by kernel_rfl))
  f286 := Tryz.func88.trans (congrArg some (by kernel_rfl))
  f317 := Tryz.func96.trans (congrArg some (by kernel_rfl))
  f318 := Tryz.func97.trans (congrArg some (by kernel_rfl))
  f319 := Tryz.func98.trans (congrArg some (by kernel_rfl))
  f320 := Tryz.func99.trans (congrArg some (by kernel_rfl))
  f337 := Tryz.func105.trans (congrArg some (by kernel_rfl))
  f338 := Tryz.func106.trans (congrArg some (by kernel_rfl))
  t0 := Tryz.underlying0
  a0 := Tryz.isAgg0
  z0 := Tryz.sizeOf0
  v0 := Tryz.zeroValue0
  t2 := Tryz.underlying2
  a2 := Tryz.isAgg2
  z2 := Tryz.sizeOf2
  v2 := Tryz.zeroValue2
  t3 := Tryz.underlying3
  a3 := Tryz.isAgg3
  z3 := Tryz.sizeOf3
  v3 := Tryz.zeroValue3
  t4 := Tryz.underlying4
  a4 := Tryz.isAgg4
  z4 := Tryz.sizeOf4
  v4 := Tryz.zeroValue4
  t5 := Tryz.underlying5
  a5 := Tryz.isAgg5
  z5 := Tryz.sizeOf5
  v5 := Tryz.zeroValue5
  t9 := Tryz.underlying9
  a9 := Tryz.isAgg9
  z9 := Tryz.sizeOf9
  v9 := Tryz.zeroValue9
  t20 := Tryz.underlying20
  a20 := Tryz.isAgg20
  z20 := Tryz.sizeOf20
  v20 := Tryz.zeroValue20
  t37 := Tryz.underlying77
  a37 := Tryz.isAgg77
  z37 := Tryz.sizeOf77
  v37 := Tryz.zeroValue77
  t46 := Tryz.underlying97
  a46 := Tryz.isAgg97
  z46 := Tryz.sizeOf97
  v46 := Tryz.zeroValue97
  t51 := Tryz.underlying112
  a51 := Tryz.isAgg112
  z51 := Tryz.sizeOf112
  v51 := Tryz.zeroValue112
  t53 := Tryz.underlying114
  a53 := Tryz.isAgg114
  z53 := Tryz.sizeOf114
  v53 := Tryz.zeroValue114
  t171 := Tryz.underlying119
  a171 := Tryz.isAgg119
  z171 := Tryz.sizeOf119
  v171 := Tryz.zeroValue119
  t173 := Tryz.underlying121
  a173 := Tryz.isAgg121
  z173 := Tryz.sizeOf121
  v173 := Tryz.zeroValue121
  t212 := Tryz.underlying131
  a212 := Tryz.isAgg131
  z212 := Tryz.sizeOf131
  v212 := Tryz.zeroValue131
  t213 := Tryz.underlying132
  a213 := Tryz.isAgg132
  z213 := Tryz.sizeOf132
  t232 := Tryz.underlying140
  a232 := Tryz.isAgg140
  z232 := Tryz.sizeOf140
  v232 := Tryz.zeroValue140
  t233 := Tryz.underlying141
  a233 := Tryz.isAgg141
  z233 := Tryz.sizeOf141
  v233 := Tryz.zeroValue141
  g17 := by kernel_rfl
  g18 := by kernel_rfl
  g19 := by kernel_rfl
  i0 := by kernel_rfl
  i2 := by kernel_rfl
  i3 := by kernel_rfl
  i4 := by kernel_rfl
  i5 := by kernel_rfl
  i9 := by kernel_rfl
  i20 := by kernel_rfl
  i37 := by kernel_rfl
  i46 := by kernel_rfl
  i51 := by kernel_rfl
  i53 := by kernel_rfl
  i171 := by kernel_rfl
  i173 := by kernel_rfl
  i212 := by kernel_rfl
  i232 := by kernel_rfl
  i233 := by kernel_rfl
  m17 := by kernel_rfl
  m18 := by kernel_rfl
  m19 := by kernel_rfl }
open Go.RowKit Go.Sort Go.Lib in
/-- A number in decimal digits. -/
theorem Tryz.strconv_Itoa (n : Int) (h0 : -9223372036854775808 ≤ n) (h1 : n ≤ 9223372036854775807) (w : World) (htab : Lib.TabIs Tryz.prog w "internal/strconv.uint64pow10" .u64 Lib.pow10Tab) :
    Calls Tryz.prog 36 #[.int .i64 n] w fun e w' => e = .returned (.string ⟨(Lib.itoa n).toArray⟩) ∧ ∃ k os, w' = grow (w.drewN k) os := Any.strconv_Itoa Tryz.laysItoa n h0 h1 w htab
def Tryz.laysKeys_ren : Go.Shelf.Ren := ⟨fun | 7 => 55 | 10 => 66 | n => n, fun | 23 => 70 | 26 => 9 | 3 => 32 | 28 => 92 | 0 => 0 | 27 => 91 | 33 => 73 | 4 => 4 | n => n, fun | n => n⟩
theorem Tryz.laysKeys : Go.Proofs.SlLaysZ.n7 Tryz.prog Tryz.laysKeys_ren := {
  mixed := by kernel_rfl
  f7 := ⟨Tryz.f55.name, by decide, Tryz.func55.trans (congrArg some (by kernel_rfl))⟩
  f10 := ⟨Tryz.f66.name, by decide, Tryz.func66.trans (congrArg some (by kernel_rfl))⟩
  t0 := Tryz.underlying0
  a0 := Tryz.isAgg0
  z0 := Tryz.sizeOf0
  v0 := Tryz.zeroValue0
  t4 := Tryz.underlying4
  a4 := Tryz.isAgg4
  z4 := Tryz.sizeOf4
  v4 := Tryz.zeroValue4
  t23 := Tryz.underlying70
  a23 := Tryz.isAgg70
  z23 := Tryz.sizeOf70
  v23 := Tryz.zeroValue70
  t26 := Tryz.underlying9
  a26 := Tryz.isAgg9
  z26 := Tryz.sizeOf9
  v26 := Tryz.zeroValue9
  t27 := Tryz.underlying91
  a27 := Tryz.isAgg91
  z27 := Tryz.sizeOf91
  v27 := Tryz.zeroValue91
  t28 := Tryz.underlying92
  a28 := Tryz.isAgg92
  z28 := Tryz.sizeOf92
  v28 := Tryz.zeroValue92
  t33 := Tryz.underlying73
  a33 := Tryz.isAgg73
  z33 := Tryz.sizeOf73
  v33 := Tryz.zeroValue73 }
def Tryz.laysSorted_ren : Go.Shelf.Ren := ⟨fun | 6 => 54 | 8 => 65 | 9 => 39 | 11 => 83 | 13 => 60 | 12 => 59 | 23 => 79 | 24 => 80 | 14 => 70 | 15 => 71 | 16 => 72 | 17 => 73 | 18 => 74 | 19 => 75 | 20 => 76 | 21 => 77 | 22 => 78 | 25 => 89 | 26 => 90 | 27 => 91 | 28 => 92 | 29 => 93 | 30 => 94 | 31 => 100 | n => n, fun | 26 => 9 | 28 => 92 | 24 => 32 | 0 => 0 | 3 => 3 | 37 => 97 | 48 => 112 | 50 => 114 | 4 => 4 | 40 => 105 | 39 => 104 | 45 => 109 | 5 => 5 | 9 => 9 | 51 => 123 | 55 => 127 | 57 => 134 | 58 => 135 | 33 => 73 | n => n, fun | n => n⟩
theorem Tryz.laysSorted : Go.Proofs.SlLaysZ.n6 Tryz.prog Tryz.laysSorted_ren := {
  mixed := by kernel_rfl
  f6 := ⟨Tryz.f54.name, by decide, Tryz.func54.trans (congrArg some (by kernel_rfl))⟩
  f8 := ⟨Tryz.f65.name, by decide, Tryz.func65.trans (congrArg some (by kernel_rfl))⟩
  f11 := ⟨Tryz.f83.name, by decide, Tryz.func83.trans (congrArg some (by kernel_rfl))⟩
  t0 := Tryz.underlying0
  a0 := Tryz.isAgg0
  z0 := Tryz.sizeOf0
  v0 := Tryz.zeroValue0
  t24 := Tryz.underlying32
  a24 := Tryz.isAgg32
  z24 := Tryz.sizeOf32
  v24 := Tryz.zeroValue32
  t26 := Tryz.underlying9
  a26 := Tryz.isAgg9
  z26 := Tryz.sizeOf9
  v26 := Tryz.zeroValue9
  t28 := Tryz.underlying92
  a28 := Tryz.isAgg92
  z28 := Tryz.sizeOf92
  v28 := Tryz.zeroValue92
  i26 := by kernel_rfl }
def Tryz.laysSort_ren : Go.Shelf.Ren := ⟨fun | 6 => 39 | 8 => 60 | 9 => 59 | 19 => 79 | 20 => 80 | 21 => 70 | 22 => 71 | 23 => 72 | 24 => 73 | 25 => 74 | 26 => 75 | 27 => 76 | 28 => 77 | 29 => 78 | 36 => 89 | 31 => 90 | 32 => 91 | 37 => 92 | 38 => 93 | 39 => 94 | 41 => 100 | n => n, fun | 27 => 32 | 29 => 9 | 3 => 3 | 32 => 97 | 26 => 32 | 0 => 0 | 44 => 112 | 46 => 114 | 4 => 4 | 36 => 105 | 35 => 104 | 41 => 109 | 5 => 5 | 9 => 9 | 53 => 123 | 57 => 127 | 63 => 134 | 64 => 135 | n => n, fun | n => n⟩
theorem Tryz.laysSort : Go.Proofs.SlLaysM.n6 Tryz.prog Tryz.laysSort_ren := {
  mixed := by kernel_rfl
  f6 := ⟨Tryz.f39.name, by decide, Tryz.func39.trans (congrArg some (by kernel_rfl))⟩
  f8 := Tryz.func60.trans (congrArg some (by kernel_rfl))
  f9 := ⟨Tryz.f59.name, by decide, Tryz.func59.trans (congrArg some (by kernel_rfl))⟩
  f19 := Tryz.func79.trans (congrArg some (by kernel_rfl))
  f20 := Tryz.func80.trans (congrArg some (by kernel_rfl))
  f21 := ⟨Tryz.f70.name, by decide, Tryz.func70.trans (congrArg some (by kernel_rfl))⟩
  f22 := ⟨Tryz.f71.name, by decide, Tryz.func71.trans (congrArg some (by kernel_rfl))⟩
  f23 := ⟨Tryz.f72.name, by decide, Tryz.func72.trans (congrArg some (by kernel_rfl))⟩
  f24 := ⟨Tryz.f73.name, by decide, Tryz.func73.trans (congrArg some (by kernel_rfl))⟩
  f25 := ⟨Tryz.f74.name, by decide, Tryz.func74.trans (congrArg some (by kernel_rfl))⟩
  f26 := ⟨Tryz.f75.name, by decide, Tryz.func75.trans (congrArg some (by kernel_rfl))⟩
  f27 := ⟨Tryz.f76.name, by decide, Tryz.func76.trans (congrArg some (by kernel_rfl))⟩
  f28 := ⟨Tryz.f77.name, by decide, Tryz.func77.trans (congrArg some (by kernel_rfl))⟩
  f29 := ⟨Tryz.f78.name, by decide, Tryz.func78.trans (congrArg some (by kernel_rfl))⟩
  f31 := Tryz.func90.trans (congrArg some (by kernel_rfl))
  f32 := Tryz.func91.trans (congrArg some (by kernel_rfl))
  f36 := ⟨Tryz.f89.name, by decide, Tryz.func89.trans (congrArg some (by kernel_rfl))⟩
  f37 := ⟨Tryz.f92.name, by decide, Tryz.func92.trans (congrArg some (by kernel_rfl))⟩
  f38 := ⟨Tryz.f93.name, by decide, Tryz.func93.trans (congrArg some (by kernel_rfl))⟩
  f39 := ⟨Tryz.f94.name, by decide, Tryz.func94.trans (congrArg some (by kernel_rfl))⟩
  f41 := ⟨Tryz.f100.name, by decide, Tryz.func100.trans (congrArg some (by kernel_rfl))⟩
  t0 := Tryz.underlying0
  a0 := Tryz.isAgg0
  z0 := Tryz.sizeOf0
  v0 := Tryz.zeroValue0
  t3 := Tryz.underlying3
  a3 := Tryz.isAgg3
  z3 := Tryz.sizeOf3
  v3 := Tryz.zeroValue3
  t4 := Tryz.underlying4
  a4 := Tryz.isAgg4
  z4 := Tryz.sizeOf4
  v4 := Tryz.zeroValue4
  t5 := Tryz.underlying5
  a5 := Tryz.isAgg5
  z5 := Tryz.sizeOf5
  v5 := Tryz.zeroValue5
  t9 := Tryz.underlying9
  a9 := Tryz.isAgg9
  z9 := Tryz.sizeOf9
  v9 := Tryz.zeroValue9
  t26 := Tryz.underlying32
  a26 := Tryz.isAgg32
  z26 := Tryz.sizeOf32
  v26 := Tryz.zeroValue32
  t27 := Tryz.underlying32
  a27 := Tryz.isAgg32
  z27 := Tryz.sizeOf32
  v27 := Tryz.zeroValue32
  t29 := Tryz.underlying9
  a29 := Tryz.isAgg9
  z29 := Tryz.sizeOf9
  v29 := Tryz.zeroValue9
  t32 := Tryz.underlying97
  a32 := Tryz.isAgg97
  z32 := Tryz.sizeOf97
  v32 := Tryz.zeroValue97
  t35 := Tryz.underlying104
  a35 := Tryz.isAgg104
  z35 := Tryz.sizeOf104
  v35 := Tryz.zeroValue104
  t36 := Tryz.underlying105
  a36 := Tryz.isAgg105
  z36 := Tryz.sizeOf105
  v36 := Tryz.zeroValue105
  t41 := Tryz.underlying109
  a41 := Tryz.isAgg109
  z41 := Tryz.sizeOf109
  v41 := Tryz.zeroValue109
  t44 := Tryz.underlying112
  a44 := Tryz.isAgg112
  z44 := Tryz.sizeOf112
  v44 := Tryz.zeroValue112
  t46 := Tryz.underlying114
  a46 := Tryz.isAgg114
  z46 := Tryz.sizeOf114
  v46 := Tryz.zeroValue114
  t53 := Tryz.underlying123
  a53 := Tryz.isAgg123
  z53 := Tryz.sizeOf123
  v53 := Tryz.zeroValue123
  t57 := Tryz.underlying127
  a57 := Tryz.isAgg127
  z57 := Tryz.sizeOf127
  v57 := Tryz.zeroValue127
  t63 := Tryz.underlying134
  a63 := Tryz.isAgg134
  z63 := Tryz.sizeOf134
  v63 := Tryz.zeroValue134
  t64 := Tryz.underlying135
  a64 := Tryz.isAgg135
  z64 := Tryz.sizeOf135
  v64 := Tryz.zeroValue135 }
open Go.RowKit Go.Maps Go.Sort
/-- The two contracts of the sort. -/
theorem Tryz.sortsOf (m : Nat) : AnyZ.SortsIn Tryz.prog Tryz.laysSorted_ren Fence.wide m :=
  ⟨fun blk off cap ss W hH hblk hsz => callsIn_wide.2 (AnyM.slices_Sort_string Tryz.laysSort blk off cap ss W hH hblk hsz),
   fun p cap W => callsIn_wide.2 (AnyM.slices_Sort_string_none Tryz.laysSort p cap W)⟩

/-- The names of a map, as a row to come. -/
theorem Tryz.maps_Keys (mb : Option Nat) (W : World) : CallsIn Fence.wide 5 Tryz.prog 55 #[.map mb] W fun e w' => e = .returned (.func (.func 66) #[] #[.pointer (some ⟨W.heap.size, 0, none⟩)]) ∧ w' = W.alloc (.cells #[.map mb] 70) :=
  AnyZ.keys_in Tryz.laysKeys Fence.wide 5 trivial rfl mb W

set_option maxHeartbeats 1000000 in
/-- The names of a map, sorted. -/
theorem Tryz.slices_Sorted_keys {H : Type} (b nn : Nat) (D0 : DataW H) (R : Value → Option (DataW H × List MemPlace)) (w : World) (hown : w.ownsMap Tryz.prog 9 R b nn D0) (hmax : Maps.size D0 ≤ maxLen) (hbytes : Maps.size D0 * 16 ≤ 140737488355328) :
    CallsIn Fence.wide 5 Tryz.prog 54 #[.func (.func 66) #[] #[.pointer (some ⟨w.heap.size, 0, none⟩)]] (w.alloc (.cells #[.map (some b)] 70)) fun e w' => ∃ (v : Value) (ss : List (List UInt8)), e = .returned v ∧ ss.Perm (strKeys D0) ∧
      w'.ownsRow (w.alloc (.cells #[.map (some b)] 70)).heap.size 9 1 v ss.length ((ss.mergeSort (fun x y => decide (x ≤ y))).map encStr) ∧ (v = .slice none 0 0 ↔ ss = []) ∧ Below (w.alloc (.cells #[.map (some b)] 70)).heap.size (w.alloc (.cells #[.map (some b)] 70)) w' := by
  have hbl := hown.lt
  have hseq : SeqGives Fence.wide 2 Tryz.prog 66 #[.pointer (some ⟨w.heap.size, 0, none⟩)] encStr (fun ss => ss.Perm (strKeys D0)) (Maps.size D0) (w.alloc (.cells #[.map (some b)] 70)) :=
    AnyZ.keys_gives (ρ := Tryz.laysKeys_ren) { Tryz.laysKeys with } Fence.wide _ trivial rfl (by omega) w.heap.size b nn D0 _ (by simp) (by simp) (by
      obtain ⟨es, clock, hb, Ft, hs, hD⟩ := hown
      exact ⟨es, clock, (Below.heap_alloc _ _ b hbl).trans hb, Ft, hs, hD⟩)
  exact AnyZ.sorted_in Tryz.laysSorted Fence.wide 5 trivial trivial trivial trivial rfl (by omega) (Tryz.sortsOf _) (enters_of Tryz.func39 (by kernel_rfl) rfl) 66 #[.pointer (some ⟨w.heap.size, 0, none⟩)] trivial (enters_of Tryz.func66 (by kernel_rfl) rfl) _ _ hmax hbytes _ hseq

end Go.Proofs

/-
  Lines and texts as lists: which may be, how they are cut and put together, how many there are.
-/
namespace Go.Proofs.YtboffgmaohcpfaaGreatDoor
open Go.RowKit

/-- Has the text a byte 10? -/
def hasEnd (s : ByteArray) : Bool := decide (0 ≤ Lib.indexByte s.data.toList 10)

/-- A line that may be. -/
def rightB (s : ByteArray) : Bool := decide (s.size ≤ 60) && !hasEnd s

def allB (l : List ByteArray) : Bool := l.all rightB

theorem hasEnd_no {s : ByteArray} (h : ∀ k : Nat, s.data.toList[k]? ≠ some 10) : hasEnd s = false := by
  unfold hasEnd
  rw [decide_eq_false_iff_not]
  intro h0
  obtain ⟨o, ho⟩ := Int.eq_ofNat_of_zero_le h0
  exact h o (Lib.indexByte_some ho).1

theorem hasEnd_yes {s : ByteArray} {k : Nat} (h : s.data.toList[k]? = some 10) : hasEnd s = true := by
  unfold hasEnd
  rw [decide_eq_true_eq]
  have := Lib.indexByte_ge s.data.toList 10
  by_cases hlt : Lib.indexByte s.data.toList 10 < 0
  · exact absurd h (Lib.indexByte_none (by omega) k)
  · omega

theorem allB_get {l : List ByteArray} {k : Nat} (hk : k < l.length) (h : rightB (l.getD k ByteArray.empty) = false) : allB l = false := by
  unfold allB
  rw [List.all_eq_false]
  refine ⟨l[k], List.getElem_mem hk, ?_⟩
  simp only [List.getD, List.getElem?_eq_getElem hk, Option.getD_some] at h
  simp [h]

theorem allB_all {l : List ByteArray} (h : ∀ k : Nat, k < l.length → rightB (l.getD k ByteArray.empty) = true) : allB l = true := by
  unfold allB
  rw [List.all_eq_true]
  intro x hx
  obtain ⟨k, hk, rfl⟩ := List.getElem_of_mem hx
  have := h k hk
  simpa [List.getD, List.getElem?_eq_getElem hk] using this

theorem extract_size (s : ByteArray) (a b : Nat) : (s.extract a b).size = min b s.size - a := by simp

theorem toList_isEmpty {s : ByteArray} (h : s.size ≠ 0) : s.toList.isEmpty = false := by
  rw [ByteArray.toList_eq]
  cases hl : s.data.toList with
  | nil =>
    have : s.data.toList.length = s.size := by simp
    rw [hl] at this; simp at this; omega
  | cons _ _ => rfl

/-- The lines so far, and what is left: f where the line at hand begins, k how far it is read. -/
def restL (s : ByteArray) (f k : Nat) : List ByteArray := (cutGo (((bytes s).drop f).take (k - f)) ((bytes s).drop k)).map txt

theorem restL_start (s : ByteArray) : restL s 0 0 = lines s := by simp [restL, lines]

theorem restL_end {s : ByteArray} {f k : Nat} (hk : k < s.size) (h : (bytes s)[k]? = some 10) : restL s f k = s.extract f k :: restL s (k + 1) (k + 1) := by
  unfold restL
  rw [List.drop_eq_getElem_cons (i := k) (by rw [bytes_length]; exact hk), extract_txt]
  rw [List.getElem?_eq_getElem (by rw [bytes_length]; exact hk)] at h
  injection h with h
  simp [cutGo, h]

theorem restL_on {s : ByteArray} {f k : Nat} (hk : k < s.size) (hf : f ≤ k) (h : (bytes s)[k]? ≠ some 10) : restL s f k = restL s f (k + 1) := by
  unfold restL
  rw [List.drop_eq_getElem_cons (i := k) (by rw [bytes_length]; exact hk)]
  rw [List.getElem?_eq_getElem (by rw [bytes_length]; exact hk)] at h
  have h' : (bytes s)[k]'(by rw [bytes_length]; exact hk) ≠ 10 := fun e => h (by rw [e])
  simp only [cutGo, if_neg h']
  congr 2
  rw [show k + 1 - f = (k - f) + 1 from by omega, List.take_succ_eq_append_getElem (by rw [List.length_drop, bytes_length]; omega), List.getElem_drop]
  congr 3
  omega

theorem restL_stop {s : ByteArray} {f : Nat} (hf : f < s.size) : restL s f s.size = [s.extract f s.size] := by
  unfold restL
  rw [List.drop_of_length_le (l := bytes s) (i := s.size) (by rw [bytes_length]; omega), extract_txt]
  have : ((bytes s).drop f).take (s.size - f) ≠ [] := by
    intro e
    have := congrArg List.length e
    rw [List.length_take, List.length_drop, bytes_length] at this
    simp at this; omega
  simp only [cutGo, if_neg this, List.map_cons, List.map_nil]

theorem restL_none {s : ByteArray} : restL s s.size s.size = [] := by
  unfold restL
  rw [List.drop_of_length_le (l := bytes s) (i := s.size) (by rw [bytes_length]; omega)]
  simp [cutGo]

/-- How many bytes the lines have in all. -/
def bulk (l : List ByteArray) : Nat := (l.map ByteArray.size).sum

theorem textL_length (l : List ByteArray) : (textL l).length = bulk l + l.length := by
  induction l with
  | nil => rfl
  | cons s l ih =>
    simp only [textL, bulk, List.flatMap_cons, List.length_append, List.map_cons, List.sum_cons, List.length_cons, List.length_nil] at ih ⊢
    rw [bytes_length]; omega

theorem textL_split (l : List ByteArray) (k : Nat) : textL l = textL (l.take k) ++ textL (l.drop k) := by
  rw [textL, textL, textL, ← List.flatMap_append, List.take_append_drop]

theorem textL_next {l : List ByteArray} {k : Nat} (hk : k < l.length) : textL (l.take (k + 1)) = textL (l.take k) ++ bytes (l.getD k ByteArray.empty) ++ [10] := by
  rw [List.take_succ_eq_append_getElem hk, textL_snoc]
  simp [List.getD, List.getElem?_eq_getElem hk]

theorem textL_room {l : List ByteArray} {k : Nat} (hk : k < l.length) : (textL (l.take k)).length + (l.getD k ByteArray.empty).size + 1 ≤ (textL l).length := by
  have h1 := congrArg List.length (textL_split l (k + 1))
  have h2 := congrArg List.length (textL_next hk)
  rw [List.length_append] at h1
  rw [List.length_append, List.length_append, bytes_length] at h2
  simp only [List.length_cons, List.length_nil] at h2
  omega

theorem text_step (a : List UInt8) (x : ByteArray) : txt a ++ x ++ ⟨#[10]⟩ = txt (a ++ bytes x ++ [10]) := by
  have h : ∀ p q : ByteArray, bytes p = bytes q → p = q := fun p q h => by rw [← txt_bytes p, h, txt_bytes]
  apply h
  rw [bytes_txt]
  unfold bytes txt
  simp [ByteArray.data_append]

/-- How many lines the first i rows have, and how many bytes. -/
def cnt (ss : Nat → List ByteArray) : Nat → Nat
  | 0 => 0
  | i + 1 => cnt ss i + (ss i).length

def blk (ss : Nat → List ByteArray) : Nat → Nat
  | 0 => 0
  | i + 1 => blk ss i + bulk (ss i)

theorem cnt_le {ss : Nat → List ByteArray} {n : Nat → Nat} {k : Nat} (hl : ∀ i, i < k → (ss i).length = n i) (hn : ∀ i, i < k → n i ≤ 140737488355328) (i : Nat) (hi : i ≤ k) : cnt ss i ≤ i * 140737488355328 := by
  induction i with
  | zero => simp [cnt]
  | succ i ih =>
    have h1 := ih (by omega)
    have h2 := hl i (by omega)
    have h3 := hn i (by omega)
    simp only [cnt]; omega

theorem bulk_take_succ {l : List ByteArray} {j : Nat} (h : j < l.length) : bulk (l.take (j + 1)) = bulk (l.take j) + (l.getD j ByteArray.empty).size := by
  rw [List.take_succ_eq_append_getElem h]
  simp only [bulk, List.map_append, List.sum_append, List.map_cons, List.map_nil, List.sum_cons, List.sum_nil, List.getD, List.getElem?_eq_getElem h, Option.getD_some, Nat.add_zero]

theorem bulk_take_le {l : List ByteArray} (h : ∀ s ∈ l, s.size ≤ 140737488355328) (j : Nat) (hj : j ≤ l.length) : bulk (l.take j) ≤ j * 140737488355328 := by
  induction j with
  | zero => simp [bulk]
  | succ j ih =>
    have hlt : j < l.length := by omega
    have h1 := ih (by omega)
    have h2 := h l[j] (List.getElem_mem hlt)
    rw [bulk_take_succ hlt]
    simp only [List.getD, List.getElem?_eq_getElem hlt, Option.getD_some]
    omega

theorem blk_le {ss : Nat → List ByteArray} {k : Nat} (h : ∀ i, i < k → ∀ s ∈ ss i, s.size ≤ 140737488355328) (i : Nat) (hi : i ≤ k) : blk ss i ≤ cnt ss i * 140737488355328 := by
  induction i with
  | zero => simp [blk]
  | succ i ih =>
    have h1 := ih (by omega)
    have h2 := bulk_take_le (h i (by omega)) (ss i).length (Nat.le_refl _)
    rw [List.take_length] at h2
    simp only [blk, cnt]
    omega

/-- None of the first k lines has a byte 10. -/
def wholeB (xs : List ByteArray) (k : Nat) : Bool := (xs.take k).all fun x => !hasEnd x

theorem wholeB_succ {xs : List ByteArray} {k : Nat} (h : k < xs.length) : wholeB xs (k + 1) = (wholeB xs k && !hasEnd (xs.getD k ByteArray.empty)) := by
  unfold wholeB
  rw [List.take_succ_eq_append_getElem h, List.all_append]
  simp [List.getD, List.getElem?_eq_getElem h]

theorem wholeB_lines {xs : List ByteArray} {k : Nat} (hk : xs.length ≤ k) (h : wholeB xs k = true) : lines (txt (textL xs)) = xs := by
  refine lines_textL xs fun s hs c hc => ?_
  unfold wholeB at h
  rw [List.take_of_length_le hk] at h
  have h1 := List.all_eq_true.1 h s hs
  intro e
  subst e
  obtain ⟨i, hi, hg⟩ := List.getElem_of_mem hc
  have := hasEnd_yes (s := s) (k := i) (by unfold bytes at hi hg; rw [List.getElem?_eq_getElem hi, hg])
  rw [this] at h1
  cases h1

theorem suffix_ten (s : ByteArray) (h0 : s.size ≠ 0) : Lib.hasSuffix s.data.toList [10] = decide ((bytes s).getLast? = some 10) := by
  have hne : bytes s ≠ [] := by
    intro e
    have := bytes_length s
    rw [e] at this; simp at this; omega
  unfold Lib.hasSuffix
  show List.isSuffixOf [10] (bytes s) = _
  generalize bytes s = l at hne
  rw [Bool.eq_iff_iff, List.isSuffixOf_iff_suffix, decide_eq_true_eq]
  constructor
  · rintro ⟨t, rfl⟩
    simp
  · intro h
    exact ⟨l.dropLast, by rw [List.getLast?_eq_some_getLast hne] at h; injection h with h; rw [← h]; exact List.dropLast_concat_getLast hne⟩

theorem ended_same {s : ByteArray} (h : s.size = 0 ∨ Lib.hasSuffix s.data.toList [10] = true) : txt (textL (lines s)) = s := by
  rw [textL_lines]
  unfold ended
  have : bytes s = [] ∨ (bytes s).getLast? = some 10 := by
    by_cases h0 : s.size = 0
    · left; exact List.eq_nil_of_length_eq_zero (by rw [bytes_length]; exact h0)
    · right
      rcases h with h | h
      · exact absurd h h0
      · rw [suffix_ten s h0] at h
        simpa using h
  rw [if_pos this, List.append_nil, txt_bytes]

theorem ended_more {s : ByteArray} (h0 : s.size ≠ 0) (h : Lib.hasSuffix s.data.toList [10] = false) : txt (textL (lines s)) = s ++ ⟨#[10]⟩ := by
  rw [textL_lines]
  unfold ended
  have hn : ¬ (bytes s = [] ∨ (bytes s).getLast? = some 10) := by
    rintro (h1 | h1)
    · have := bytes_length s
      rw [h1] at this; simp at this; omega
    · rw [suffix_ten s h0, h1] at h
      simp at h
  rw [if_neg hn]
  have := text_step (bytes s) ⟨#[]⟩
  rw [txt_bytes] at this
  have e : s ++ (⟨#[]⟩ : ByteArray) = s := by
    have h : ∀ p q : ByteArray, bytes p = bytes q → p = q := fun p q h => by rw [← txt_bytes p, h, txt_bytes]
    apply h; unfold bytes; simp [ByteArray.data_append]
  rw [e] at this
  rw [this]
  simp [bytes]

/-- How a text ends, and what it is with a byte 10 at its end. -/
def Wants (s want : ByteArray) : Prop :=
  txt (textL (lines s)) = want ∧ ((s = ⟨#[]⟩ ∧ want = s) ∨ (s.toList.isEmpty = false ∧ Lib.hasSuffix s.data.toList [10] = true ∧ want = s) ∨ (s.toList.isEmpty = false ∧ Lib.hasSuffix s.data.toList [10] = false ∧ want = s ++ ⟨#[10]⟩))

theorem wants_any (s : ByteArray) : ∃ want, Wants s want := by
  by_cases h0 : s.size = 0
  · have er : s = ⟨#[]⟩ := by
      have := txt_bytes s
      rw [List.eq_nil_of_length_eq_zero (l := bytes s) (by rw [bytes_length]; exact h0)] at this
      exact this.symm
    exact ⟨s, ended_same (.inl h0), .inl ⟨er, rfl⟩⟩
  · have he := toList_isEmpty h0
    cases hsf : Lib.hasSuffix s.data.toList [10]
    · exact ⟨_, ended_more h0 hsf, .inr (.inr ⟨he, hsf, rfl⟩)⟩
    · exact ⟨s, ended_same (.inr hsf), .inr (.inl ⟨he, hsf, rfl⟩)⟩

/-- How many bytes 10 a text has, how many lines, and how it ends. -/
def Ends3 (s : ByteArray) (cn ln : Nat) : Prop :=
  (s = ⟨#[]⟩ ∧ ln = cn) ∨ (s.toList.isEmpty = false ∧ Lib.hasSuffix s.data.toList [10] = true ∧ ln = cn) ∨ (s.toList.isEmpty = false ∧ Lib.hasSuffix s.data.toList [10] = false ∧ ln = cn + 1)

theorem ends3_any (s : ByteArray) : Ends3 s (Lib.countByte s.data.toList 10) (lines s).length := by
  have hl := lines_count s
  have hcb : Lib.countByte s.data.toList 10 = (bytes s).count 10 := rfl
  rw [← hcb] at hl
  by_cases h0 : s.size = 0
  · have eb : bytes s = [] := List.eq_nil_of_length_eq_zero (by rw [bytes_length]; exact h0)
    have er : s = ⟨#[]⟩ := by
      have := txt_bytes s
      rw [eb] at this
      exact this.symm
    exact .inl ⟨er, by rw [hl, if_pos (.inl eb)]; rfl⟩
  · have he := toList_isEmpty h0
    have hne : bytes s ≠ [] := by
      intro e
      have := bytes_length s
      rw [e] at this; simp at this; omega
    have hsf := suffix_ten s h0
    by_cases hlast : (bytes s).getLast? = some 10
    · exact .inr (.inl ⟨he, by rw [hsf]; simpa using hlast, by rw [hl, if_pos (.inr hlast)]; rfl⟩)
    · exact .inr (.inr ⟨he, by rw [hsf]; simpa using hlast, by rw [hl, if_neg (by rintro (h | h) <;> contradiction)]⟩)

theorem countByte_le (s : ByteArray) : Lib.countByte s.data.toList 10 ≤ s.size := by
  have : Lib.countByte s.data.toList 10 ≤ s.data.toList.length := List.count_le_length
  simpa using this

end Go.Proofs.YtboffgmaohcpfaaGreatDoor
