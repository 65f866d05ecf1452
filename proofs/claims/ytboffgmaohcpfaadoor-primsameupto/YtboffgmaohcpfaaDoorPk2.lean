import Derived.Shelf.Strings.Builder1
import Derived.Test.YtboffgmaohcpfaaDoorChecked
import Derived.Shelf.Strings.BuilderK
import Derived.Shelf.LaysM
import Derived.Shelf.Strconv.Itoa3
import Derived.Ground.GgzProg
import Derived.Ground.SlgmProg
import Derived.Shelf.SlIter.Nil
import Derived.Shelf.SortM.Plain
import Derived.Shelf.SortM.SortNone
import Derived.Test.YtboffgmaohcpfaaDoorProg
import Derived.Test.YtboffgmaohcpfaaDoorPk1
import Derived.Lib.IndexLaws
import Derived.Lib.Strings
import Derived.Lib.Bytealg

/-
  What calls of the library come to, laid at this program: A builder: written into, and told as a text.
-/
namespace Go.Proofs
open Go.Shelf
def Tryd.lays169_ren : Go.Shelf.Ren := ⟨fun | 169 => 40 | n => n, fun | 70 => 55 | 9 => 9 | 0 => 0 | 72 => 58 | 37 => 56 | 127 => 76 | 3 => 3 | 5 => 5 | n => n, fun | n => n⟩
theorem Tryd.lays169 : Go.Proofs.Lays.n169 Tryd.prog Tryd.lays169_ren := {
  mixed := by kernel_rfl
  f169 := Tryd.func40.trans (congrArg some (by kernel_rfl))
  t0 := Tryd.underlying0
  a0 := Tryd.isAgg0
  z0 := Tryd.sizeOf0
  v0 := Tryd.zeroValue0
  t3 := Tryd.underlying3
  a3 := Tryd.isAgg3
  z3 := Tryd.sizeOf3
  v3 := Tryd.zeroValue3
  t9 := Tryd.underlying9
  a9 := Tryd.isAgg9
  z9 := Tryd.sizeOf9
  v9 := Tryd.zeroValue9
  t37 := Tryd.underlying56
  a37 := Tryd.isAgg56
  z37 := Tryd.sizeOf56
  v37 := Tryd.zeroValue56
  t70 := Tryd.underlying55
  a70 := Tryd.isAgg55
  z70 := Tryd.sizeOf55
  v70 := Tryd.zeroValue55
  t72 := Tryd.underlying58
  a72 := Tryd.isAgg58
  z72 := Tryd.sizeOf58
  v72 := Tryd.zeroValue58
  t127 := Tryd.underlying76
  a127 := Tryd.isAgg76
  z127 := Tryd.sizeOf76
  v127 := Tryd.zeroValue76 }
theorem Tryd.Builder_Extra_169 : Builder.Extra Tryd.prog Tryd.lays169_ren := {
  sizeBuilder := by kernel_rfl
  liesBuilder := by kernel_rfl
  t5 := Tryd.underlying5
  a5 := Tryd.isAgg5
  z5 := Tryd.sizeOf5
  v5 := Tryd.zeroValue5
  infoByte := by kernel_rfl
  cellsByte := by kernel_rfl
  sizeByte := by kernel_rfl
  neB5 := by decide }
open Go.RowKit in
theorem Tryd.Builder_String_any (B b : Nat) (l : List UInt8) (w : World) (h : Lib.IsBuilder 58 5 B b (Lib.byteCells l) w) (hBw : B ≤ w.heap.size) :
    Calls Tryd.prog 40 #[.pointer (some ⟨b, 0, none⟩)] w fun e w' => e = .returned (.string ⟨l.toArray⟩) ∧ Below B w w' := Any.Builder_String_any Tryd.lays169 Tryd.Builder_Extra_169 B b l w h hBw
def Tryd.lays166_ren : Go.Shelf.Ren := ⟨fun | 166 => 37 | 240 => 52 | 276 => 72 | n => n, fun | 0 => 0 | 3 => 3 | 4 => 4 | 5 => 5 | 9 => 9 | 20 => 20 | 37 => 56 | 70 => 55 | 72 => 58 | 75 => 61 | 80 => 44 | 164 => 93 | n => n, fun | n => n⟩
theorem Tryd.lays166 : Go.Proofs.Lays.n166 Tryd.prog Tryd.lays166_ren := {
  mixed := by kernel_rfl
  f166 := Tryd.func37.trans (congrArg some (by kernel_rfl))
  f240 := Tryd.func52.trans (congrArg some (by kernel_rfl))
  f276 := Tryd.func72.trans (congrArg some (by kernel_rfl))
  t0 := Tryd.underlying0
  a0 := Tryd.isAgg0
  z0 := Tryd.sizeOf0
  v0 := Tryd.zeroValue0
  t3 := Tryd.underlying3
  a3 := Tryd.isAgg3
  z3 := Tryd.sizeOf3
  v3 := Tryd.zeroValue3
  t4 := Tryd.underlying4
  a4 := Tryd.isAgg4
  z4 := Tryd.sizeOf4
  v4 := Tryd.zeroValue4
  t9 := Tryd.underlying9
  a9 := Tryd.isAgg9
  z9 := Tryd.sizeOf9
  v9 := Tryd.zeroValue9
  t20 := Tryd.underlying20
  a20 := Tryd.isAgg20
  z20 := Tryd.sizeOf20
  v20 := Tryd.zeroValue20
  t37 := Tryd.underlying56
  a37 := Tryd.isAgg56
  z37 := Tryd.sizeOf56
  v37 := Tryd.zeroValue56
  t70 := Tryd.underlying55
  a70 := Tryd.isAgg55
  z70 := Tryd.sizeOf55
  v70 := Tryd.zeroValue55
  t72 := Tryd.underlying58
  a72 := Tryd.isAgg58
  z72 := Tryd.sizeOf58
  v72 := Tryd.zeroValue58
  t75 := Tryd.underlying61
  a75 := Tryd.isAgg61
  z75 := Tryd.sizeOf61
  v75 := Tryd.zeroValue61
  t164 := Tryd.underlying93
  a164 := Tryd.isAgg93
  z164 := Tryd.sizeOf93
  v164 := Tryd.zeroValue93 }
theorem Tryd.Builder_Extra_166 : Builder.Extra Tryd.prog Tryd.lays166_ren := {
  sizeBuilder := by kernel_rfl
  liesBuilder := by kernel_rfl
  t5 := Tryd.underlying5
  a5 := Tryd.isAgg5
  z5 := Tryd.sizeOf5
  v5 := Tryd.zeroValue5
  infoByte := by kernel_rfl
  cellsByte := by kernel_rfl
  sizeByte := by kernel_rfl
  neB5 := by decide }
open Go.RowKit in
theorem Tryd.Builder_WriteString (B b : Nat) (bs : List Value) (s : ByteArray) (w : World) (h : Lib.IsBuilder 58 5 B b bs w) (hlen : bs.length + s.size ≤ 140737488355328) (hBw : B ≤ w.heap.size) :
    Calls Tryd.prog 37 #[.pointer (some ⟨b, 0, none⟩), .string s] w fun e w' => e = .returned (.tuple #[.int .i64 s.size, .nilIface]) ∧ (Lib.BuilderAt 58 5 B b (.pointer (some ⟨b, 0, none⟩)) (bs ++ Lib.strCells s) w' ∧ Below B w w') := Any.Builder_WriteString Tryd.lays166 Tryd.Builder_Extra_166 B b bs s w h hlen hBw
end Go.Proofs

/-
  What calls of the library come to, laid at this program: a builder, beside which other rows are kept.
-/
namespace Go.Proofs
open Go.Shelf Go.RowKit
theorem Tryd.Builder_WriteString_k (B b : Nat) (bs : List Value) (s : ByteArray) (w : World) (h : Lib.IsBuilderF 58 5 B b bs w) (hlen : bs.length + s.size ≤ 140737488355328) (hBw : B ≤ w.heap.size) :
    Calls Tryd.prog 37 #[.pointer (some ⟨b, 0, none⟩), .string s] w fun e w' => e = .returned (.tuple #[.int .i64 s.size, .nilIface]) ∧ (Lib.BuilderAtF 58 5 B b (.pointer (some ⟨b, 0, none⟩)) (bs ++ Lib.strCells s) w' ∧ Below B w w' ∧ Lib.OthersKept 5 (some b) w w') := Any.Builder_WriteString_k Tryd.lays166 Tryd.Builder_Extra_166 B b bs s w h hlen hBw
theorem Tryd.Builder_String_any_k (B b : Nat) (l : List UInt8) (w : World) (h : Lib.IsBuilderF 58 5 B b (Lib.byteCells l) w) (hBw : B ≤ w.heap.size) :
    Calls Tryd.prog 40 #[.pointer (some ⟨b, 0, none⟩)] w fun e w' => e = .returned (.string ⟨l.toArray⟩) ∧ (Lib.IsBuilderF 58 5 B b (Lib.byteCells l) w' ∧ Below B w w' ∧ Lib.OthersKept 5 (some b) w w') := Any.Builder_String_any_k Tryd.lays169 Tryd.Builder_Extra_169 B b l w h hBw
end Go.Proofs

/-
  What calls of the library come to, laid at this program: a number in decimal digits; the names of a map, sorted.
-/
namespace Go.Proofs
open Go.Shelf
def Tryd.laysItoa_ren : Go.Shelf.Ren := ⟨fun | 171 => 38 | 243 => 53 | 246 => 73 | 283 => 84 | 284 => 85 | 285 => 86 | 286 => 87 | 129 => 64 | 317 => 90 | 318 => 91 | 319 => 92 | 320 => 93 | 337 => 98 | 338 => 99 | n => n, fun | 3 => 3 | 9 => 9 | 2 => 2 | 4 => 4 | 171 => 106 | 0 => 0 | 53 => 89 | 37 => 56 | 5 => 5 | 173 => 108 | 212 => 115 | 51 => 87 | 20 => 20 | 213 => 116 | 46 => 69 | 232 => 121 | 233 => 122 | n => n, fun | 17 => 0 | 18 => 2 | 19 => 3 | n => n⟩
theorem Tryd.laysItoa : Go.Proofs.LaysM.n171 Tryd.prog Tryd.laysItoa_ren := {
  mixed := by kernel_rfl
  f129 := Tryd.func64.trans (congrArg some (by kernel_rfl))
  f171 := Tryd.func38.trans (congrArg some (by kernel_rfl))
  f243 := Tryd.func53.trans (congrArg some (by kernel_rfl))
  f246 := Tryd.func73.trans (congrArg some (by kernel_rfl))
  f283 := Tryd.func84.trans (congrArg some (by kernel_rfl))
  f284 := Tryd.func85.trans (congrArg some (by kernel_rfl))
  f285 := Tryd.func86.trans (congrArg some (by kernel_rfl))
  f286 := Tryd.func87.trans (congrArg some (by kernel_rfl))
  f317 := Tryd.func90.trans (congrArg some (by kernel_rfl))
  f318 := Tryd.func91.trans (congrArg some (by kernel_rfl))
  f319 := Tryd.func92.trans (congrArg some (by kernel_rfl))
  f320 := Tryd.func93.trans (congrArg some (by kernel_rfl))
  f337 := Tryd.func98.trans (congrArg some (by kernel_rfl))
  f338 := Tryd.func99.trans (congrArg some (by kernel_rfl))
  t0 := Tryd.underlying0
  a0 := Tryd.isAgg0
  z0 := Tryd.sizeOf0
  v0 := Tryd.zeroValue0
  t2 := Tryd.underlying2
  a2 := Tryd.isAgg2
  z2 := Tryd.sizeOf2
  v2 := Tryd.zeroValue2
  t3 := Tryd.underlying3
  a3 := Tryd.isAgg3
  z3 := Tryd.sizeOf3
  v3 := Tryd.zeroValue3
  t4 := Tryd.underlying4
  a4 := Tryd.isAgg4
  z4 := Tryd.sizeOf4
  v4 := Tryd.zeroValue4
  t5 := Tryd.underlying5
  a5 := Tryd.isAgg5
  z5 := Tryd.sizeOf5
  v5 := Tryd.zeroValue5
  t9 := Tryd.underlying9
  a9 := Tryd.isAgg9
  z9 := Tryd.sizeOf9
  v9 := Tryd.zeroValue9
  t20 := Tryd.underlying20
  a20 := Tryd.isAgg20
  z20 := Tryd.sizeOf20
  v20 := Tryd.zeroValue20
  t37 := Tryd.underlying56
  a37 := Tryd.isAgg56
  z37 := Tryd.sizeOf56
  v37 := Tryd.zeroValue56
  t46 := Tryd.underlying69
  a46 := Tryd.isAgg69
  z46 := Tryd.sizeOf69
  v46 := Tryd.zeroValue69
  t51 := Tryd.underlying87
  a51 := Tryd.isAgg87
  z51 := Tryd.sizeOf87
  v51 := Tryd.zeroValue87
  t53 := Tryd.underlying89
  a53 := Tryd.isAgg89
  z53 := Tryd.sizeOf89
  v53 := Tryd.zeroValue89
  t171 := Tryd.underlying106
  a171 := Tryd.isAgg106
  z171 := Tryd.sizeOf106
  v171 := Tryd.zeroValue106
  t173 := Tryd.underlying108
  a173 := Tryd.isAgg108
  z173 := Tryd.sizeOf108
  v173 := Tryd.zeroValue108
  t212 := Tryd.underlying115
  a212 := Tryd.isAgg115
  z212 := Tryd.sizeOf115
  v212 := Tryd.zeroValue115
  t213 := Tryd.underlying116
  a213 := Tryd.isAgg116
  z213 := Tryd.sizeOf116
  t232 := Tryd.underlying121
  a232 := Tryd.isAgg121
  z232 := Tryd.sizeOf121
  v232 := Tryd.zeroValue121
  t233 := Tryd.underlying122
  a233 := Tryd.isAgg122
  z233 := Tryd.sizeOf122
  v233 := Tryd.zeroValue122
  g17 := by kernel_rfl
  g18 := by kernel_rfl
  g19 := by kernel_rfl
  i0 := by kernel_rfl
  i2 := by kernel_rfl
  i3 := by kernel_rfl
  i4 := by kernel_rfl
  i5 := by kernel_rfl
  i9 := by kernel_rfl
  i20 := by kernel_rfl
  i37 := by kernel_rfl
  i46 := by kernel_rfl
  i51 := by kernel_rfl
  i53 := by kernel_rfl
  i171 := by kernel_rfl
  i173 := by kernel_rfl
  i212 := by kernel_rfl
  i232 := by kernel_rfl
  i233 := by kernel_rfl
  m17 := by kernel_rfl
  m18 := by kernel_rfl
  m19 := by kernel_rfl }
open Go.RowKit Go.Sort Go.Lib in
/-- A number in decimal digits. -/
theorem Tryd.strconv_Itoa (n : Int) (h0 : -9223372036854775808 ≤ n) (h1 : n ≤ 9223372036854775807) (w : World) (htab : Lib.TabIs Tryd.prog w "internal/strconv.uint64pow10" .u64 Lib.pow10Tab) :
    Calls Tryd.prog 38 #[.int .i64 n] w fun e w' => e = .returned (.string ⟨(Lib.itoa n).toArray⟩) ∧ ∃ k os, w' = grow (w.drewN k) os := Any.strconv_Itoa Tryd.laysItoa n h0 h1 w htab
def Tryd.laysKeys_ren : Go.Shelf.Ren := ⟨fun | 7 => 51 | 10 => 71 | n => n, fun | 23 => 49 | 26 => 9 | 3 => 22 | 28 => 74 | 0 => 0 | 27 => 73 | 33 => 45 | 4 => 4 | n => n, fun | n => n⟩
theorem Tryd.laysKeys : Go.Proofs.SlLaysZ.n7 Tryd.prog Tryd.laysKeys_ren := {
  mixed := by kernel_rfl
  f7 := ⟨Tryd.f51.name, by decide, Tryd.func51.trans (congrArg some (by kernel_rfl))⟩
  f10 := ⟨Tryd.f71.name, by decide, Tryd.func71.trans (congrArg some (by kernel_rfl))⟩
  t0 := Tryd.underlying0
  a0 := Tryd.isAgg0
  z0 := Tryd.sizeOf0
  v0 := Tryd.zeroValue0
  t4 := Tryd.underlying4
  a4 := Tryd.isAgg4
  z4 := Tryd.sizeOf4
  v4 := Tryd.zeroValue4
  t23 := Tryd.underlying49
  a23 := Tryd.isAgg49
  z23 := Tryd.sizeOf49
  v23 := Tryd.zeroValue49
  t26 := Tryd.underlying9
  a26 := Tryd.isAgg9
  z26 := Tryd.sizeOf9
  v26 := Tryd.zeroValue9
  t27 := Tryd.underlying73
  a27 := Tryd.isAgg73
  z27 := Tryd.sizeOf73
  v27 := Tryd.zeroValue73
  t28 := Tryd.underlying74
  a28 := Tryd.isAgg74
  z28 := Tryd.sizeOf74
  v28 := Tryd.zeroValue74
  t33 := Tryd.underlying45
  a33 := Tryd.isAgg45
  z33 := Tryd.sizeOf45
  v33 := Tryd.zeroValue45 }
def Tryd.laysSorted_ren : Go.Shelf.Ren := ⟨fun | 6 => 50 | 8 => 70 | 9 => 31 | 11 => 83 | 13 => 44 | 12 => 43 | 23 => 63 | 24 => 64 | 14 => 54 | 15 => 55 | 16 => 56 | 17 => 57 | 18 => 58 | 19 => 59 | 20 => 60 | 21 => 61 | 22 => 62 | 25 => 74 | 26 => 75 | 27 => 76 | 28 => 77 | 29 => 78 | 30 => 79 | 31 => 88 | n => n, fun | 26 => 9 | 28 => 74 | 24 => 22 | 0 => 0 | 3 => 3 | 37 => 69 | 48 => 87 | 50 => 89 | 4 => 4 | 40 => 79 | 39 => 78 | 45 => 84 | 5 => 5 | 9 => 9 | 51 => 96 | 55 => 100 | 57 => 110 | 58 => 111 | 33 => 45 | n => n, fun | n => n⟩
theorem Tryd.laysSorted : Go.Proofs.SlLaysZ.n6 Tryd.prog Tryd.laysSorted_ren := {
  mixed := by kernel_rfl
  f6 := ⟨Tryd.f50.name, by decide, Tryd.func50.trans (congrArg some (by kernel_rfl))⟩
  f8 := ⟨Tryd.f70.name, by decide, Tryd.func70.trans (congrArg some (by kernel_rfl))⟩
  f11 := ⟨Tryd.f83.name, by decide, Tryd.func83.trans (congrArg some (by kernel_rfl))⟩
  t0 := Tryd.underlying0
  a0 := Tryd.isAgg0
  z0 := Tryd.sizeOf0
  v0 := Tryd.zeroValue0
  t24 := Tryd.underlying22
  a24 := Tryd.isAgg22
  z24 := Tryd.sizeOf22
  v24 := Tryd.zeroValue22
  t26 := Tryd.underlying9
  a26 := Tryd.isAgg9
  z26 := Tryd.sizeOf9
  v26 := Tryd.zeroValue9
  t28 := Tryd.underlying74
  a28 := Tryd.isAgg74
  z28 := Tryd.sizeOf74
  v28 := Tryd.zeroValue74
  i26 := by kernel_rfl }
def Tryd.laysSort_ren : Go.Shelf.Ren := ⟨fun | 6 => 31 | 8 => 44 | 9 => 43 | 19 => 63 | 20 => 64 | 21 => 54 | 22 => 55 | 23 => 56 | 24 => 57 | 25 => 58 | 26 => 59 | 27 => 60 | 28 => 61 | 29 => 62 | 36 => 74 | 31 => 75 | 32 => 76 | 37 => 77 | 38 => 78 | 39 => 79 | 41 => 88 | n => n, fun | 27 => 22 | 29 => 9 | 3 => 3 | 32 => 69 | 26 => 22 | 0 => 0 | 44 => 87 | 46 => 89 | 4 => 4 | 36 => 79 | 35 => 78 | 41 => 84 | 5 => 5 | 9 => 9 | 53 => 96 | 57 => 100 | 63 => 110 | 64 => 111 | n => n, fun | n => n⟩
theorem Tryd.laysSort : Go.Proofs.SlLaysM.n6 Tryd.prog Tryd.laysSort_ren := {
  mixed := by kernel_rfl
  f6 := ⟨Tryd.f31.name, by decide, Tryd.func31.trans (congrArg some (by kernel_rfl))⟩
  f8 := Tryd.func44.trans (congrArg some (by kernel_rfl))
  f9 := ⟨Tryd.f43.name, by decide, Tryd.func43.trans (congrArg some (by kernel_rfl))⟩
  f19 := Tryd.func63.trans (congrArg some (by kernel_rfl))
  f20 := Tryd.func64.trans (congrArg some (by kernel_rfl))
  f21 := ⟨Tryd.f54.name, by decide, Tryd.func54.trans (congrArg some (by kernel_rfl))⟩
  f22 := ⟨Tryd.f55.name, by decide, Tryd.func55.trans (congrArg some (by kernel_rfl))⟩
  f23 := ⟨Tryd.f56.name, by decide, Tryd.func56.trans (congrArg some (by kernel_rfl))⟩
  f24 := ⟨Tryd.f57.name, by decide, Tryd.func57.trans (congrArg some (by kernel_rfl))⟩
  f25 := ⟨Tryd.f58.name, by decide, Tryd.func58.trans (congrArg some (by kernel_rfl))⟩
  f26 := ⟨Tryd.f59.name, by decide, Tryd.func59.trans (congrArg some (by kernel_rfl))⟩
  f27 := ⟨Tryd.f60.name, by decide, Tryd.func60.trans (congrArg some (by kernel_rfl))⟩
  f28 := ⟨Tryd.f61.name, by decide, Tryd.func61.trans (congrArg some (by kernel_rfl))⟩
  f29 := ⟨Tryd.f62.name, by decide, Tryd.func62.trans (congrArg some (by kernel_rfl))⟩
  f31 := Tryd.func75.trans (congrArg some (by kernel_rfl))
  f32 := Tryd.func76.trans (congrArg some (by kernel_rfl))
  f36 := ⟨Tryd.f74.name, by decide, Tryd.func74.trans (congrArg some (by kernel_rfl))⟩
  f37 := ⟨Tryd.f77.name, by decide, Tryd.func77.trans (congrArg some (by kernel_rfl))⟩
  f38 := ⟨Tryd.f78.name, by decide, Tryd.func78.trans (congrArg some (by kernel_rfl))⟩
  f39 := ⟨Tryd.f79.name, by decide, Tryd.func79.trans (congrArg some (by kernel_rfl))⟩
  f41 := ⟨Tryd.f88.name, by decide, Tryd.func88.trans (congrArg some (by kernel_rfl))⟩
  t0 := Tryd.underlying0
  a0 := Tryd.isAgg0
  z0 := Tryd.sizeOf0
  v0 := Tryd.zeroValue0
  t3 := Tryd.underlying3
  a3 := Tryd.isAgg3
  z3 := Tryd.sizeOf3
  v3 := Tryd.zeroValue3
  t4 := Tryd.underlying4
  a4 := Tryd.isAgg4
  z4 := Tryd.sizeOf4
  v4 := Tryd.zeroValue4
  t5 := Tryd.underlying5
  a5 := Tryd.isAgg5
  z5 := Tryd.sizeOf5
  v5 := Tryd.zeroValue5
  t9 := Tryd.underlying9
  a9 := Tryd.isAgg9
  z9 := Tryd.sizeOf9
  v9 := Tryd.zeroValue9
  t26 := Tryd.underlying22
  a26 := Tryd.isAgg22
  z26 := Tryd.sizeOf22
  v26 := Tryd.zeroValue22
  t27 := Tryd.underlying22
  a27 := Tryd.isAgg22
  z27 := Tryd.sizeOf22
  v27 := Tryd.zeroValue22
  t29 := Tryd.underlying9
  a29 := Tryd.isAgg9
  z29 := Tryd.sizeOf9
  v29 := Tryd.zeroValue9
  t32 := Tryd.underlying69
  a32 := Tryd.isAgg69
  z32 := Tryd.sizeOf69
  v32 := Tryd.zeroValue69
  t35 := Tryd.underlying78
  a35 := Tryd.isAgg78
  z35 := Tryd.sizeOf78
  v35 := Tryd.zeroValue78
  t36 := Tryd.underlying79
  a36 := Tryd.isAgg79
  z36 := Tryd.sizeOf79
  v36 := Tryd.zeroValue79
  t41 := Tryd.underlying84
  a41 := Tryd.isAgg84
  z41 := Tryd.sizeOf84
  v41 := Tryd.zeroValue84
  t44 := Tryd.underlying87
  a44 := Tryd.isAgg87
  z44 := Tryd.sizeOf87
  v44 := Tryd.zeroValue87
  t46 := Tryd.underlying89
  a46 := Tryd.isAgg89
  z46 := Tryd.sizeOf89
  v46 := Tryd.zeroValue89
  t53 := Tryd.underlying96
  a53 := Tryd.isAgg96
  z53 := Tryd.sizeOf96
  v53 := Tryd.zeroValue96
  t57 := Tryd.underlying100
  a57 := Tryd.isAgg100
  z57 := Tryd.sizeOf100
  v57 := Tryd.zeroValue100
  t63 := Tryd.underlying110
  a63 := Tryd.isAgg110
  z63 := Tryd.sizeOf110
  v63 := Tryd.zeroValue110
  t64 := Tryd.underlying111
  a64 := Tryd.isAgg111
  z64 := Tryd.sizeOf111
  v64 := Tryd.zeroValue111 }
open Go.RowKit Go.Maps Go.Sort
/-- The two contracts of the sort. -/
theorem Tryd.sortsOf (m : Nat) : AnyZ.SortsIn Tryd.prog Tryd.laysSorted_ren Fence.wide m :=
  ⟨fun blk off cap ss W hH hblk hsz => callsIn_wide.2 (AnyM.slices_Sort_string Tryd.laysSort blk off cap ss W hH hblk hsz),
   fun p cap W => callsIn_wide.2 (AnyM.slices_Sort_string_none Tryd.laysSort p cap W)⟩

/-- The names of a map, as a row to come. -/
theorem Tryd.maps_Keys (mb : Option Nat) (W : World) : CallsIn Fence.wide 5 Tryd.prog 51 #[.map mb] W fun e w' => e = .returned (.func (.func 71) #[] #[.pointer (some ⟨W.heap.size, 0, none⟩)]) ∧ w' = W.alloc (.cells #[.map mb] 49) :=
  AnyZ.keys_in Tryd.laysKeys Fence.wide 5 trivial rfl mb W

set_option maxHeartbeats 1000000 in
/-- The names of a map, sorted. -/
theorem Tryd.slices_Sorted_keys {H : Type} (b nn : Nat) (D0 : DataW H) (R : Value → Option (DataW H × List MemPlace)) (w : World) (hown : w.ownsMap Tryd.prog 9 R b nn D0) (hmax : Maps.size D0 ≤ maxLen) (hbytes : Maps.size D0 * 16 ≤ 140737488355328) :
    CallsIn Fence.wide 5 Tryd.prog 50 #[.func (.func 71) #[] #[.pointer (some ⟨w.heap.size, 0, none⟩)]] (w.alloc (.cells #[.map (some b)] 49)) fun e w' => ∃ (v : Value) (ss : List (List UInt8)), e = .returned v ∧ ss.Perm (strKeys D0) ∧
      w'.ownsRow (w.alloc (.cells #[.map (some b)] 49)).heap.size 9 1 v ss.length ((ss.mergeSort (fun x y => decide (x ≤ y))).map encStr) ∧ (v = .slice none 0 0 ↔ ss = []) ∧ Below (w.alloc (.cells #[.map (some b)] 49)).heap.size (w.alloc (.cells #[.map (some b)] 49)) w' := by
  have hbl := hown.lt
  have hseq : SeqGives Fence.wide 2 Tryd.prog 71 #[.pointer (some ⟨w.heap.size, 0, none⟩)] encStr (fun ss => ss.Perm (strKeys D0)) (Maps.size D0) (w.alloc (.cells #[.map (some b)] 49)) :=
    AnyZ.keys_gives (ρ := Tryd.laysKeys_ren) { Tryd.laysKeys with } Fence.wide _ trivial rfl (by omega) w.heap.size b nn D0 _ (by simp) (by simp) (by
      obtain ⟨es, clock, hb, Ft, hs, hD⟩ := hown
      exact ⟨es, clock, (Below.heap_alloc _ _ b hbl).trans hb, Ft, hs, hD⟩)
  exact AnyZ.sorted_in Tryd.laysSorted Fence.wide 5 trivial trivial trivial trivial rfl (by omega) (Tryd.sortsOf _) (enters_of Tryd.func31 (by kernel_rfl) rfl) 71 #[.pointer (some ⟨w.heap.size, 0, none⟩)] trivial (enters_of Tryd.func71 (by kernel_rfl) rfl) _ _ hmax hbytes _ hseq

end Go.Proofs

/-
  Lines and texts as lists: which may be, how they are cut and put together, how many there are.
-/
namespace Go.Proofs.YtboffgmaohcpfaaDoor
open Go.RowKit

/-- Has the text a byte 10? -/
def hasEnd (s : ByteArray) : Bool := decide (0 ≤ Lib.indexByte s.data.toList 10)

/-- A line that may be. -/
def rightB (s : ByteArray) : Bool := decide (s.size ≤ 60) && !hasEnd s

def allB (l : List ByteArray) : Bool := l.all rightB

theorem hasEnd_no {s : ByteArray} (h : ∀ k : Nat, s.data.toList[k]? ≠ some 10) : hasEnd s = false := by
  unfold hasEnd
  rw [decide_eq_false_iff_not]
  intro h0
  obtain ⟨o, ho⟩ := Int.eq_ofNat_of_zero_le h0
  exact h o (Lib.indexByte_some ho).1

theorem hasEnd_yes {s : ByteArray} {k : Nat} (h : s.data.toList[k]? = some 10) : hasEnd s = true := by
  unfold hasEnd
  rw [decide_eq_true_eq]
  have := Lib.indexByte_ge s.data.toList 10
  by_cases hlt : Lib.indexByte s.data.toList 10 < 0
  · exact absurd h (Lib.indexByte_none (by omega) k)
  · omega

theorem allB_get {l : List ByteArray} {k : Nat} (hk : k < l.length) (h : rightB (l.getD k ByteArray.empty) = false) : allB l = false := by
  unfold allB
  rw [List.all_eq_false]
  refine ⟨l[k], List.getElem_mem hk, ?_⟩
  simp only [List.getD, List.getElem?_eq_getElem hk, Option.getD_some] at h
  simp [h]

theorem allB_all {l : List ByteArray} (h : ∀ k : Nat, k < l.length → rightB (l.getD k ByteArray.empty) = true) : allB l = true := by
  unfold allB
  rw [List.all_eq_true]
  intro x hx
  obtain ⟨k, hk, rfl⟩ := List.getElem_of_mem hx
  have := h k hk
  simpa [List.getD, List.getElem?_eq_getElem hk] using this

theorem extract_size (s : ByteArray) (a b : Nat) : (s.extract a b).size = min b s.size - a := by simp

theorem toList_isEmpty {s : ByteArray} (h : s.size ≠ 0) : s.toList.isEmpty = false := by
  rw [ByteArray.toList_eq]
  cases hl : s.data.toList with
  | nil =>
    have : s.data.toList.length = s.size := by simp
    rw [hl] at this; simp at this; omega
  | cons _ _ => rfl

/-- The lines so far, and what is left: f where the line at hand begins, k how far it is read. -/
def restL (s : ByteArray) (f k : Nat) : List ByteArray := (cutGo (((bytes s).drop f).take (k - f)) ((bytes s).drop k)).map txt

theorem restL_start (s : ByteArray) : restL s 0 0 = lines s := by simp [restL, lines]

theorem restL_end {s : ByteArray} {f k : Nat} (hk : k < s.size) (h : (bytes s)[k]? = some 10) : restL s f k = s.extract f k :: restL s (k + 1) (k + 1) := by
  unfold restL
  rw [List.drop_eq_getElem_cons (i := k) (by rw [bytes_length]; exact hk), extract_txt]
  rw [List.getElem?_eq_getElem (by rw [bytes_length]; exact hk)] at h
  injection h with h
  simp [cutGo, h]

theorem restL_on {s : ByteArray} {f k : Nat} (hk : k < s.size) (hf : f ≤ k) (h : (bytes s)[k]? ≠ some 10) : restL s f k = restL s f (k + 1) := by
  unfold restL
  rw [List.drop_eq_getElem_cons (i := k) (by rw [bytes_length]; exact hk)]
  rw [List.getElem?_eq_getElem (by rw [bytes_length]; exact hk)] at h
  have h' : (bytes s)[k]'(by rw [bytes_length]; exact hk) ≠ 10 := fun e => h (by rw [e])
  simp only [cutGo, if_neg h']
  congr 2
  rw [show k + 1 - f = (k - f) + 1 from by omega, List.take_succ_eq_append_getElem (by rw [List.length_drop, bytes_length]; omega), List.getElem_drop]
  congr 3
  omega

theorem restL_stop {s : ByteArray} {f : Nat} (hf : f < s.size) : restL s f s.size = [s.extract f s.size] := by
  unfold restL
  rw [List.drop_of_length_le (l := bytes s) (i := s.size) (by rw [bytes_length]; omega), extract_txt]
  have : ((bytes s).drop f).take (s.size - f) ≠ [] := by
    intro e
    have := congrArg List.length e
    rw [List.length_take, List.length_drop, bytes_length] at this
    simp at this; omega
  simp only [cutGo, if_neg this, List.map_cons, List.map_nil]

theorem restL_none {s : ByteArray} : restL s s.size s.size = [] := by
  unfold restL
  rw [List.drop_of_length_le (l := bytes s) (i := s.size) (by rw [bytes_length]; omega)]
  simp [cutGo]

/-- How many bytes the lines have in all. -/
def bulk (l : List ByteArray) : Nat := (l.map ByteArray.size).sum

theorem textL_length (l : List ByteArray) : (textL l).length = bulk l + l.length := by
  induction l with
  | nil => rfl
  | cons s l ih =>
    simp only [textL, bulk, List.flatMap_cons, List.length_append, List.map_cons, List.sum_cons, List.length_cons, List.length_nil] at ih ⊢
    rw [bytes_length]; omega

theorem textL_split (l : List ByteArray) (k : Nat) : textL l = textL (l.take k) ++ textL (l.drop k) := by
  rw [textL, textL, textL, ← List.flatMap_append, List.take_append_drop]

theorem textL_next {l : List ByteArray} {k : Nat} (hk : k < l.length) : textL (l.take (k + 1)) = textL (l.take k) ++ bytes (l.getD k ByteArray.empty) ++ [10] := by
  rw [List.take_succ_eq_append_getElem hk, textL_snoc]
  simp [List.getD, List.getElem?_eq_getElem hk]

theorem textL_room {l : List ByteArray} {k : Nat} (hk : k < l.length) : (textL (l.take k)).length + (l.getD k ByteArray.empty).size + 1 ≤ (textL l).length := by
  have h1 := congrArg List.length (textL_split l (k + 1))
  have h2 := congrArg List.length (textL_next hk)
  rw [List.length_append] at h1
  rw [List.length_append, List.length_append, bytes_length] at h2
  simp only [List.length_cons, List.length_nil] at h2
  omega

theorem text_step (a : List UInt8) (x : ByteArray) : txt a ++ x ++ ⟨#[10]⟩ = txt (a ++ bytes x ++ [10]) := by
  have h : ∀ p q : ByteArray, bytes p = bytes q → p = q := fun p q h => by rw [← txt_bytes p, h, txt_bytes]
  apply h
  rw [bytes_txt]
  unfold bytes txt
  simp [ByteArray.data_append]

/-- How many lines the first i rows have, and how many bytes. -/
def cnt (ss : Nat → List ByteArray) : Nat → Nat
  | 0 => 0
  | i + 1 => cnt ss i + (ss i).length

def blk (ss : Nat → List ByteArray) : Nat → Nat
  | 0 => 0
  | i + 1 => blk ss i + bulk (ss i)

theorem cnt_le {ss : Nat → List ByteArray} {n : Nat → Nat} {k : Nat} (hl : ∀ i, i < k → (ss i).length = n i) (hn : ∀ i, i < k → n i ≤ 140737488355328) (i : Nat) (hi : i ≤ k) : cnt ss i ≤ i * 140737488355328 := by
  induction i with
  | zero => simp [cnt]
  | succ i ih =>
    have h1 := ih (by omega)
    have h2 := hl i (by omega)
    have h3 := hn i (by omega)
    simp only [cnt]; omega

theorem bulk_take_succ {l : List ByteArray} {j : Nat} (h : j < l.length) : bulk (l.take (j + 1)) = bulk (l.take j) + (l.getD j ByteArray.empty).size := by
  rw [List.take_succ_eq_append_getElem h]
  simp only [bulk, List.map_append, List.sum_append, List.map_cons, List.map_nil, List.sum_cons, List.sum_nil, List.getD, List.getElem?_eq_getElem h, Option.getD_some, Nat.add_zero]

theorem bulk_take_le {l : List ByteArray} (h : ∀ s ∈ l, s.size ≤ 140737488355328) (j : Nat) (hj : j ≤ l.length) : bulk (l.take j) ≤ j * 140737488355328 := by
  induction j with
  | zero => simp [bulk]
  | succ j ih =>
    have hlt : j < l.length := by omega
    have h1 := ih (by omega)
    have h2 := h l[j] (List.getElem_mem hlt)
    rw [bulk_take_succ hlt]
    simp only [List.getD, List.getElem?_eq_getElem hlt, Option.getD_some]
    omega

theorem blk_le {ss : Nat → List ByteArray} {k : Nat} (h : ∀ i, i < k → ∀ s ∈ ss i, s.size ≤ 140737488355328) (i : Nat) (hi : i ≤ k) : blk ss i ≤ cnt ss i * 140737488355328 := by
  induction i with
  | zero => simp [blk]
  | succ i ih =>
    have h1 := ih (by omega)
    have h2 := bulk_take_le (h i (by omega)) (ss i).length (Nat.le_refl _)
    rw [List.take_length] at h2
    simp only [blk, cnt]
    omega

/-- None of the first k lines has a byte 10. -/
def wholeB (xs : List ByteArray) (k : Nat) : Bool := (xs.take k).all fun x => !hasEnd x

theorem wholeB_succ {xs : List ByteArray} {k : Nat} (h : k < xs.length) : wholeB xs (k + 1) = (wholeB xs k && !hasEnd (xs.getD k ByteArray.empty)) := by
  unfold wholeB
  rw [List.take_succ_eq_append_getElem h, List.all_append]
  simp [List.getD, List.getElem?_eq_getElem h]

theorem wholeB_lines {xs : List ByteArray} {k : Nat} (hk : xs.length ≤ k) (h : wholeB xs k = true) : lines (txt (textL xs)) = xs := by
  refine lines_textL xs fun s hs c hc => ?_
  unfold wholeB at h
  rw [List.take_of_length_le hk] at h
  have h1 := List.all_eq_true.1 h s hs
  intro e
  subst e
  obtain ⟨i, hi, hg⟩ := List.getElem_of_mem hc
  have := hasEnd_yes (s := s) (k := i) (by unfold bytes at hi hg; rw [List.getElem?_eq_getElem hi, hg])
  rw [this] at h1
  cases h1

theorem suffix_ten (s : ByteArray) (h0 : s.size ≠ 0) : Lib.hasSuffix s.data.toList [10] = decide ((bytes s).getLast? = some 10) := by
  have hne : bytes s ≠ [] := by
    intro e
    have := bytes_length s
    rw [e] at this; simp at this; omega
  unfold Lib.hasSuffix
  show List.isSuffixOf [10] (bytes s) = _
  generalize bytes s = l at hne
  rw [Bool.eq_iff_iff, List.isSuffixOf_iff_suffix, decide_eq_true_eq]
  constructor
  · rintro ⟨t, rfl⟩
    simp
  · intro h
    exact ⟨l.dropLast, by rw [List.getLast?_eq_some_getLast hne] at h; injection h with h; rw [← h]; exact List.dropLast_concat_getLast hne⟩

theorem ended_same {s : ByteArray} (h : s.size = 0 ∨ Lib.hasSuffix s.data.toList [10] = true) : txt (textL (lines s)) = s := by
  rw [textL_lines]
  unfold ended
  have : bytes s = [] ∨ (bytes s).getLast? = some 10 := by
    by_cases h0 : s.size = 0
    · left; exact List.eq_nil_of_length_eq_zero (by rw [bytes_length]; exact h0)
    · right
      rcases h with h | h
      · exact absurd h h0
      · rw [suffix_ten s h0] at h
        simpa using h
  rw [if_pos this, List.append_nil, txt_bytes]

theorem ended_more {s : ByteArray} (h0 : s.size ≠ 0) (h : Lib.hasSuffix s.data.toList [10] = false) : txt (textL (lines s)) = s ++ ⟨#[10]⟩ := by
  rw [textL_lines]
  unfold ended
  have hn : ¬ (bytes s = [] ∨ (bytes s).getLast? = some 10) := by
    rintro (h1 | h1)
    · have := bytes_length s
      rw [h1] at this; simp at this; omega
    · rw [suffix_ten s h0, h1] at h
      simp at h
  rw [if_neg hn]
  have := text_step (bytes s) ⟨#[]⟩
  rw [txt_bytes] at this
  have e : s ++ (⟨#[]⟩ : ByteArray) = s := by
    have h : ∀ p q : ByteArray, bytes p = bytes q → p = q := fun p q h => by rw [← txt_bytes p, h, txt_bytes]
    apply h; unfold bytes; simp [ByteArray.data_append]
  rw [e] at this
  rw [this]
  simp [bytes]

/-- How a text ends, and what it is with a byte 10 at its end. -/
def Wants (s want : ByteArray) : Prop :=
  txt (textL (lines s)) = want ∧ ((s = ⟨#[]⟩ ∧ want = s) ∨ (s.toList.isEmpty = false ∧ Lib.hasSuffix s.data.toList [10] = true ∧ want = s) ∨ (s.toList.isEmpty = false ∧ Lib.hasSuffix s.data.toList [10] = false ∧ want = s ++ ⟨#[10]⟩))

theorem wants_any (s : ByteArray) : ∃ want, Wants s want := by
  by_cases h0 : s.size = 0
  · have er : s = ⟨#[]⟩ := by
      have := txt_bytes s
      rw [List.eq_nil_of_length_eq_zero (l := bytes s) (by rw [bytes_length]; exact h0)] at this
      exact this.symm
    exact ⟨s, ended_same (.inl h0), .inl ⟨er, rfl⟩⟩
  · have he := toList_isEmpty h0
    cases hsf : Lib.hasSuffix s.data.toList [10]
    · exact ⟨_, ended_more h0 hsf, .inr (.inr ⟨he, hsf, rfl⟩)⟩
    · exact ⟨s, ended_same (.inr hsf), .inr (.inl ⟨he, hsf, rfl⟩)⟩

/-- How many bytes 10 a text has, how many lines, and how it ends. -/
def Ends3 (s : ByteArray) (cn ln : Nat) : Prop :=
  (s = ⟨#[]⟩ ∧ ln = cn) ∨ (s.toList.isEmpty = false ∧ Lib.hasSuffix s.data.toList [10] = true ∧ ln = cn) ∨ (s.toList.isEmpty = false ∧ Lib.hasSuffix s.data.toList [10] = false ∧ ln = cn + 1)

theorem ends3_any (s : ByteArray) : Ends3 s (Lib.countByte s.data.toList 10) (lines s).length := by
  have hl := lines_count s
  have hcb : Lib.countByte s.data.toList 10 = (bytes s).count 10 := rfl
  rw [← hcb] at hl
  by_cases h0 : s.size = 0
  · have eb : bytes s = [] := List.eq_nil_of_length_eq_zero (by rw [bytes_length]; exact h0)
    have er : s = ⟨#[]⟩ := by
      have := txt_bytes s
      rw [eb] at this
      exact this.symm
    exact .inl ⟨er, by rw [hl, if_pos (.inl eb)]; rfl⟩
  · have he := toList_isEmpty h0
    have hne : bytes s ≠ [] := by
      intro e
      have := bytes_length s
      rw [e] at this; simp at this; omega
    have hsf := suffix_ten s h0
    by_cases hlast : (bytes s).getLast? = some 10
    · exact .inr (.inl ⟨he, by rw [hsf]; simpa using hlast, by rw [hl, if_pos (.inr hlast)]; rfl⟩)
    · exact .inr (.inr ⟨he, by rw [hsf]; simpa using hlast, by rw [hl, if_neg (by rintro (h | h) <;> contradiction)]⟩)

theorem countByte_le (s : ByteArray) : Lib.countByte s.data.toList 10 ≤ s.size := by
  have : Lib.countByte s.data.toList 10 ≤ s.data.toList.length := List.count_le_length
  simpa using this

end Go.Proofs.YtboffgmaohcpfaaDoor
