import Derived.Shelf.Strings.Builder1
import Derived.Test.YtnhhdjcbifmfgaaDoorChecked
import Derived.Shelf.Strings.BuilderK
import Derived.Shelf.LaysM
import Derived.Ground.GgzProg
import Derived.Ground.SlgmProg
import Derived.Shelf.SlIter.Nil
import Derived.Shelf.SortM.Plain
import Derived.Shelf.SortM.SortNone
import Derived.Test.YtnhhdjcbifmfgaaDoorProg
import Derived.Shelf.Strconv.Itoa3
import Derived.WalkKit
import Derived.WalkSpells
import Derived.Deep.Draws
import Derived.Maps.AppendAt
import Derived.Laws.MakeOwn
import Derived.Below

/-
  What calls of the library come to, laid at this program: A builder: written into, and told as a text.
-/
namespace Go.Proofs
open Go.Shelf
def Tryd.lays169_ren : Go.Shelf.Ren := ⟨fun | 169 => 30 | n => n, fun | 70 => 52 | 9 => 9 | 0 => 0 | 72 => 55 | 37 => 53 | 127 => 71 | 3 => 3 | 5 => 5 | n => n, fun | n => n⟩
theorem Tryd.lays169 : Go.Proofs.Lays.n169 Tryd.prog Tryd.lays169_ren := {
  mixed := by kernel_rfl
  f169 := Tryd.func30.trans (congrArg some (by kernel_rfl))
  t0 := Tryd.underlying0
  a0 := Tryd.isAgg0
  z0 := Tryd.sizeOf0
  v0 := Tryd.zeroValue0
  t3 := Tryd.underlying3
  a3 := Tryd.isAgg3
  z3 := Tryd.sizeOf3
  v3 := Tryd.zeroValue3
  t9 := Tryd.underlying9
  a9 := Tryd.isAgg9
  z9 := Tryd.sizeOf9
  v9 := Tryd.zeroValue9
  t37 := Tryd.underlying53
  a37 := Tryd.isAgg53
  z37 := Tryd.sizeOf53
  v37 := Tryd.zeroValue53
  t70 := Tryd.underlying52
  a70 := Tryd.isAgg52
  z70 := Tryd.sizeOf52
  v70 := Tryd.zeroValue52
  t72 := Tryd.underlying55
  a72 := Tryd.isAgg55
  z72 := Tryd.sizeOf55
  v72 := Tryd.zeroValue55
  t127 := Tryd.underlying71
  a127 := Tryd.isAgg71
  z127 := Tryd.sizeOf71
  v127 := Tryd.zeroValue71 }
theorem Tryd.Builder_Extra_169 : Builder.Extra Tryd.prog Tryd.lays169_ren := {
  sizeBuilder := by kernel_rfl
  liesBuilder := by kernel_rfl
  t5 := Tryd.underlying5
  a5 := Tryd.isAgg5
  z5 := Tryd.sizeOf5
  v5 := Tryd.zeroValue5
  infoByte := by kernel_rfl
  cellsByte := by kernel_rfl
  sizeByte := by kernel_rfl
  neB5 := by decide }
open Go.RowKit in
theorem Tryd.Builder_String_any (B b : Nat) (l : List UInt8) (w : World) (h : Lib.IsBuilder 55 5 B b (Lib.byteCells l) w) (hBw : B ≤ w.heap.size) :
    Calls Tryd.prog 30 #[.pointer (some ⟨b, 0, none⟩)] w fun e w' => e = .returned (.string ⟨l.toArray⟩) ∧ Below B w w' := Any.Builder_String_any Tryd.lays169 Tryd.Builder_Extra_169 B b l w h hBw
def Tryd.lays166_ren : Go.Shelf.Ren := ⟨fun | 166 => 27 | 240 => 44 | 276 => 56 | n => n, fun | 0 => 0 | 3 => 3 | 4 => 4 | 5 => 5 | 9 => 9 | 20 => 20 | 37 => 53 | 70 => 52 | 72 => 55 | 75 => 58 | 80 => 38 | 164 => 79 | n => n, fun | n => n⟩
theorem Tryd.lays166 : Go.Proofs.Lays.n166 Tryd.prog Tryd.lays166_ren := {
  mixed := by kernel_rfl
  f166 := Tryd.func27.trans (congrArg some (by kernel_rfl))
  f240 := Tryd.func44.trans (congrArg some (by kernel_rfl))
  f276 := Tryd.func56.trans (congrArg some (by kernel_rfl))
  t0 := Tryd.underlying0
  a0 := Tryd.isAgg0
  z0 := Tryd.sizeOf0
  v0 := Tryd.zeroValue0
  t3 := Tryd.underlying3
  a3 := Tryd.isAgg3
  z3 := Tryd.sizeOf3
  v3 := Tryd.zeroValue3
  t4 := Tryd.underlying4
  a4 := Tryd.isAgg4
  z4 := Tryd.sizeOf4
  v4 := Tryd.zeroValue4
  t9 := Tryd.underlying9
  a9 := Tryd.isAgg9
  z9 := Tryd.sizeOf9
  v9 := Tryd.zeroValue9
  t20 := Tryd.underlying20
  a20 := Tryd.isAgg20
  z20 := Tryd.sizeOf20
  v20 := Tryd.zeroValue20
  t37 := Tryd.underlying53
  a37 := Tryd.isAgg53
  z37 := Tryd.sizeOf53
  v37 := Tryd.zeroValue53
  t70 := Tryd.underlying52
  a70 := Tryd.isAgg52
  z70 := Tryd.sizeOf52
  v70 := Tryd.zeroValue52
  t72 := Tryd.underlying55
  a72 := Tryd.isAgg55
  z72 := Tryd.sizeOf55
  v72 := Tryd.zeroValue55
  t75 := Tryd.underlying58
  a75 := Tryd.isAgg58
  z75 := Tryd.sizeOf58
  v75 := Tryd.zeroValue58
  t164 := Tryd.underlying79
  a164 := Tryd.isAgg79
  z164 := Tryd.sizeOf79
  v164 := Tryd.zeroValue79 }
theorem Tryd.Builder_Extra_166 : Builder.Extra Tryd.prog Tryd.lays166_ren := {
  sizeBuilder := by kernel_rfl
  liesBuilder := by kernel_rfl
  t5 := Tryd.underlying5
  a5 := Tryd.isAgg5
  z5 := Tryd.sizeOf5
  v5 := Tryd.zeroValue5
  infoByte := by kernel_rfl
  cellsByte := by kernel_rfl
  sizeByte := by kernel_rfl
  neB5 := by decide }
open Go.RowKit in
theorem Tryd.Builder_WriteString (B b : Nat) (bs : List Value) (s : ByteArray) (w : World) (h : Lib.IsBuilder 55 5 B b bs w) (hlen : bs.length + s.size ≤ 140737488355328) (hBw : B ≤ w.heap.size) :
    Calls Tryd.prog 27 #[.pointer (some ⟨b, 0, none⟩), .string s] w fun e w' => e = .returned (.tuple #[.int .i64 s.size, .nilIface]) ∧ (Lib.BuilderAt 55 5 B b (.pointer (some ⟨b, 0, none⟩)) (bs ++ Lib.strCells s) w' ∧ Below B w w') := Any.Builder_WriteString Tryd.lays166 Tryd.Builder_Extra_166 B b bs s w h hlen hBw
end Go.Proofs

/-
  What calls of the library come to, laid at this program: a builder, beside which other rows are kept.
-/
namespace Go.Proofs
open Go.Shelf Go.RowKit
theorem Tryd.Builder_WriteString_k (B b : Nat) (bs : List Value) (s : ByteArray) (w : World) (h : Lib.IsBuilderF 55 5 B b bs w) (hlen : bs.length + s.size ≤ 140737488355328) (hBw : B ≤ w.heap.size) :
    Calls Tryd.prog 27 #[.pointer (some ⟨b, 0, none⟩), .string s] w fun e w' => e = .returned (.tuple #[.int .i64 s.size, .nilIface]) ∧ (Lib.BuilderAtF 55 5 B b (.pointer (some ⟨b, 0, none⟩)) (bs ++ Lib.strCells s) w' ∧ Below B w w' ∧ Lib.OthersKept 5 (some b) w w') := Any.Builder_WriteString_k Tryd.lays166 Tryd.Builder_Extra_166 B b bs s w h hlen hBw
theorem Tryd.Builder_String_any_k (B b : Nat) (l : List UInt8) (w : World) (h : Lib.IsBuilderF 55 5 B b (Lib.byteCells l) w) (hBw : B ≤ w.heap.size) :
    Calls Tryd.prog 30 #[.pointer (some ⟨b, 0, none⟩)] w fun e w' => e = .returned (.string ⟨l.toArray⟩) ∧ (Lib.IsBuilderF 55 5 B b (Lib.byteCells l) w' ∧ Below B w w' ∧ Lib.OthersKept 5 (some b) w w') := Any.Builder_String_any_k Tryd.lays169 Tryd.Builder_Extra_169 B b l w h hBw
end Go.Proofs

/-
  What calls of the library come to, laid at this program: the names of a map, sorted.
-/
namespace Go.Proofs
open Go.Shelf
def Tryd.laysKeys_ren : Go.Shelf.Ren := ⟨fun | 7 => 43 | 10 => 55 | n => n, fun | 23 => 46 | 26 => 9 | 3 => 22 | 28 => 69 | 0 => 0 | 27 => 68 | 33 => 39 | 4 => 4 | n => n, fun | n => n⟩
theorem Tryd.laysKeys : Go.Proofs.SlLaysZ.n7 Tryd.prog Tryd.laysKeys_ren := {
  mixed := by kernel_rfl
  f7 := ⟨Tryd.f43.name, by decide, Tryd.func43.trans (congrArg some (by kernel_rfl))⟩
  f10 := ⟨Tryd.f55.name, by decide, Tryd.func55.trans (congrArg some (by kernel_rfl))⟩
  t0 := Tryd.underlying0
  a0 := Tryd.isAgg0
  z0 := Tryd.sizeOf0
  v0 := Tryd.zeroValue0
  t4 := Tryd.underlying4
  a4 := Tryd.isAgg4
  z4 := Tryd.sizeOf4
  v4 := Tryd.zeroValue4
  t23 := Tryd.underlying46
  a23 := Tryd.isAgg46
  z23 := Tryd.sizeOf46
  v23 := Tryd.zeroValue46
  t26 := Tryd.underlying9
  a26 := Tryd.isAgg9
  z26 := Tryd.sizeOf9
  v26 := Tryd.zeroValue9
  t27 := Tryd.underlying68
  a27 := Tryd.isAgg68
  z27 := Tryd.sizeOf68
  v27 := Tryd.zeroValue68
  t28 := Tryd.underlying69
  a28 := Tryd.isAgg69
  z28 := Tryd.sizeOf69
  v28 := Tryd.zeroValue69
  t33 := Tryd.underlying39
  a33 := Tryd.isAgg39
  z33 := Tryd.sizeOf39
  v33 := Tryd.zeroValue39 }
def Tryd.laysSorted_ren : Go.Shelf.Ren := ⟨fun | 6 => 42 | 8 => 54 | 9 => 32 | 11 => 72 | 13 => 47 | 12 => 46 | 23 => 67 | 24 => 68 | 14 => 58 | 15 => 59 | 16 => 60 | 17 => 61 | 18 => 62 | 19 => 63 | 20 => 64 | 21 => 65 | 22 => 66 | 25 => 77 | 26 => 78 | 27 => 79 | 28 => 80 | 29 => 81 | 30 => 82 | 31 => 88 | n => n, fun | 26 => 9 | 28 => 69 | 24 => 22 | 0 => 0 | 3 => 3 | 37 => 74 | 48 => 91 | 50 => 93 | 4 => 4 | 40 => 84 | 39 => 83 | 45 => 88 | 5 => 5 | 9 => 9 | 51 => 102 | 55 => 106 | 57 => 113 | 58 => 114 | 33 => 39 | n => n, fun | n => n⟩
theorem Tryd.laysSorted : Go.Proofs.SlLaysZ.n6 Tryd.prog Tryd.laysSorted_ren := {
  mixed := by kernel_rfl
  f6 := ⟨Tryd.f42.name, by decide, Tryd.func42.trans (congrArg some (by kernel_rfl))⟩
  f8 := ⟨Tryd.f54.name, by decide, Tryd.func54.trans (congrArg some (by kernel_rfl))⟩
  f11 := ⟨Tryd.f72.name, by decide, Tryd.func72.trans (congrArg some (by kernel_rfl))⟩
  t0 := Tryd.underlying0
  a0 := Tryd.isAgg0
  z0 := Tryd.sizeOf0
  v0 := Tryd.zeroValue0
  t24 := Tryd.underlying22
  a24 := Tryd.isAgg22
  z24 := Tryd.sizeOf22
  v24 := Tryd.zeroValue22
  t26 := Tryd.underlying9
  a26 := Tryd.isAgg9
  z26 := Tryd.sizeOf9
  v26 := Tryd.zeroValue9
  t28 := Tryd.underlying69
  a28 := Tryd.isAgg69
  z28 := Tryd.sizeOf69
  v28 := Tryd.zeroValue69
  i26 := by kernel_rfl }
def Tryd.laysSort_ren : Go.Shelf.Ren := ⟨fun | 6 => 32 | 8 => 47 | 9 => 46 | 19 => 67 | 20 => 68 | 21 => 58 | 22 => 59 | 23 => 60 | 24 => 61 | 25 => 62 | 26 => 63 | 27 => 64 | 28 => 65 | 29 => 66 | 36 => 77 | 31 => 78 | 32 => 79 | 37 => 80 | 38 => 81 | 39 => 82 | 41 => 88 | n => n, fun | 27 => 22 | 29 => 9 | 3 => 3 | 32 => 74 | 26 => 22 | 0 => 0 | 44 => 91 | 46 => 93 | 4 => 4 | 36 => 84 | 35 => 83 | 41 => 88 | 5 => 5 | 9 => 9 | 53 => 102 | 57 => 106 | 63 => 113 | 64 => 114 | n => n, fun | n => n⟩
theorem Tryd.laysSort : Go.Proofs.SlLaysM.n6 Tryd.prog Tryd.laysSort_ren := {
  mixed := by kernel_rfl
  f6 := ⟨Tryd.f32.name, by decide, Tryd.func32.trans (congrArg some (by kernel_rfl))⟩
  f8 := Tryd.func47.trans (congrArg some (by kernel_rfl))
  f9 := ⟨Tryd.f46.name, by decide, Tryd.func46.trans (congrArg some (by kernel_rfl))⟩
  f19 := Tryd.func67.trans (congrArg some (by kernel_rfl))
  f20 := Tryd.func68.trans (congrArg some (by kernel_rfl))
  f21 := ⟨Tryd.f58.name, by decide, Tryd.func58.trans (congrArg some (by kernel_rfl))⟩
  f22 := ⟨Tryd.f59.name, by decide, Tryd.func59.trans (congrArg some (by kernel_rfl))⟩
  f23 := ⟨Tryd.f60.name, by decide, Tryd.func60.trans (congrArg some (by kernel_rfl))⟩
  f24 := ⟨Tryd.f61.name, by decide, Tryd.func61.trans (congrArg some (by kernel_rfl))⟩
  f25 := ⟨Tryd.f62.name, by decide, Tryd.func62.trans (congrArg some (by kernel_rfl))⟩
  f26 := ⟨Tryd.f63.name, by decide, Tryd.func63.trans (congrArg some (by kernel_rfl))⟩
  f27 := ⟨Tryd.f64.name, by decide, Tryd.func64.trans (congrArg some (by kernel_rfl))⟩
  f28 := ⟨Tryd.f65.name, by decide, Tryd.func65.trans (congrArg some (by kernel_rfl))⟩
  f29 := ⟨Tryd.f66.name, by decide, Tryd.func66.trans (congrArg some (by kernel_rfl))⟩
  f31 := Tryd.func78.trans (congrArg some (by kernel_rfl))
  f32 := Tryd.func79.trans (congrArg some (by kernel_rfl))
  f36 := ⟨Tryd.f77.name, by decide, Tryd.func77.trans (congrArg some (by kernel_rfl))⟩
  f37 := ⟨Tryd.f80.name, by decide, Tryd.func80.trans (congrArg some (by kernel_rfl))⟩
  f38 := ⟨Tryd.f81.name, by decide, Tryd.func81.trans (congrArg some (by kernel_rfl))⟩
  f39 := ⟨Tryd.f82.name, by decide, Tryd.func82.trans (congrArg some (by kernel_rfl))⟩
  f41 := ⟨Tryd.f88.name, by decide, Tryd.func88.trans (congrArg some (by kernel_rfl))⟩
  t0 := Tryd.underlying0
  a0 := Tryd.isAgg0
  z0 := Tryd.sizeOf0
  v0 := Tryd.zeroValue0
  t3 := Tryd.underlying3
  a3 := Tryd.isAgg3
  z3 := Tryd.sizeOf3
  v3 := Tryd.zeroValue3
  t4 := Tryd.underlying4
  a4 := Tryd.isAgg4
  z4 := Tryd.sizeOf4
  v4 := Tryd.zeroValue4
  t5 := Tryd.underlying5
  a5 := Tryd.isAgg5
  z5 := Tryd.sizeOf5
  v5 := Tryd.zeroValue5
  t9 := Tryd.underlying9
  a9 := Tryd.isAgg9
  z9 := Tryd.sizeOf9
  v9 := Tryd.zeroValue9
  t26 := Tryd.underlying22
  a26 := Tryd.isAgg22
  z26 := Tryd.sizeOf22
  v26 := Tryd.zeroValue22
  t27 := Tryd.underlying22
  a27 := Tryd.isAgg22
  z27 := Tryd.sizeOf22
  v27 := Tryd.zeroValue22
  t29 := Tryd.underlying9
  a29 := Tryd.isAgg9
  z29 := Tryd.sizeOf9
  v29 := Tryd.zeroValue9
  t32 := Tryd.underlying74
  a32 := Tryd.isAgg74
  z32 := Tryd.sizeOf74
  v32 := Tryd.zeroValue74
  t35 := Tryd.underlying83
  a35 := Tryd.isAgg83
  z35 := Tryd.sizeOf83
  v35 := Tryd.zeroValue83
  t36 := Tryd.underlying84
  a36 := Tryd.isAgg84
  z36 := Tryd.sizeOf84
  v36 := Tryd.zeroValue84
  t41 := Tryd.underlying88
  a41 := Tryd.isAgg88
  z41 := Tryd.sizeOf88
  v41 := Tryd.zeroValue88
  t44 := Tryd.underlying91
  a44 := Tryd.isAgg91
  z44 := Tryd.sizeOf91
  v44 := Tryd.zeroValue91
  t46 := Tryd.underlying93
  a46 := Tryd.isAgg93
  z46 := Tryd.sizeOf93
  v46 := Tryd.zeroValue93
  t53 := Tryd.underlying102
  a53 := Tryd.isAgg102
  z53 := Tryd.sizeOf102
  v53 := Tryd.zeroValue102
  t57 := Tryd.underlying106
  a57 := Tryd.isAgg106
  z57 := Tryd.sizeOf106
  v57 := Tryd.zeroValue106
  t63 := Tryd.underlying113
  a63 := Tryd.isAgg113
  z63 := Tryd.sizeOf113
  v63 := Tryd.zeroValue113
  t64 := Tryd.underlying114
  a64 := Tryd.isAgg114
  z64 := Tryd.sizeOf114
  v64 := Tryd.zeroValue114 }
open Go.RowKit Go.Maps Go.Sort
/-- The two contracts of the sort. -/
theorem Tryd.sortsOf (m : Nat) : AnyZ.SortsIn Tryd.prog Tryd.laysSorted_ren Fence.wide m :=
  ⟨fun blk off cap ss W hH hblk hsz => callsIn_wide.2 (AnyM.slices_Sort_string Tryd.laysSort blk off cap ss W hH hblk hsz),
   fun p cap W => callsIn_wide.2 (AnyM.slices_Sort_string_none Tryd.laysSort p cap W)⟩

/-- The names of a map, as a row to come. -/
theorem Tryd.maps_Keys (mb : Option Nat) (W : World) : CallsIn Fence.wide 5 Tryd.prog 43 #[.map mb] W fun e w' => e = .returned (.func (.func 55) #[] #[.pointer (some ⟨W.heap.size, 0, none⟩)]) ∧ w' = W.alloc (.cells #[.map mb] 46) :=
  AnyZ.keys_in Tryd.laysKeys Fence.wide 5 trivial rfl mb W

set_option maxHeartbeats 1000000 in
/-- The names of a map, sorted. -/
theorem Tryd.slices_Sorted_keys {H : Type} (b nn : Nat) (D0 : DataW H) (R : Value → Option (DataW H × List MemPlace)) (w : World) (hown : w.ownsMap Tryd.prog 9 R b nn D0) (hmax : Maps.size D0 ≤ maxLen) (hbytes : Maps.size D0 * 16 ≤ 140737488355328) :
    CallsIn Fence.wide 5 Tryd.prog 42 #[.func (.func 55) #[] #[.pointer (some ⟨w.heap.size, 0, none⟩)]] (w.alloc (.cells #[.map (some b)] 46)) fun e w' => ∃ (v : Value) (ss : List (List UInt8)), e = .returned v ∧ ss.Perm (strKeys D0) ∧
      w'.ownsRow (w.alloc (.cells #[.map (some b)] 46)).heap.size 9 1 v ss.length ((ss.mergeSort (fun x y => decide (x ≤ y))).map encStr) ∧ (v = .slice none 0 0 ↔ ss = []) ∧ Below (w.alloc (.cells #[.map (some b)] 46)).heap.size (w.alloc (.cells #[.map (some b)] 46)) w' := by
  have hbl := hown.lt
  have hseq : SeqGives Fence.wide 2 Tryd.prog 55 #[.pointer (some ⟨w.heap.size, 0, none⟩)] encStr (fun ss => ss.Perm (strKeys D0)) (Maps.size D0) (w.alloc (.cells #[.map (some b)] 46)) :=
    AnyZ.keys_gives (ρ := Tryd.laysKeys_ren) { Tryd.laysKeys with } Fence.wide _ trivial rfl (by omega) w.heap.size b nn D0 _ (by simp) (by simp) (by
      obtain ⟨es, clock, hb, Ft, hs, hD⟩ := hown
      exact ⟨es, clock, (Below.heap_alloc _ _ b hbl).trans hb, Ft, hs, hD⟩)
  exact AnyZ.sorted_in Tryd.laysSorted Fence.wide 5 trivial trivial trivial trivial rfl (by omega) (Tryd.sortsOf _) (enters_of Tryd.func32 (by kernel_rfl) rfl) 55 #[.pointer (some ⟨w.heap.size, 0, none⟩)] trivial (enters_of Tryd.func55 (by kernel_rfl) rfl) _ _ hmax hbytes _ hseq

end Go.Proofs

/-
  What calls of the library come to, laid at this program: a number in decimal digits.
-/
namespace Go.Proofs
open Go.Shelf
def Tryd.laysItoa_ren : Go.Shelf.Ren := ⟨fun | 171 => 28 | 243 => 45 | 246 => 57 | 283 => 73 | 284 => 74 | 285 => 75 | 286 => 76 | 129 => 68 | 317 => 84 | 318 => 85 | 319 => 86 | 320 => 87 | 337 => 93 | 338 => 94 | n => n, fun | 3 => 3 | 9 => 9 | 2 => 2 | 4 => 4 | 171 => 98 | 0 => 0 | 53 => 93 | 37 => 53 | 5 => 5 | 173 => 100 | 212 => 110 | 51 => 91 | 20 => 20 | 213 => 111 | 46 => 74 | 232 => 119 | 233 => 120 | n => n, fun | 17 => 0 | 18 => 2 | 19 => 3 | n => n⟩
theorem Tryd.laysItoa : Go.Proofs.LaysM.n171 Tryd.prog Tryd.laysItoa_ren := {
  mixed := by kernel_rfl
  f129 := Tryd.func68.trans (congrArg some (by kernel_rfl))
  f171 := Tryd.func28.trans (congrArg some (by kernel_rfl))
  f243 := Tryd.func45.trans (congrArg some (by kernel_rfl))
  f246 := Tryd.func57.trans (congrArg some (by kernel_rfl))
  f283 := Tryd.func73.trans (congrArg some (by kernel_rfl))
  f284 := Tryd.func74.trans (congrArg some (by kernel_rfl))
  f285 := Tryd.func75.trans (congrArg some (by kernel_rfl))
  f286 := Tryd.func76.trans (congrArg some (by kernel_rfl))
  f317 := Tryd.func84.trans (congrArg some (by kernel_rfl))
  f318 := Tryd.func85.trans (congrArg some (by kernel_rfl))
  f319 := Tryd.func86.trans (congrArg some (by kernel_rfl))
  f320 := Tryd.func87.trans (congrArg some (by kernel_rfl))
  f337 := Tryd.func93.trans (congrArg some (by kernel_rfl))
  f338 := Tryd.func94.trans (congrArg some (by kernel_rfl))
  t0 := Tryd.underlying0
  a0 := Tryd.isAgg0
  z0 := Tryd.sizeOf0
  v0 := Tryd.zeroValue0
  t2 := Tryd.underlying2
  a2 := Tryd.isAgg2
  z2 := Tryd.sizeOf2
  v2 := Tryd.zeroValue2
  t3 := Tryd.underlying3
  a3 := Tryd.isAgg3
  z3 := Tryd.sizeOf3
  v3 := Tryd.zeroValue3
  t4 := Tryd.underlying4
  a4 := Tryd.isAgg4
  z4 := Tryd.sizeOf4
  v4 := Tryd.zeroValue4
  t5 := Tryd.underlying5
  a5 := Tryd.isAgg5
  z5 := Tryd.sizeOf5
  v5 := Tryd.zeroValue5
  t9 := Tryd.underlying9
  a9 := Tryd.isAgg9
  z9 := Tryd.sizeOf9
  v9 := Tryd.zeroValue9
  t20 := Tryd.underlying20
  a20 := Tryd.isAgg20
  z20 := Tryd.sizeOf20
  v20 := Tryd.zeroValue20
  t37 := Tryd.underlying53
  a37 := Tryd.isAgg53
  z37 := Tryd.sizeOf53
  v37 := Tryd.zeroValue53
  t46 := Tryd.underlying74
  a46 := Tryd.isAgg74
  z46 := Tryd.sizeOf74
  v46 := Tryd.zeroValue74
  t51 := Tryd.underlying91
  a51 := Tryd.isAgg91
  z51 := Tryd.sizeOf91
  v51 := Tryd.zeroValue91
  t53 := Tryd.underlying93
  a53 := Tryd.isAgg93
  z53 := Tryd.sizeOf93
  v53 := Tryd.zeroValue93
  t171 := Tryd.underlying98
  a171 := Tryd.isAgg98
  z171 := Tryd.sizeOf98
  v171 := Tryd.zeroValue98
  t173 := Tryd.underlying100
  a173 := Tryd.isAgg100
  z173 := Tryd.sizeOf100
  v173 := Tryd.zeroValue100
  t212 := Tryd.underlying110
  a212 := Tryd.isAgg110
  z212 := Tryd.sizeOf110
  v212 := Tryd.zeroValue110
  t213 := Tryd.underlying111
  a213 := Tryd.isAgg111
  z213 := Tryd.sizeOf111
  t232 := Tryd.underlying119
  a232 := Tryd.isAgg119
  z232 := Tryd.sizeOf119
  v232 := Tryd.zeroValue119
  t233 := Tryd.underlying120
  a233 := Tryd.isAgg120
  z233 := Tryd.sizeOf120
  v233 := Tryd.zeroValue120
  g17 := by kernel_rfl
  g18 := by kernel_rfl
  g19 := by kernel_rfl
  i0 := by kernel_rfl
  i2 := by kernel_rfl
  i3 := by kernel_rfl
  i4 := by kernel_rfl
  i5 := by kernel_rfl
  i9 := by kernel_rfl
  i20 := by kernel_rfl
  i37 := by kernel_rfl
  i46 := by kernel_rfl
  i51 := by kernel_rfl
  i53 := by kernel_rfl
  i171 := by kernel_rfl
  i173 := by kernel_rfl
  i212 := by kernel_rfl
  i232 := by kernel_rfl
  i233 := by kernel_rfl
  m17 := by kernel_rfl
  m18 := by kernel_rfl
  m19 := by kernel_rfl }
open Go.RowKit Go.Sort Go.Lib in
/-- A number in decimal digits. -/
theorem Tryd.strconv_Itoa (n : Int) (h0 : -9223372036854775808 ≤ n) (h1 : n ≤ 9223372036854775807) (w : World) (htab : Lib.TabIs Tryd.prog w "internal/strconv.uint64pow10" .u64 Lib.pow10Tab) :
    Calls Tryd.prog 28 #[.int .i64 n] w fun e w' => e = .returned (.string ⟨(Lib.itoa n).toArray⟩) ∧ ∃ k os, w' = grow (w.drewN k) os := Any.strconv_Itoa Tryd.laysItoa n h0 h1 w htab

end Go.Proofs

/-
  Rows of lines in memory: what it means that a slice reads as a list of texts, and how that is kept while memory grows.
-/
namespace Go.Proofs.YtnhhdjcbifmfgaaDoor
open Go.RowKit

/-- The slice at A of n elements reads as the texts ss. Of no elements nothing is asked. -/
def Row (w : World) (A : Option Addr) (n : Nat) (ss : List ByteArray) : Prop :=
  ss.length = n ∧ (0 < n → ∃ b o, A = some ⟨b, o, none⟩ ∧ ∀ j s, ss[j]? = some s → w.cell? ⟨b, o + j, none⟩ = some (.string s))

/-- Nothing that lay in memory at w has turned at w'. -/
def Later (w w' : World) : Prop := Below w.heap.size w w'

theorem Later.refl (w : World) : Later w w := Below.refl _ _
theorem Later.trans {a b c : World} (h : Later a b) (k : Later b c) : Later a c := Below.trans h (Below.mono k h.size)
theorem Later.alloc {a w : World} (h : Later a w) (o : Obj) : Later a (w.alloc o) := Below.alloc h h.size o
theorem Later.drew {a w : World} (h : Later a w) : Later a w.drew := Below.drew h
theorem Later.drewN {a w : World} (h : Later a w) (n : Nat) : Later a (w.drewN n) := ⟨h.os, h.tape, h.output, h.size, h.block⟩
theorem Later.le {a w : World} (h : Later a w) : a.heap.size ≤ w.heap.size := h.size

theorem lt_of_cell {w : World} {p : Addr} {v : Value} (h : w.cell? p = some v) : p.block < w.heap.size := by
  rcases Nat.lt_or_ge p.block w.heap.size with hlt | hge
  · exact hlt
  · simp [World.cell?, Array.getElem?_eq_none hge] at h

theorem Later.cell {w w' : World} (h : Later w w') {p : Addr} {v : Value} (hc : w.cell? p = some v) : w'.cell? p = some v :=
  (Below.cell h (lt_of_cell hc)).trans hc

/-- Only answers have been drawn. -/
def Drew (w w' : World) : Prop := ∃ q, w' = w.drewN q
theorem Drew.refl (w : World) : Drew w w := ⟨0, rfl⟩
theorem Drew.more {w w' : World} (h : Drew w w') (n : Nat) : Drew w (w'.drewN n) := by
  obtain ⟨q, rfl⟩ := h; exact ⟨q + n, World.drewN_drewN _ _ _⟩
theorem Drew.one {w w' : World} (h : Drew w w') : Drew w w'.drew := by
  obtain ⟨q, rfl⟩ := h; exact ⟨q + 1, rfl⟩
theorem Drew.later {w w' : World} (h : Drew w w') : Later w w' := by
  obtain ⟨q, rfl⟩ := h; exact (Later.refl w).drewN q

theorem later_of_drew {w w' : World} (h : ∃ q, w' = w.drewN q) : Later w w' := Drew.later h

section
variable {w w' : World} {A : Option Addr} {n : Nat} {ss : List ByteArray}

theorem Row.len (h : Row w A n ss) : ss.length = n := h.1

theorem Row.none : Row w A 0 [] := ⟨rfl, fun h => absurd h (by omega)⟩

theorem Row.later (h : Row w A n ss) (hl : Later w w') : Row w' A n ss :=
  ⟨h.1, fun hn => by
    obtain ⟨b, o, e, hc⟩ := h.2 hn
    exact ⟨b, o, e, fun j s hs => hl.cell (hc j s hs)⟩⟩

theorem Row.get (h : Row w A n ss) {k : Nat} (hk : k < n) :
    ∃ b o, A = some ⟨b, o, .none⟩ ∧ w.cell? ⟨b, o + k, .none⟩ = some (.string (ss.getD k ByteArray.empty)) := by
  obtain ⟨b, o, e, hc⟩ := h.2 (by omega)
  have hl : k < ss.length := by rw [h.1]; exact hk
  refine ⟨b, o, e, ?_⟩
  rw [hc k ss[k] (List.getElem?_eq_getElem hl)]
  simp [List.getD, List.getElem?_eq_getElem hl]

/-- The addresses of a row, whatever its length, as one place from which all cells are read. -/
theorem Row.open_ (h : Row w A n ss) (hn : 0 < n) :
    ∃ b o, A = some ⟨b, o, .none⟩ ∧ ∀ j, j < ss.length → w.cell? ⟨b, o + j, .none⟩ = some (.string (ss.getD j ByteArray.empty)) := by
  obtain ⟨b, o, e, hc⟩ := h.2 hn
  refine ⟨b, o, e, fun j hj => ?_⟩
  rw [hc j ss[j] (List.getElem?_eq_getElem hj)]
  simp [List.getD, List.getElem?_eq_getElem hj]

/-- The first t elements. -/
theorem Row.take (h : Row w A n ss) {t : Nat} (ht : t ≤ n) : Row w A t (ss.take t) := by
  refine ⟨by rw [List.length_take, h.1]; omega, fun hn => ?_⟩
  obtain ⟨b, o, rfl, hc⟩ := h.2 (by omega)
  refine ⟨b, o, rfl, fun j s hs => ?_⟩
  rw [List.getElem?_take] at hs
  split at hs
  · exact hc _ s hs
  · cases hs

/-- All from place f on, f not behind the last. -/
theorem Row.drop (h : Row w A n ss) {f : Nat} (hf : f < n) : Row w (A.map (·.add f)) (n - f) (ss.drop f) := by
  refine ⟨by rw [List.length_drop, h.1], fun hn => ?_⟩
  obtain ⟨b, o, rfl, hc⟩ := h.2 (by omega)
  refine ⟨b, o + f, ?_, fun j s hs => ?_⟩
  · simp only [Option.map_some, Addr.add]
    by_cases hf : f = 0 <;> simp [hf]
  · rw [List.getElem?_drop] at hs
    rw [Nat.add_assoc]
    exact hc _ s hs

theorem Row.cut (h : Row w A n ss) {f c : Nat} (hf : f ≤ n) (hc : n ≤ c) : Row w (if c = f then A else A.map (·.add f)) (n - f) (ss.drop f) := by
  by_cases e : f = n
  · subst e
    rw [List.drop_of_length_le (by rw [h.1]; omega), Nat.sub_self]
    exact Row.none
  · rw [if_neg (by omega)]
    exact h.drop (by omega)

/-- A piece of a row: from f up to t, the room ending at m. -/
theorem Row.piece (h : Row w A n ss) {f t m : Nat} (hft : f ≤ t) (ht : t ≤ n) (hm : t ≤ m) :
    Row w (if m = f then A else A.map (·.add (f * 1))) (t - f) ((ss.drop f).take (t - f)) := by
  refine ⟨by rw [List.length_take, List.length_drop, h.1]; omega, fun hn => ?_⟩
  obtain ⟨b, o, rfl, hc⟩ := h.2 (by omega)
  rw [if_neg (by omega)]
  refine ⟨b, o + f, ?_, fun j s hs => ?_⟩
  · simp only [Option.map_some, Nat.mul_one, Addr.add]
    by_cases hf : f = 0 <;> simp [hf]
  · rw [List.getElem?_take] at hs
    split at hs
    · rw [List.getElem?_drop] at hs
      rw [Nat.add_assoc]
      exact hc _ s hs
    · cases hs
end

/-- Texts are told apart by their bytes. -/
theorem text_ne {x y : ByteArray} (h : x ≠ y) : (x.toList == y.toList) = false := by
  rw [beq_eq_false_iff_ne]
  intro e
  rw [ByteArray.toList_eq, ByteArray.toList_eq] at e
  exact h (ByteArray.ext (Array.ext' e))
theorem text_beq (x y : ByteArray) : (x.toList == y.toList) = decide (x = y) := by
  by_cases h : x = y
  · subst h; simp
  · rw [text_ne h]; simp [h]

theorem ret_bool {a b : Bool} (h : a = b) : Ending.returned (.bool a) = .returned (.bool b) := by rw [h]
theorem ret_int {a b : Int} (h : a = b) : Ending.returned (.int .i64 a) = .returned (.int .i64 b) := by rw [h]

/-- The byte at a place, as the walk tells it and as the list has it. -/
theorem byte_at {s : ByteArray} {k : Nat} (h : k < s.size) : s.data.toList[k]? = some s[k] := by
  rw [List.getElem?_eq_getElem (by simpa using h)]; rfl
theorem byte_is {c : UInt8} (h : ((c.toNat : Int) == 10) = true) : c = 10 := by
  have : c.toNat = 10 := by simp at h; omega
  exact UInt8.toNat.inj this
theorem byte_isnt {c : UInt8} (h : ((c.toNat : Int) == 10) = false) : c ≠ 10 := by
  rintro rfl; simp at h
end Go.Proofs.YtnhhdjcbifmfgaaDoor

/-
  Rows of lines that a call makes itself: what it owns, how it grows by append, and how it reads behind that.
-/
namespace Go.Proofs.YtnhhdjcbifmfgaaDoor
open Go.RowKit

theorem plain_add (b o j : Nat) : (⟨b, o, none⟩ : Addr).add j = ⟨b, o + j, none⟩ := by
  unfold Addr.add
  by_cases h : j = 0 <;> simp [h]

/-- The value v is a row of the call's own (what it made since w0) and holds the lines ss; of what lay there at w0 nothing has turned. -/
def Own (e : TypeId) (w0 w : World) (v : Value) (ss : List ByteArray) : Prop :=
  w.ownsRow w0.heap.size e 1 v ss.length (ss.map Value.string) ∧ Later w0 w

section
variable {e : TypeId} {w0 w : World} {v : Value} {ss : List ByteArray}

theorem Own.later (h : Own e w0 w v ss) : Later w0 w := h.2
theorem Own.nil (h : Later w0 w) : Own e w0 w (.slice none 0 0) [] := ⟨World.ownsRow_nil _ _ _ _, h⟩
theorem Own.alloc (h : Own e w0 w v ss) (o : Obj) : Own e w0 (w.alloc o) v ss := ⟨h.1.alloc o, h.2.alloc o⟩
theorem Own.drew (h : Own e w0 w v ss) : Own e w0 w.drew v ss := ⟨h.1, h.2.drew⟩
theorem Own.drewN (h : Own e w0 w v ss) (n : Nat) : Own e w0 (w.drewN n) v ss := ⟨h.1, h.2.drewN n⟩

/-- A new row without room. -/
theorem Own.empty (h : Later w0 w) : Own e w0 (w.alloc (.cells #[] e)) (.slice (some ⟨w.heap.size, 0, none⟩) 0 0) [] :=
  ⟨World.ownsRow_made w #[] 0 h.size (Nat.zero_le _) rfl, h.alloc _⟩

/-- What is owned reads as it holds. -/
theorem Own.row (h : Own e w0 w v ss) : ∃ A c, v = .slice A ss.length c ∧ ss.length ≤ c ∧ Row w A ss.length ss := by
  rcases h.1.2 with ⟨hv, h0⟩ | ⟨g, cap, cur, hv, hg, hh, hnc, hm, hs, ht⟩
  · have : ss = [] := List.eq_nil_of_length_eq_zero h0
    subst this
    exact ⟨none, 0, hv, Nat.le_refl _, Row.none⟩
  · refine ⟨some ⟨g, 0, none⟩, cap, hv, hnc, rfl, fun _ => ⟨g, 0, rfl, fun j s hj => ?_⟩⟩
    have hc := h.1.cells (g := g) (by rw [hv]; rfl) j (.string s) (by rw [List.getElem?_map, hj]; rfl)
    rw [plain_add] at hc
    exact hc

/-- The row of an own value lies behind all that was there. -/
theorem Own.block (h : Own e w0 w v ss) : ∀ k, v.ownBlock = some k → w0.heap.size ≤ k := fun k hk => (h.1.lt k hk).1

theorem oneCells (ss : List ByteArray) : ∀ u ∈ ss.map Value.string, u.oneCell' = true := by
  intro u hu
  obtain ⟨s, _, rfl⟩ := List.mem_map.1 hu
  rfl
end

section
variable {P : Program} {w0 w : World} {e : TypeId} {v : Value} {olds : List ByteArray}

theorem run_append_row (t ty : TypeId) (i : TypeInfo) (ht : P.underlying t = some (.slice e)) (hi : P.info? e = some i) (hz : i.zero = some (.string ByteArray.empty)) (hsize : i.size = 1) (hby : i.bytes = 16)
    (hown : Own e w0 w v olds) (A : Option Addr) (m c : Nat) (news : List ByteArray) (hr : Row w A m news) (hb : olds.length + m ≤ 1000000) :
    ∃ v' w', (Builtin.append_ #[t, t] ty #[v, .slice A m c]).run P w = .ok v' w' ∧ Own e w0 w' v' (olds ++ news) ∧ w.grownBy w' v.ownBlock := by
  have hl := hr.len
  rcases Nat.eq_zero_or_pos m with h0 | h0
  · subst h0
    have hn : news = [] := List.eq_nil_of_length_eq_zero hl
    subst hn
    rw [List.append_nil]
    rcases A with _ | ad
    · refine ⟨v, w, ?_, hown, ⟨rfl, rfl, rfl, Nat.le_refl _, fun _ _ _ => rfl⟩⟩
      rcases hown.1.2 with ⟨rfl, _⟩ | ⟨g, cap, cur, rfl, _, _, hnc, _⟩
      · simp [Builtin.append_, run_underlying ht, sizeOf, typeInfo, hi, Builtin.lenOf, Builtin.firstCells]
      · simp [Builtin.append_, run_underlying ht, sizeOf, typeInfo, hi, Builtin.lenOf, Builtin.firstCells, hnc, storeCells]
    · obtain ⟨v', w', hrun, h2, h3, _, _⟩ := run_append_own_at (P := P) w w0.heap.size t ty e i _ 1 16 ht hi hz hsize hby rfl (by omega) v olds.length (olds.map Value.string) hown.1 ad 0 c [] rfl
        (fun j u hu => by simp at hu) (fun u hu => by simp at hu) (by simp only [maxLen]; omega) (by omega) hown.2.size
      refine ⟨v', w', hrun, ⟨by simpa using h2, Below.grown hown.2 h3 hown.2.size hown.block⟩, h3⟩
  · obtain ⟨b, o, rfl, hc⟩ := hr.2 h0
    obtain ⟨v', w', hrun, h2, h3, _, _⟩ := run_append_own_at (P := P) w w0.heap.size t ty e i _ 1 16 ht hi hz hsize hby rfl (by omega) v olds.length (olds.map Value.string) hown.1 ⟨b, o, none⟩ m c (news.map Value.string)
      (by rw [List.length_map]; omega)
      (fun j u hu => by
        rw [List.getElem?_map] at hu
        obtain ⟨s, hs, rfl⟩ := Option.map_eq_some_iff.1 hu
        rw [plain_add]
        exact hc j s hs)
      (oneCells news) (by simp only [maxLen]; omega) (by omega) hown.2.size
    refine ⟨v', w', hrun, ⟨?_, Below.grown hown.2 h3 hown.2.size hown.block⟩, h3⟩
    rw [List.length_append, List.map_append, hl]
    exact h2

/-- append onto a row of the call's own, whatever the source. -/
theorem wpList_append_row {ops : Array Oper} {rest : List Oper} {o : Oper} {a : Act} {Q : Exit → Act → World → Prop} (hgd : o.guard = none) (s x : Operand) (t : TypeId)
    (ho : o.op = .call { callee := .builtin .append, args := #[s, x], argTypes := #[t, t] }) (i : TypeInfo)
    (ht : P.underlying t = some (.slice e)) (hi : P.info? e = some i) (hz : i.zero = some (.string ByteArray.empty)) (hsize : i.size = 1) (hby : i.bytes = 16)
    (hown : Own e w0 w v olds) (hs : a.eval s = v) (A : Option Addr) (m c : Nat) (news : List ByteArray) (hx : a.eval x = .slice A m c) (hr : Row w A m news) (hb : olds.length + m ≤ 1000000)
    (h : ∀ v' w', Own e w0 w' v' (olds ++ news) → w.grownBy w' v.ownBlock → wpList P ops Q rest (a.put o.dst v') w') : wpList P ops Q (o :: rest) a w := by
  refine wpList_plain hgd fun K hK => ?_
  obtain ⟨v', w', hrun, h2, h3⟩ := run_append_row (P := P) t o.type i ht hi hz hsize hby hown A m c news hr hb
  unfold Oper.wp execOp
  simp only [ho, resolve, invoke, builtin, Sem.run_bind, Sem.run_pure, Result.andThen_ok, List.map_toArray, List.map_cons, List.map_nil, hs, hx, hrun]
  exact hK _ _ (h v' w' h2 h3)

/-- make of a row with room for n. -/
theorem wpList_make_row {ops : Array Oper} {rest : List Oper} {o : Oper} {a : Act} {Q : Exit → Act → World → Prop} (hgd : o.guard = none) (l c : Operand) (t : TypeId) (hop : o.op = Op.makeSlice t l c) (i : TypeInfo)
    (ht : P.underlying t = some (.slice e)) (hi : P.info? e = some i) (hz : i.zero = some (.string ByteArray.empty)) (hsize : i.size = 1) (hby : i.bytes = 16)
    (hl : Later w0 w) (kl kc : IntKind) (C : Int) (he : a.eval l = .int kl 0) (hc : a.eval c = .int kc C) (hC0 : 0 ≤ C) (hC : C ≤ 1000000)
    (h : ∀ w' v', Own e w0 w' v' [] → wpList P ops Q rest (a.put o.dst v') w') : wpList P ops Q (o :: rest) a w := by
  obtain ⟨n, rfl⟩ := Int.eq_ofNat_of_zero_le hC0
  refine wpList_make_own w hgd l c t hop w0.heap.size e i _ 1 ht hi hz hsize kl kc _ n he hc rfl (by rw [hby]; omega) (by simp only [maxLen]; omega) hl.size fun w' h1 h2 => h w' _ ⟨h1, Below.grown hl h2 hl.size (by simp)⟩
end

/-- The one element of a new row that append is handed. -/
theorem Row.one (w : World) (s : ByteArray) (t : TypeId) : Row (w.alloc (.cells #[.string s] t)) (some ⟨w.heap.size, 0, .none⟩) 1 [s] := by
  refine ⟨rfl, fun _ => ⟨_, _, rfl, fun j x hj => ?_⟩⟩
  match j, hj with
  | 0, hj => simp at hj; subst hj; simp

/-- The elements of a new row, written out. -/
theorem Row.lit (w : World) (ss : List ByteArray) (t : TypeId) : Row (w.alloc (.cells (ss.map Value.string).toArray t)) (some ⟨w.heap.size, 0, .none⟩) ss.length ss := by
  refine ⟨rfl, fun _ => ⟨_, _, rfl, fun j x hj => ?_⟩⟩
  have hb : (w.alloc (.cells (ss.map Value.string).toArray t)).heap[w.heap.size]? = some (.cells (ss.map Value.string).toArray t (0, 0)) := heap_alloc_new w _
  simp only [World.cell?, hb, Nat.zero_add]
  simp [hj]
end Go.Proofs.YtnhhdjcbifmfgaaDoor

/-
  Rows of lines as lists: with how many lines two rows begin and end alike; the first place at which lines stand. Nothing of any program.
-/
namespace Go.Proofs.YtnhhdjcbifmfgaaDoor
open Go.RowKit

theorem take_same {xs ys : List ByteArray} {k : Nat} (hx : k < xs.length) (hy : k < ys.length) (h : xs.take k = ys.take k) (e : xs.getD k ByteArray.empty = ys.getD k ByteArray.empty) :
    Hid (xs.take (k + 1) = ys.take (k + 1)) := by
  show _ = _
  rw [List.take_succ_eq_append_getElem hx, List.take_succ_eq_append_getElem hy, h]
  simp [List.getD, List.getElem?_eq_getElem hx, List.getElem?_eq_getElem hy] at e
  rw [e]

/-- Are both rows the same? -/
def sameB (xs ys : List ByteArray) : Bool := decide (xs = ys)
theorem sameB_yes {xs ys : List ByteArray} (h : xs = ys) : sameB xs ys = true := by simp [sameB, h]
theorem sameB_no {xs ys : List ByteArray} (h : xs ≠ ys) : sameB xs ys = false := by simp [sameB, h]
theorem sameB_self (xs : List ByteArray) : sameB xs xs = true := sameB_yes rfl
theorem eq_of_sameB {xs ys : List ByteArray} (h : sameB xs ys = true) : xs = ys := by simpa [sameB] using h
theorem beq_of_other {xs ys : List ByteArray} {k : Nat} (h : xs.getD k ByteArray.empty ≠ ys.getD k ByteArray.empty) : sameB xs ys = false :=
  sameB_no fun e => h (by rw [e])

/-- Does part stand in l from place k on? -/
def standsB (l : List ByteArray) (k : Int) (part : List ByteArray) : Bool := decide (0 ≤ k ∧ k + part.length ≤ l.length) && sameB ((l.drop k.toNat).take part.length) part

theorem standsB_out {l : List ByteArray} {k : Int} {part : List ByteArray} (h : ¬ (0 ≤ k ∧ k + part.length ≤ l.length)) : standsB l k part = false := by
  unfold standsB; rw [decide_eq_false h]; rfl
theorem standsB_in {l : List ByteArray} {k : Nat} {part : List ByteArray} (h : k + part.length ≤ l.length) : standsB l k part = sameB ((l.drop k).take part.length) part := by
  unfold standsB; rw [decide_eq_true (by omega)]; simp
/-- The lines of l with those of with_ in the place of the m lines from k on. -/
def spliced (l : List ByteArray) (k m : Nat) (with_ : List ByteArray) : List ByteArray := l.take k ++ with_ ++ l.drop (k + m)

theorem stands_eq {l part : List ByteArray} {k : Nat} (h : standsB l k part = true) : k + part.length ≤ l.length ∧ (l.drop k).take part.length = part := by
  have h1 := h
  simp only [standsB, Bool.and_eq_true, decide_eq_true_eq] at h1
  refine ⟨by omega, ?_⟩
  have := eq_of_sameB h1.2
  simpa using this
/-- What was spliced can be spliced back. -/
theorem stands_back {l old with_ : List ByteArray} {k : Nat} (h : standsB l k old = true) : standsB (spliced l k old.length with_) k with_ = true := by
  have h1 := stands_eq h
  have hk : (l.take k).length = k := by rw [List.length_take]; omega
  rw [standsB_in (by unfold spliced; rw [List.length_append, List.length_append, hk]; omega)]
  refine sameB_yes ?_
  unfold spliced
  rw [List.append_assoc, List.drop_append_of_le_length (by omega), List.drop_of_length_le (l := l.take k) (by omega), List.nil_append]
  exact List.take_left
theorem spliced_back {l old with_ : List ByteArray} {k : Nat} (h : standsB l k old = true) : spliced (spliced l k old.length with_) k with_.length old = l := by
  have h1 := stands_eq h
  have hk : (l.take k).length = k := by rw [List.length_take]; omega
  have e1 : (spliced l k old.length with_).take k = l.take k := by
    unfold spliced
    rw [List.append_assoc]
    rw [List.take_append_of_le_length (by omega), List.take_of_length_le (by omega)]
  have e2 : (spliced l k old.length with_).drop (k + with_.length) = l.drop (k + old.length) := by
    unfold spliced
    have hl : (l.take k ++ with_).length = k + with_.length := by rw [List.length_append, hk]
    rw [← hl]
    exact List.drop_left
  have e3 : l.drop k = old ++ l.drop (k + old.length) := by
    conv => lhs; rw [← List.take_append_drop old.length (l.drop k)]
    rw [h1.2, List.drop_drop]
  show (spliced l k old.length with_).take k ++ old ++ (spliced l k old.length with_).drop (k + with_.length) = l
  rw [e1, e2, List.append_assoc, ← e3, List.take_append_drop]
theorem spliced_length {l old with_ : List ByteArray} {k : Nat} (h : standsB l k old = true) : (spliced l k old.length with_).length + old.length = l.length + with_.length := by
  have h1 := stands_eq h
  unfold spliced
  rw [List.length_append, List.length_append, List.length_take, List.length_drop]; omega

/-- With how many lines do both begin alike? -/
def headN : List ByteArray → List ByteArray → Nat
  | x :: xs, y :: ys => if x = y then headN xs ys + 1 else 0
  | _, _ => 0

theorem headN_left : ∀ xs ys : List ByteArray, headN xs ys ≤ xs.length
  | [], _ => by simp [headN]
  | x :: xs, [] => by simp [headN]
  | x :: xs, y :: ys => by
    have := headN_left xs ys
    simp only [headN]; split <;> simp <;> omega
theorem headN_right : ∀ xs ys : List ByteArray, headN xs ys ≤ ys.length
  | [], _ => by simp [headN]
  | x :: xs, [] => by simp [headN]
  | x :: xs, y :: ys => by
    have := headN_right xs ys
    simp only [headN]; split <;> simp <;> omega
theorem le_headN : ∀ (k : Nat) (xs ys : List ByteArray), k ≤ xs.length → k ≤ ys.length → (xs.take k = ys.take k ↔ k ≤ headN xs ys)
  | 0, xs, ys, _, _ => by simp
  | k + 1, [], ys, h, _ => by simp at h
  | k + 1, x :: xs, [], _, h => by simp at h
  | k + 1, x :: xs, y :: ys, h1, h2 => by
    have ih := le_headN k xs ys (by simpa using h1) (by simpa using h2)
    simp only [List.take_succ_cons, List.cons.injEq, headN]
    by_cases e : x = y
    · simp only [e, true_and, if_pos]; rw [ih]; omega
    · simp [e]
theorem headN_stop {xs ys : List ByteArray} {k : Nat} (hx : k ≤ xs.length) (hy : k ≤ ys.length) (h : xs.take k = ys.take k) (hs : k = xs.length ∨ k = ys.length ∨ xs.getD k ByteArray.empty ≠ ys.getD k ByteArray.empty) : headN xs ys = k := by
  have h1 := (le_headN k xs ys hx hy).1 h
  have h2 := headN_left xs ys
  have h3 := headN_right xs ys
  rcases hs with hs | hs | hs
  · omega
  · omega
  · rcases Nat.lt_or_ge k (headN xs ys) with hlt | hge
    · have h4 := (le_headN (k + 1) xs ys (by omega) (by omega)).2 (by omega)
      rw [List.take_succ_eq_append_getElem (by omega), List.take_succ_eq_append_getElem (by omega), h] at h4
      have h5 : [xs[k]'(by omega)] = [ys[k]'(by omega)] := List.append_cancel_left h4
      exfalso; apply hs
      simp at h5
      simp [List.getD, List.getElem?_eq_getElem (show k < xs.length by omega), List.getElem?_eq_getElem (show k < ys.length by omega), h5]
    · omega

/-- With how many lines do both end alike? -/
def tailN (xs ys : List ByteArray) : Nat := headN xs.reverse ys.reverse
theorem getD_reverse {xs : List ByteArray} {k : Nat} (h : k < xs.length) : xs.reverse.getD k ByteArray.empty = xs.getD (xs.length - 1 - k) ByteArray.empty := by
  simp [List.getD, List.getElem?_reverse h]
theorem tail_same {xs ys : List ByteArray} {k : Nat} (hx : k < xs.length) (hy : k < ys.length) (h : xs.reverse.take k = ys.reverse.take k) (e : xs.getD (xs.length - 1 - k) ByteArray.empty = ys.getD (ys.length - 1 - k) ByteArray.empty) :
    Hid (xs.reverse.take (k + 1) = ys.reverse.take (k + 1)) :=
  take_same (by simpa using hx) (by simpa using hy) h (by rw [getD_reverse hx, getD_reverse hy]; exact e)
theorem tailN_stop {xs ys : List ByteArray} {k : Nat} (hx : k ≤ xs.length) (hy : k ≤ ys.length) (h : xs.reverse.take k = ys.reverse.take k)
    (hs : k = xs.length ∨ k = ys.length ∨ (k < xs.length ∧ k < ys.length ∧ xs.getD (xs.length - 1 - k) ByteArray.empty ≠ ys.getD (ys.length - 1 - k) ByteArray.empty)) : tailN xs ys = k := by
  refine headN_stop (by simpa using hx) (by simpa using hy) h ?_
  rcases hs with hs | hs | ⟨h1, h2, hs⟩
  · left; simpa using hs
  · right; left; simpa using hs
  · right; right; rw [getD_reverse h1, getD_reverse h2]; exact hs
theorem tailN_left (xs ys : List ByteArray) : tailN xs ys ≤ xs.length := by have := headN_left xs.reverse ys.reverse; simpa [tailN] using this
theorem tailN_right (xs ys : List ByteArray) : tailN xs ys ≤ ys.length := by have := headN_right xs.reverse ys.reverse; simpa [tailN] using this

theorem le_tailN {k : Nat} {xs ys : List ByteArray} (hx : k ≤ xs.length) (hy : k ≤ ys.length) : xs.drop (xs.length - k) = ys.drop (ys.length - k) ↔ k ≤ tailN xs ys := by
  unfold tailN
  rw [← le_headN k xs.reverse ys.reverse (by simpa using hx) (by simpa using hy), List.take_reverse, List.take_reverse]
  constructor
  · intro h; rw [h]
  · intro h; exact List.reverse_inj.1 h

theorem headN_next {xs ys : List ByteArray} {k : Nat} (hk : headN xs ys = k) (hx : k < xs.length) (hy : k < ys.length) : xs.getD k ByteArray.empty ≠ ys.getD k ByteArray.empty := by
  intro e
  have h1 := (le_headN k xs ys (by omega) (by omega)).2 (by omega)
  have h2 := (le_headN (k + 1) xs ys (by omega) (by omega)).1 (take_same hx hy h1 e)
  omega
theorem tailN_next {xs ys : List ByteArray} {k : Nat} (hk : tailN xs ys = k) (hx : k < xs.length) (hy : k < ys.length) : xs.getD (xs.length - 1 - k) ByteArray.empty ≠ ys.getD (ys.length - 1 - k) ByteArray.empty := by
  have := headN_next (xs := xs.reverse) (ys := ys.reverse) hk (by simpa using hx) (by simpa using hy)
  rwa [getD_reverse hx, getD_reverse hy] at this

/-- The first place, from f on, at which part stands. -/
def findO (l part : List ByteArray) (f : Int) : Option Nat := (List.range (l.length + 1)).find? fun k => decide (f ≤ (k : Int)) && standsB l k part
def findZ (l part : List ByteArray) (f : Int) : Int := match findO l part f with | some k => k | none => -1
theorem standsB_le {l part : List ByteArray} {k : Int} (h : standsB l k part = true) : 0 ≤ k ∧ k + part.length ≤ l.length := by
  simp only [standsB, Bool.and_eq_true, decide_eq_true_eq] at h; exact h.1
theorem findZ_at {l part : List ByteArray} {f : Int} {k : Nat} (hk : f ≤ k) (hs : standsB l k part = true) (hb : ∀ j : Nat, j < k → f ≤ (j : Int) → standsB l j part = false) : findZ l part f = k := by
  have hle := standsB_le hs
  have : findO l part f = some k := by
    unfold findO
    rw [List.find?_range_eq_some]
    refine ⟨by simp [hs, hk], by rw [List.mem_range]; omega, fun j hj => ?_⟩
    by_cases hf : f ≤ (j : Int)
    · simp [hb j hj hf]
    · simp [hf]
  simp [findZ, this]
theorem findZ_none {l part : List ByteArray} {f : Int} (hb : ∀ j : Nat, f ≤ (j : Int) → standsB l j part = false) : findZ l part f = -1 := by
  have : findO l part f = none := by
    unfold findO
    rw [List.find?_range_eq_none]
    intro j _
    by_cases hf : f ≤ (j : Int)
    · simp [hb j hf]
    · simp [hf]
  simp [findZ, this]
end Go.Proofs.YtnhhdjcbifmfgaaDoor
