/-
  What line.Text comes to, as a call.
-/
import Derived.Test.YtboffgmaohcpfaaDoorChecked
import Derived.Test.YtboffgmaohcpfaaDoorBase
import Derived.Test.YtboffgmaohcpfaaDoorPlainCut
import Derived.Test.YtboffgmaohcpfaaDoorOwn
import Derived.Test.YtboffgmaohcpfaaDoorWords
import Derived.Test.YtboffgmaohcpfaaDoorPlainLine
import Derived.Test.YtboffgmaohcpfaaDoorShBuilder
import Derived.Deep.LoopGhost
import Derived.Deep.QuietTactic
import Derived.BigQuiet
import Derived.Lib.Hide
namespace Go.Proofs.YtboffgmaohcpfaaDoor
open Go.RowKit

theorem cells_room1 {a : List UInt8} {x : ByteArray} {m : Nat} (h : a.length + x.size + 1 ≤ m) (hm : m ≤ 1000000) : (Lib.byteCells a).length + x.size ≤ 140737488355328 := by
  rw [Lib.byteCells, List.length_map]; omega

theorem cells_room {a : List UInt8} {x : ByteArray} {m : Nat} (h : a.length + x.size + 1 ≤ m) (hm : m ≤ 1000000) : (Lib.byteCells a ++ Lib.strCells x).length + (⟨#[10]⟩ : ByteArray).size ≤ 140737488355328 := by
  rw [List.length_append, Lib.byteCells, List.length_map, Lib.strCells_length]
  have : (⟨#[10]⟩ : ByteArray).size = 1 := rfl
  omega

set_option maxHeartbeats 400000 in
theorem text_any (A : Option Addr) (n c : Nat) (l : List ByteArray) (w : World) (hx : Row w A n l) (hn : n ≤ 65536) (hb : (textL l).length ≤ 1000000) :
    Calls Tryd.prog 39 #[.slice A n c] w fun e w' => e = .returned (.string (txt (textL l))) ∧ Later w w' := by
  have HX := Lib.hid hx; clear hx
  go_enter Tryd.func39, Tryd.ntmps39
  go_wp2
  go_loopg [8] (n + 1) (fun g s8 wr => ∃ k : Nat, k ≤ n ∧ n - k ≤ g ∧ s8 = .int .i64 k ∧ Later w wr ∧ Lib.IsBuilder 58 5 w.heap.size w.heap.size (Lib.byteCells (textL (l.take k))) wr)
  case atStart =>
    exact ⟨0, Nat.zero_le _, by omega, rfl, (Later.refl w).alloc _, .inl ⟨Nat.le_refl _, .slice none 0 0, heap_alloc_new w _, World.ownsRow_nil _ _ _ _, by simp [Value.ownBlock]⟩⟩
  case round =>
    obtain ⟨k, hk, hg, rfl, hwr, hB⟩ := hrel
    have hle := hwr.le
    have HW := Lib.hid hwr; clear hwr
    have HB := Lib.hid hB; clear hB
    by_cases hlt : k < n
    · obtain ⟨b1, o1, rfl, g1⟩ := (HX.out.later HW.out).get hlt
      have hkl : k < l.length := by rw [HX.out.len]; exact hlt
      have hroom := textL_room hkl
      have hnext := textL_next hkl
      generalize l.getD k ByteArray.empty = x at g1 hroom hnext
      have HN := Lib.hid hnext; clear hnext
      go_wp2_with fail
      refine (Tryd.Builder_WriteString w.heap.size w.heap.size _ x wr HB.out (cells_room1 hroom hb) hle).mono ?_
      rintro e w1 ⟨rfl, hb1, hl1⟩
      have HB1 := Lib.hid hb1; clear hb1
      have HL1 := Lib.hid hl1; clear hl1
      have hle1 := HL1.out.size
      go_wp2_with fail
      refine (Tryd.Builder_WriteString w.heap.size w.heap.size _ _ w1 (.inr HB1.out) (cells_room hroom hb) (by omega)).mono ?_
      rintro e w2 ⟨rfl, hb2, hl2⟩
      have HB2 := Lib.hid hb2; clear hb2
      have HL2 := Lib.hid hl2; clear hl2
      go_wp2
      go_roundg (n - (k + 1))
      case measure => omega
      case rel =>
        refine ⟨k + 1, by omega, Nat.le_refl _, by go_num, Below.trans (Below.trans HW.out HL1.out) HL2.out, .inr ?_⟩
        rw [HN.out]
        have := HB2.out
        simpa [Lib.byteCells, Lib.strCells, bytes] using this
    · have hkn : k = n := by omega
      have e : l.take k = l := List.take_of_length_le (by rw [HX.out.len]; omega)
      rw [e] at HB
      clear e
      go_wp2_with fail
      refine (Tryd.Builder_String_any w.heap.size w.heap.size _ wr HB.out hle).mono ?_
      rintro e w1 ⟨rfl, hl1⟩
      have HL1 := Lib.hid hl1; clear hl1
      go_wp2
      go_ret
      exact ⟨rfl, Below.trans HW.out HL1.out⟩

end Go.Proofs.YtboffgmaohcpfaaDoor
