/-
  What the document's Text comes to, as a call.
-/
import Derived.Test.YtbjbimahmbapdaaDoorChecked
import Derived.Test.YtbjbimahmbapdaaDoorBase
import Derived.Test.YtbjbimahmbapdaaDoorPlainCut
import Derived.Test.YtbjbimahmbapdaaDoorOwn
import Derived.Test.YtbjbimahmbapdaaDoorWords
import Derived.Test.YtbjbimahmbapdaaDoorPlainLine
import Derived.Deep.LoopGhost
import Derived.Deep.QuietTactic
import Derived.BigQuiet
import Derived.Lib.Hide
namespace Go.Proofs.YtbjbimahmbapdaaDoor
open Go.RowKit

/-- A row of the byte 10 alone, as a text. -/
theorem conv_ten (w : World) : Sem.run Tryd.prog (convert 69 9 (.slice (some ⟨w.heap.size, 0, none⟩) 1 1)) (w.alloc (.cells #[.int .u8 10] 5)).drew = .ok (.string ⟨#[10]⟩) (w.alloc (.cells #[.int .u8 10] 5)).drew :=
  run_convert_bytes_arg (w.alloc (.cells #[.int .u8 10] 5)).drew 69 5 Tryd.underlying69 Tryd.underlying5 w.heap.size 0 1 1 [10] rfl (by intro i hi; obtain rfl : i = 0 := (by omega); simp) 9 Tryd.underlying9

set_option maxHeartbeats 400000 in
theorem refText_any (A : Option Addr) (n c : Nat) (l : List ByteArray) (w : World) (hx : Row w A n l) (hn : n ≤ 65536) (hb : (textL l).length ≤ 1000000) :
    Calls Tryd.prog 42 #[.slice A n c] w fun e w' => e = .returned (.string (txt (textL l))) ∧ Later w w' := by
  have HX := Lib.hid hx; clear hx
  go_enter Tryd.func42, Tryd.ntmps42
  go_wp2
  go_loopg [3, 4] (n + 1) (fun g s3 s4 wr => ∃ (k : Nat) (t : ByteArray), k ≤ n ∧ n - k ≤ g ∧ s4 = .int .i64 k ∧ s3 = .string t ∧ t.size ≤ 1000000 ∧ Later w wr ∧ Hid (t = txt (textL (l.take k))))
  case atStart => exact ⟨0, _, Nat.zero_le _, by omega, rfl, rfl, Nat.zero_le _, Later.refl w, rfl⟩
  case round =>
    obtain ⟨k, t, hk, hg, rfl, rfl, ht, hwr, hte⟩ := hrel
    have HW := Lib.hid hwr; clear hwr
    by_cases hlt : k < n
    · obtain ⟨b1, o1, rfl, g1⟩ := (HX.out.later HW.out).get hlt
      have hkl : k < l.length := by rw [HX.out.len]; exact hlt
      have hroom := textL_room hkl
      have hnext := textL_next hkl
      have hts : t.size = (textL (l.take k)).length := by rw [hte.out, txt_size]
      generalize l.getD k ByteArray.empty = x at g1 hroom hnext
      have hr2 : t.size + x.size + 1 ≤ 1000000 := by omega
      have hr3 : t.size + x.size ≤ 9223372036854775807 := by omega
      have HN := Lib.hid hnext; clear hnext hroom hts
      have hcv := conv_ten wr
      have hnl : ¬ 9223372036854775807 < t.size + x.size := by omega
      have hnl2 : ¬ 9223372036854775807 < t.size + x.size + 1 := by omega
      have hblt : b1 < wr.heap.size := lt_of_cell g1
      have g2 : (wr.alloc (.cells #[.int .u8 10] 5)).cell? ⟨b1, o1 + k, none⟩ = some (.string x) := ((Later.refl wr).alloc _).cell g1
      go_wp2_with fail
      go_region
      all_goals
        clear hcv hnl hnl2 g2
        go_wp2
        go_roundg (n - (k + 1))
        case measure => omega
        case rel =>
          refine ⟨k + 1, _, by omega, Nat.le_refl _, by go_num, rfl, ?_, (HW.out.alloc _).drew, ?_⟩
          · rw [ByteArray.size_append, ByteArray.size_append]; exact hr2
          · show _ = _
            rw [HN.out, hte.out]
            exact text_step _ _
    · have e : l.take k = l := List.take_of_length_le (by rw [HX.out.len]; omega)
      rw [e] at hte
      clear e
      go_wp2
      go_ret
      exact ⟨congrArg (fun z => Ending.returned (.string z)) hte.out, HW.out⟩

end Go.Proofs.YtbjbimahmbapdaaDoor
