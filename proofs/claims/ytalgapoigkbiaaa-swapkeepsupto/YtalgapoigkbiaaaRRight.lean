/-
  What the document's Right comes to, as a call.
-/
import Derived.Test.YtalgapoigkbiaaaChecked
import Derived.Test.YtalgapoigkbiaaaBase
import Derived.Test.YtalgapoigkbiaaaWords
import Derived.Test.YtalgapoigkbiaaaPlainLine
import Derived.Deep.LoopGhost
import Derived.Deep.QuietTactic
import Derived.BigQuiet
import Derived.Lib.Hide
namespace Go.Proofs.Ytalgapoigkbiaaa
open Go.RowKit

set_option maxHeartbeats 400000 in
theorem refRight_any (s : ByteArray) (w : World) (hs : s.size ≤ maxLen) :
    Calls Try.prog 72 #[.string s] w fun e w' => e = .returned (.bool (rightB s)) ∧ w = w' := by
  unfold maxLen at hs
  go_enter Try.func72, Try.ntmps72
  go_wp2
  go_loop [3] (fun i => ∃ k : Nat, k ≤ s.size ∧ i = .int .i64 k ∧ Hid (∀ j : Nat, j < k → s.data.toList[j]? ≠ some 10)) (fun i => s.size - (intOf i).toNat)
  case atStart => exact ⟨0, Nat.zero_le _, rfl, fun j hj => absurd hj (Nat.not_lt_zero _)⟩
  case round =>
    obtain ⟨k, hk, rfl, hno⟩ := hrel
    by_cases hlt : k < s.size
    · go_wp2
      · have h10 := byte_is (c := s[k]) ‹_›
        have e : rightB s = false := by
          unfold rightB
          rw [hasEnd_yes (k := k) (by rw [byte_at hlt, h10])]; simp
        have E := Lib.hid e
        go_ret
        exact ⟨ret_bool E.out.symm, rfl⟩
      · have h10 := byte_isnt (c := s[k]) ‹_›
        refine ⟨⟨k + 1, by omega, by go_num, fun j hj => ?_⟩, by simp [intOf]; omega⟩
        by_cases e : j = k
        · subst e; rw [byte_at hlt]; simpa using h10
        · exact hno.out j (by omega)
    · have e : rightB s = decide (s.size ≤ 60) := by
        unfold rightB
        rw [hasEnd_no (fun j => ?_)]; simp
        by_cases hj : j < k
        · exact hno.out j hj
        · rw [List.getElem?_eq_none (by simp; omega)]; simp
      have E := Lib.hid e; clear e hno
      go_wp2
      go_ret
      exact ⟨ret_bool (by rw [E.out]; simp; omega), rfl⟩

end Go.Proofs.Ytalgapoigkbiaaa
