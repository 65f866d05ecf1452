/-
  Bytes as a string.
-/
import Derived.Test.YtknjkkdoeanhbaaBtMem
import Derived.Shelf.Bytes.SlSmallAll
namespace Go.Proofs.Ytknjkkdoeanhbaa
open Go.RowKit

theorem string_bytes (w : World) (A : Option Addr) (n c : Nat) (bs : Bs) (h : BsAt w A n bs) : (convert 33 9 (.slice A n c)).run Try.prog w = .ok (.string ⟨bs.toArray⟩) w := by
  have hl := h.len
  rcases Nat.eq_zero_or_pos n with h0 | h0
  · subst h0
    obtain rfl : bs = [] := List.eq_nil_of_length_eq_zero hl
    exact run_convert_bytes_zero w _ 5 Try.underlying33 Try.underlying5 A c 9 Try.underlying9
  · obtain ⟨b, o, rfl, hc⟩ := h.2 h0
    subst hl
    refine run_convert_bytes_back w _ 9 5 _ c bs Try.underlying33 Try.underlying5 Try.underlying9 fun j hj => ?_
    rw [plain_add]
    exact hc j _ (List.getElem?_eq_getElem hj)

end Go.Proofs.Ytknjkkdoeanhbaa
