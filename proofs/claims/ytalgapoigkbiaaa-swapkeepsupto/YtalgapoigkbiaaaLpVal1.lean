/-
  Prims as values, and what the document's calls on them tell (but Invert).
-/
import Derived.Test.YtalgapoigkbiaaaLpVal
import Derived.Test.YtalgapoigkbiaaaRpRight
import Derived.Test.YtalgapoigkbiaaaRpSame
import Derived.Test.YtalgapoigkbiaaaRpNames
namespace Go.Proofs.Ytalgapoigkbiaaa
open Go.RowKit Go.Maps

/-- A row of lines, nothing else has turned. -/
def GivesL (l : List ByteArray) (w : World) (e : Ending) (w' : World) : Prop := ∃ v, e = .returned v ∧ Reads w' v l ∧ Later w w'
theorem GivesRow.l {l : List ByteArray} {w w' : World} {e : Ending} (h : GivesRow l w e w') : GivesL l w e w' := by
  obtain ⟨A, c, rfl, hc, hr, hl⟩ := h
  exact ⟨_, rfl, ⟨A, _, c, rfl, hc, hr⟩, hl⟩

section
variable {w : World} {v u : Value} {p q : Pr}
theorem refRight_v (h : PrimAt w v p) : Calls Try.prog 30 #[v] w (Says (rightP p) w) := by
  obtain ⟨x, rfl, rfl, hx⟩ := h; exact refRightP_any x w hx
theorem refSame_v (h : PrimAt w v p) (k : PrimAt w u q) : Calls Try.prog 14 #[v, u] w (Says (sameP p q) w) := by
  obtain ⟨x, rfl, rfl, hx⟩ := h; obtain ⟨y, rfl, rfl, hy⟩ := k; exact refSameP_any x y w hx hy
theorem names_v (h : PrimAt w v p) : Calls Try.prog 68 #[v] w (GivesL (namesP p) w) := by
  obtain ⟨x, rfl, rfl, hx⟩ := h; exact (primNames_any x w).mono fun e w' he => GivesRow.l he
theorem refNames_v (h : PrimAt w v p) : Calls Try.prog 73 #[v] w (GivesL (namesP p) w) := by
  obtain ⟨x, rfl, rfl, hx⟩ := h; exact (refNamesP_any x w).mono fun e w' he => GivesRow.l he
theorem lineSame_v {l r : List ByteArray} (h : Reads w v l) (k : Reads w u r) (hl : l.length ≤ 65536) (hr : r.length ≤ 65536) : Calls Try.prog 39 #[v, u] w (Says (sameB l r) w) := by
  obtain ⟨A, n, c, rfl, hc, h1⟩ := h
  obtain ⟨B, m, d, rfl, hd, h2⟩ := k
  refine (same_any A B n c m d l r w h1 h2 (by rw [← h1.len]; exact hl) (by rw [← h2.len]; exact hr)).mono ?_
  rintro e w' ⟨rfl, q, rfl⟩
  exact ⟨rfl, (Later.refl w).drewN q⟩
theorem namesP_length (p : Pr) : (namesP p).length ≤ 65536 := by
  unfold namesP
  split
  · simp
  · split <;> simp
end

end Go.Proofs.Ytalgapoigkbiaaa
