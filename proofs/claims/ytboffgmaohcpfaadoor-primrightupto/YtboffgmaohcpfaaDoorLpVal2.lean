/-
  Prims as values, and what the document's calls on them tell.
-/
import Derived.Test.YtboffgmaohcpfaaDoorLpVal
import Derived.Test.YtboffgmaohcpfaaDoorRpRight
import Derived.Test.YtboffgmaohcpfaaDoorRpSame
import Derived.Test.YtboffgmaohcpfaaDoorRpInvert
import Derived.Test.YtboffgmaohcpfaaDoorRpNames
namespace Go.Proofs.YtboffgmaohcpfaaDoor
open Go.RowKit Go.Maps

/-- A row of lines, nothing else has turned. -/
def GivesL (l : List ByteArray) (w : World) (e : Ending) (w' : World) : Prop := ∃ v, e = .returned v ∧ Reads w' v l ∧ Later w w'
theorem GivesRow.l {l : List ByteArray} {w w' : World} {e : Ending} (h : GivesRow l w e w') : GivesL l w e w' := by
  obtain ⟨A, c, rfl, hc, hr, hl⟩ := h
  exact ⟨_, rfl, ⟨A, _, c, rfl, hc, hr⟩, hl⟩

section
variable {w : World} {v u : Value} {p q : Pr}
theorem refRight_v (h : PrimAt w v p) : Calls Tryd.prog 10 #[v] w (Says (rightP p) w) := by
  obtain ⟨x, rfl, rfl, hx⟩ := h; exact refRightP_any x w hx
theorem refSame_v (h : PrimAt w v p) (k : PrimAt w u q) : Calls Tryd.prog 11 #[v, u] w (Says (sameP p q) w) := by
  obtain ⟨x, rfl, rfl, hx⟩ := h; obtain ⟨y, rfl, rfl, hy⟩ := k; exact refSameP_any x y w hx hy
theorem invC_ok {x : PrC} (h : PrOk w x) : PrOk w (invC x) := by
  have hm := h.mild.invert
  unfold invC
  split
  · rename_i h0
    have e : invertP x.v = { x.v with old := x.v.new, new := x.v.old } := by simp [invertP, h0]
    exact ⟨by rw [e]; exact h.new, by rw [e]; exact h.old, h.nroom, h.oroom, h.nmost, h.omost, hm.name, hm.to, hm.lo, hm.hi, hm.olds, hm.news⟩
  · rename_i h0
    have e1 : (invertP x.v).old = x.v.old := by unfold invertP; rw [if_neg h0]; (repeat' split) <;> rfl
    have e2 : (invertP x.v).new = x.v.new := by unfold invertP; rw [if_neg h0]; (repeat' split) <;> rfl
    exact ⟨by show Row w x.A x.n (invertP x.v).old; rw [e1]; exact h.old, by show Row w x.B x.m (invertP x.v).new; rw [e2]; exact h.new, h.oroom, h.nroom, h.omost, h.nmost, hm.name, hm.to, hm.lo, hm.hi, hm.olds, hm.news⟩
theorem refInvert_v (h : PrimAt w v p) : Calls Tryd.prog 13 #[v] w (GivesP (invertP p) w) := by
  obtain ⟨x, rfl, rfl, hx⟩ := h
  refine (refInvert_any x w).mono ?_
  rintro e w' ⟨rfl, hl⟩
  exact ⟨_, rfl, ⟨invC x, rfl, invC_v x, (invC_ok hx).later hl⟩, hl⟩
theorem names_v (h : PrimAt w v p) : Calls Tryd.prog 15 #[v] w (GivesL (namesP p) w) := by
  obtain ⟨x, rfl, rfl, hx⟩ := h; exact (primNames_any x w).mono fun e w' he => GivesRow.l he
theorem refNames_v (h : PrimAt w v p) : Calls Tryd.prog 16 #[v] w (GivesL (namesP p) w) := by
  obtain ⟨x, rfl, rfl, hx⟩ := h; exact (refNamesP_any x w).mono fun e w' he => GivesRow.l he
theorem lineSame_v {l r : List ByteArray} (h : Reads w v l) (k : Reads w u r) (hl : l.length ≤ 65536) (hr : r.length ≤ 65536) : Calls Tryd.prog 14 #[v, u] w (Says (sameB l r) w) := by
  obtain ⟨A, n, c, rfl, hc, h1⟩ := h
  obtain ⟨B, m, d, rfl, hd, h2⟩ := k
  refine (same_any A B n c m d l r w h1 h2 (by rw [← h1.len]; exact hl) (by rw [← h2.len]; exact hr)).mono ?_
  rintro e w' ⟨rfl, q, rfl⟩
  exact ⟨rfl, (Later.refl w).drewN q⟩
theorem namesP_length (p : Pr) : (namesP p).length ≤ 65536 := by
  unfold namesP
  split
  · simp
  · split <;> simp
end

end Go.Proofs.YtboffgmaohcpfaaDoor
