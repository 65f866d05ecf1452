/-
  Prims as values, and what calls on them tell.
-/
import Derived.Test.YtalgapoigkbiaaaPmInvert
import Derived.Test.YtalgapoigkbiaaaPmSame
import Derived.Test.YtalgapoigkbiaaaPmRight
namespace Go.Proofs.Ytalgapoigkbiaaa
open Go.RowKit Go.Maps

/-- The value is this prim, and its rows stand there. -/
def PrimAt (w : World) (v : Value) (p : Pr) : Prop := ∃ x : PrC, v = prV x ∧ x.v = p ∧ PrOk w x
theorem PrimAt.later {w w' : World} {v : Value} {p : Pr} (h : PrimAt w v p) (hl : Later w w') : PrimAt w' v p := by
  obtain ⟨x, e1, e2, e3⟩ := h; exact ⟨x, e1, e2, e3.later hl⟩
theorem PrOk.at {w : World} {x : PrC} (h : PrOk w x) : PrimAt w (prV x) x.v := ⟨x, rfl, rfl, h⟩
def GivesP (p : Pr) (w : World) (e : Ending) (w' : World) : Prop := ∃ v, e = .returned v ∧ PrimAt w' v p ∧ Later w w'

/-- Nothing of the prim is too great. -/
structure Mild (p : Pr) : Prop where
  omost : p.old.length ≤ 65536
  nmost : p.new.length ≤ 65536
  name : p.name.size ≤ maxLen
  to : p.to.size ≤ maxLen
  lo : -9223372036854775808 ≤ p.place
  hi : p.place ≤ 9223372036854775807
  olds : ∀ s ∈ p.old, s.size ≤ maxLen
  news : ∀ s ∈ p.new, s.size ≤ maxLen
theorem PrOk.mild {w : World} {x : PrC} (h : PrOk w x) : Mild x.v := ⟨by rw [h.old.len]; exact h.omost, by rw [h.new.len]; exact h.nmost, h.name, h.to, h.lo, h.hi, h.olds, h.news⟩
theorem Mild.invert {p : Pr} (h : Mild p) : Mild (invertP p) := by
  unfold invertP
  split
  · exact ⟨h.nmost, h.omost, h.name, h.to, h.lo, h.hi, h.news, h.olds⟩
  split
  · exact ⟨h.omost, h.nmost, h.name, h.to, h.lo, h.hi, h.olds, h.news⟩
  split
  · exact ⟨h.omost, h.nmost, h.name, h.to, h.lo, h.hi, h.olds, h.news⟩
  split
  · exact ⟨h.omost, h.nmost, h.to, h.name, h.lo, h.hi, h.olds, h.news⟩
  · exact h
theorem IsPr.at {p : Pr} {w w' : World} {u v : Value} (h : IsPr p w w' u v) (hm : Mild p) : PrimAt w' (.agg #[.int .i64 p.kind, .string p.name, .string p.to, .int .i64 p.place, u, v]) p := by
  obtain ⟨x, e1, e2, e3⟩ := h.ok hm.omost hm.nmost hm.name hm.to hm.lo hm.hi hm.olds hm.news
  exact ⟨x, e2, e1, e3⟩
theorem GivesPr.at {p : Pr} {w w' : World} {e : Ending} (h : GivesPr p w e w') (hm : Mild p) : GivesP p w e w' := by
  obtain ⟨u, v, rfl, hp⟩ := h
  exact ⟨_, rfl, hp.at hm, hp.later⟩

section
variable {w : World} {v u : Value} {p q : Pr}
theorem right_v (h : PrimAt w v p) : Calls Try.prog 26 #[v] w (Says (rightP p) w) := by
  obtain ⟨x, rfl, rfl, hx⟩ := h; exact primRight_any x w hx
theorem same_v (h : PrimAt w v p) (k : PrimAt w u q) : Calls Try.prog 22 #[v, u] w (Says (sameP p q) w) := by
  obtain ⟨x, rfl, rfl, hx⟩ := h; obtain ⟨y, rfl, rfl, hy⟩ := k; exact primSame_any x y w hx hy
theorem invert_v (h : PrimAt w v p) : Calls Try.prog 23 #[v] w (GivesP (invertP p) w) := by
  obtain ⟨x, rfl, rfl, hx⟩ := h; exact (primInvert_any x w hx).mono fun e w' he => GivesPr.at he hx.mild.invert
theorem clone_v (h : PrimAt w v p) : Calls Try.prog 29 #[v] w (GivesP p w) := by
  obtain ⟨x, rfl, rfl, hx⟩ := h; exact (primClone_any x w hx).mono fun e w' he => GivesPr.at he hx.mild
end

/-- A row of one prim, or of two, written out. -/
theorem prims_one {w w0 : World} {x : PrC} (hx : CameP w x) (hl : Later w w0) (t : TypeId) : Prims (w0.alloc (.cells #[.int .i64 x.v.kind, .string x.v.name, .string x.v.to, .int .i64 x.v.place, .slice x.A x.n x.c, .slice x.B x.m x.d] t)) (some ⟨w0.heap.size, 0, none⟩) 1 [x] :=
  ⟨RowK.one w0 (prL x) t, fun y hy => by simp at hy; subst hy; exact hx.later (hl.alloc _)⟩
theorem weightPs_one (x : PrC) : weightPs [x] = weightP x.v := by simp [weightPs]

end Go.Proofs.Ytalgapoigkbiaaa
