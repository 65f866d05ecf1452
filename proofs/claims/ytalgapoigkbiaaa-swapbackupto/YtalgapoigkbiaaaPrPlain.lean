/-
  Prims as plain values: when they are right, what undoes them, what they make of a tree. Nothing of any program.
-/
import Derived.Test.YtalgapoigkbiaaaTrPlain
namespace Go.Proofs.Ytalgapoigkbiaaa
open Go.RowKit

/-- A prim. -/
structure Pr where
  kind : Int
  name : ByteArray
  to : ByteArray
  place : Int
  old : List ByteArray
  new : List ByteArray

/-- P3.1: is it right? -/
def rightP (p : Pr) : Bool :=
  namedB p.name &&
    (if p.kind = 0 then decide (p.to = ByteArray.empty) && decide (0 ≤ p.place ∧ p.place ≤ 1048576) && allB p.old && allB p.new && !sameB p.old p.new
    else decide (p.place = 0) && decide (p.old = []) && decide (p.new = []) &&
      (if p.kind = 3 then namedB p.to && decide (p.to ≠ p.name) else decide (p.kind = 1 ∨ p.kind = 2) && decide (p.to = ByteArray.empty)))

def sameP (p q : Pr) : Bool := decide (p.kind = q.kind) && decide (p.name = q.name) && decide (p.to = q.to) && decide (p.place = q.place) && sameB p.old q.old && sameB p.new q.new

/-- P3.2: what undoes it. -/
def invertP (p : Pr) : Pr :=
  if p.kind = 0 then { p with old := p.new, new := p.old }
  else if p.kind = 1 then { p with kind := 2 }
  else if p.kind = 2 then { p with kind := 1 }
  else if p.kind = 3 then { p with name := p.to, to := p.name }
  else p

/-- P3.1: the files that it names. -/
def namesP (p : Pr) : List ByteArray := if p.kind ≠ 3 then [p.name] else if ltN p.name p.to = true then [p.name, p.to] else [p.to, p.name]

/-- P3.3: what it makes of a tree, and the error. -/
def hunkT (t : Tr) (p : Pr) : Tr × Int :=
  match getT t p.name with
  | none => (t, 31)
  | some l => if standsB l p.place p.old = true then (withT t p.name (spliced l p.place.toNat p.old.length p.new), 0) else (t, 31)
def applyP (t : Tr) (p : Pr) : Tr × Int :=
  if rightP p = false then (t, 30)
  else if p.kind = 0 then hunkT t p
  else if p.kind = 1 then (if hasT t p.name = true then (t, 31) else (withT t p.name [], 0))
  else if p.kind = 2 then (match getT t p.name with | none => (t, 31) | some l => if 0 < l.length then (t, 31) else (withoutT t p.name, 0))
  else (match getT t p.name with | none => (t, 31) | some l => if hasT t p.to = true then (t, 31) else (withT (withoutT t p.name) p.to l, 0))

theorem sameP_iff {p q : Pr} : sameP p q = true ↔ p = q := by
  obtain ⟨a, b, c, d, e, f⟩ := p
  obtain ⟨a', b', c', d', e', f'⟩ := q
  simp only [sameP, sameB, Bool.and_eq_true, decide_eq_true_eq, Pr.mk.injEq]
  exact ⟨fun ⟨⟨⟨⟨⟨h1, h2⟩, h3⟩, h4⟩, h5⟩, h6⟩ => ⟨h1, h2, h3, h4, h5, h6⟩, fun ⟨h1, h2, h3, h4, h5, h6⟩ => ⟨⟨⟨⟨⟨h1, h2⟩, h3⟩, h4⟩, h5⟩, h6⟩⟩
theorem sameP_self (p : Pr) : sameP p p = true := sameP_iff.2 rfl
theorem invert_twice (p : Pr) : invertP (invertP p) = p := by
  obtain ⟨k, nm, to, at_, old, new⟩ := p
  unfold invertP
  by_cases h0 : k = 0
  · simp [h0]
  by_cases h1 : k = 1
  · simp [h1]
  by_cases h2 : k = 2
  · simp [h2]
  by_cases h3 : k = 3
  · simp [h3]
  simp [h0, h1, h2, h3]
theorem sameB_comm (a b : List ByteArray) : sameB a b = sameB b a := by simp only [sameB]; exact decide_eq_decide.2 eq_comm
theorem right_invert (p : Pr) : rightP (invertP p) = rightP p := by
  obtain ⟨k, nm, to, at_, old, new⟩ := p
  unfold invertP
  by_cases h0 : k = 0
  · subst h0; simp only [rightP, if_true]; rw [sameB_comm new old]; cases allB old <;> cases allB new <;> simp
  by_cases h1 : k = 1
  · subst h1; simp [rightP]
  by_cases h2 : k = 2
  · subst h2; simp [rightP]
  by_cases h3 : k = 3
  · subst h3
    simp only [rightP, Int.reduceEq, if_false, if_true]
    have : decide (nm ≠ to) = decide (to ≠ nm) := decide_eq_decide.2 ne_comm
    rw [this]
    cases namedB nm <;> cases namedB to <;> simp
  simp [h0, h1, h2, h3]

section
variable {α : Type}
theorem with_same {t : Fl α} (ht : Rising t) {n : ByteArray} {x : α} (h : getT t n = some x) : withT t n x = t := by
  refine rising_ext (rising_with ht n x) ht fun f => ?_
  rw [mem_with]
  constructor
  · rintro (rfl | h1)
    · exact getT_mem h
    · exact h1.1
  · intro hf
    by_cases e : f.1 = n
    · exact .inl (rising_one ht hf (getT_mem h) e)
    · exact .inr ⟨hf, e⟩
theorem with_with {t : Fl α} (ht : Rising t) (n : ByteArray) (x y : α) : withT (withT t n x) n y = withT t n y := by
  refine rising_ext (rising_with (rising_with ht n x) n y) (rising_with ht n y) fun f => ?_
  rw [mem_with, mem_with, mem_with]
  constructor
  · rintro (rfl | ⟨rfl | h1, h2⟩)
    · exact .inl rfl
    · exact absurd rfl h2
    · exact .inr h1
  · rintro (rfl | h1)
    · exact .inl rfl
    · exact .inr ⟨.inr h1, h1.2⟩
end

/-- P3.4: what was applied can be undone. -/
theorem apply_back {t u : Tr} {p : Pr} (ht : Rising t) (h : applyP t p = (u, 0)) : applyP u (invertP p) = (t, 0) := by
  have hr : rightP p = true := by
    cases e : rightP p
    · simp [applyP, e] at h
    · rfl
  have hr' : rightP (invertP p) = true := by rw [right_invert]; exact hr
  simp only [applyP, hr, Bool.true_eq_false, if_false] at h
  simp only [applyP, hr', Bool.true_eq_false, if_false]
  obtain ⟨k, nm, to, at_, old, new⟩ := p
  by_cases h0 : k = 0
  · subst h0
    simp only [if_true, hunkT] at h
    cases hg : getT t nm with
    | none => simp [hg] at h
    | some l =>
      simp only [hg] at h
      by_cases hs : standsB l at_ old = true
      · simp only [hs, if_true, Prod.mk.injEq, and_true] at h
        subst h
        obtain ⟨a, rfl⟩ := Int.eq_ofNat_of_zero_le (standsB_le hs).1
        simp only [invertP, if_true, hunkT]
        rw [get_with_same ht]
        simp only [Int.toNat_natCast] at *
        rw [stands_back hs, if_pos rfl, spliced_back hs, with_with ht, with_same ht hg]
      · simp [hs] at h
  by_cases h1 : k = 1
  · subst h1
    simp only [Int.reduceEq, if_false, if_true] at h
    cases hh : hasT t nm
    · simp only [hh, Bool.false_eq_true, if_false, Prod.mk.injEq, and_true] at h
      subst h
      simp only [invertP, Int.reduceEq, if_false, if_true]
      rw [get_with_same ht]
      simp [without_with ht hh]
    · simp [hh] at h
  by_cases h2 : k = 2
  · subst h2
    simp only [Int.reduceEq, if_false, if_true] at h
    cases hg : getT t nm with
    | none => simp [hg] at h
    | some l =>
      simp only [hg] at h
      cases l with
      | cons x l => simp at h
      | nil =>
        simp only [List.length_nil, Nat.lt_irrefl, if_false, Prod.mk.injEq, and_true] at h
        subst h
        simp only [invertP, Int.reduceEq, if_false, if_true]
        rw [has_without_same, if_neg (by simp), with_without ht hg]
  by_cases h3 : k = 3
  · subst h3
    simp only [Int.reduceEq, if_false] at h
    cases hg : getT t nm with
    | none => simp [hg] at h
    | some l =>
      simp only [hg] at h
      cases hh : hasT t to
      · simp only [hh, Bool.false_eq_true, if_false, Prod.mk.injEq, and_true] at h
        subst h
        simp only [invertP, Int.reduceEq, if_false, if_true]
        have hne : nm ≠ to := by rintro rfl; rw [getT_has hg] at hh; cases hh
        rw [get_with_same (rising_without ht nm), has_with_other l hne, has_without_same]
        simp only [Bool.false_eq_true, if_false]
        rw [without_with (rising_without ht nm) (has_without_no hh nm), with_without ht hg]
      · simp [hh] at h
  · simp [rightP, h0, h1, h2, h3] at hr

end Go.Proofs.Ytalgapoigkbiaaa
