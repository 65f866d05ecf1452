import Derived.Test.YtomboeiaajggoaaGreatDoorPk12

/-
  Rows of prims as plain lists: what undoes them, what they make of a tree, and one row behind another one. Nothing of any program.
-/
namespace Go.Proofs.YtomboeiaajggoaaGreatDoor
open Go.RowKit

/-- P5.1: what undoes a row. -/
def invertS (l : List Pr) : List Pr := (l.map invertP).reverse
/-- The trees that a row makes, one prim behind the other, and the first error. -/
def runS : Tr → List Pr → Tr × Int
  | t, [] => (t, 0)
  | t, p :: l => if (applyP t p).2 = 0 then runS (applyP t p).1 l else applyP t p
/-- P5.1: with an error the tree is as it was. -/
def applyS (t : Tr) (l : List Pr) : Tr × Int := if (runS t l).2 = 0 then runS t l else (t, (runS t l).2)

/-- A prim goes behind all of a row. -/
def swap1 : Pr → List Pr → Option (List Pr × Pr)
  | p, [] => some ([], p)
  | p, q :: m => (swapP p q).bind fun s => (swap1 s.2 m).map fun r => (s.1 :: r.1, r.2)
/-- P5.2: from the last one of l on, each goes behind all of m. -/
def swapS : List Pr → List Pr → Option (List Pr × List Pr)
  | [], m => some (m, [])
  | p :: l, m => (swapS l m).bind fun s => (swap1 p s.1).map fun r => (r.1, r.2 :: s.2)
/-- P5.3. -/
def rebaseS (m l : List Pr) : Option (List Pr) := (swapS (invertS l) m).map (·.1)
/-- P5.4, of places that are wanted: one round. -/
def splitStep (w : Bool) (s : List Pr × List Pr) (p : Pr) : List Pr × List Pr :=
  match swapS s.2 [p] with
  | some r => if w = true then (s.1 ++ r.1, r.2) else (s.1, s.2 ++ [p])
  | none => (s.1, s.2 ++ [p])
def splitS (wanted : Nat → Bool) : Nat → List Pr × List Pr → List Pr → List Pr × List Pr
  | _, s, [] => s
  | k, s, p :: l => splitS wanted (k + 1) (splitStep (wanted k) s p) l

theorem invertS_nil : invertS [] = [] := rfl
theorem invertS_cons (p : Pr) (l : List Pr) : invertS (p :: l) = invertS l ++ [invertP p] := by simp [invertS]
theorem invertS_append (l m : List Pr) : invertS (l ++ m) = invertS m ++ invertS l := by simp [invertS]
theorem invertS_one (p : Pr) : invertS [p] = [invertP p] := rfl
theorem invertS_twice (l : List Pr) : invertS (invertS l) = l := by
  induction l with
  | nil => rfl
  | cons p l ih => rw [invertS_cons, invertS_append, ih, invertS_one, invert_twice]; rfl
theorem invertS_length (l : List Pr) : (invertS l).length = l.length := by simp [invertS]

section
variable {p q : Pr} {l m a b : List Pr}
theorem swap1_cons {r : List Pr × Pr} : swap1 p (q :: m) = some r ↔ ∃ q' p1 m' p', swapP p q = some (q', p1) ∧ swap1 p1 m = some (m', p') ∧ r = (q' :: m', p') := by
  simp only [swap1]
  constructor
  · intro h
    obtain ⟨⟨q', p1⟩, h1, h⟩ := Option.bind_eq_some_iff.1 h
    obtain ⟨⟨m', p'⟩, h2, h⟩ := Option.map_eq_some_iff.1 h
    exact ⟨q', p1, m', p', h1, h2, h.symm⟩
  · rintro ⟨q', p1, m', p', h1, h2, rfl⟩
    simp [h1, h2]
theorem swapS_cons {r : List Pr × List Pr} : swapS (p :: l) m = some r ↔ ∃ m1 l' m2 p', swapS l m = some (m1, l') ∧ swap1 p m1 = some (m2, p') ∧ r = (m2, p' :: l') := by
  simp only [swapS]
  constructor
  · intro h
    obtain ⟨⟨m1, l'⟩, h1, h⟩ := Option.bind_eq_some_iff.1 h
    obtain ⟨⟨m2, p'⟩, h2, h⟩ := Option.map_eq_some_iff.1 h
    exact ⟨m1, l', m2, p', h1, h2, h.symm⟩
  · rintro ⟨q', p1, m', p', h1, h2, rfl⟩
    simp [h1, h2]
theorem swap1_length {r : List Pr × Pr} : ∀ {m : List Pr} {p : Pr}, swap1 p m = some r → r.1.length = m.length := by
  intro m
  induction m generalizing r with
  | nil => intro p h; cases h; rfl
  | cons q m ih =>
    intro p h
    obtain ⟨q', p1, m', p', _, h2, rfl⟩ := swap1_cons.1 h
    have := ih h2
    simp only [List.length_cons] at *
    omega
theorem swapS_length (h : swapS l m = some (a, b)) : a.length = m.length ∧ b.length = l.length := by
  induction l generalizing a b with
  | nil => cases h; exact ⟨rfl, rfl⟩
  | cons p l ih =>
    obtain ⟨m1, l', m2, p', h1, h2, e⟩ := swapS_cons.1 h
    cases e
    have k1 := ih h1
    have k2 := swap1_length h2
    simp only [List.length_cons] at *
    omega
theorem swapS_nil_right (l : List Pr) : swapS l [] = some ([], l) := by
  induction l with
  | nil => rfl
  | cons p l ih => simp [swapS, ih, swap1]
theorem swapS_one (p : Pr) (m : List Pr) : swapS [p] m = (swap1 p m).map fun r => (r.1, [r.2]) := by
  simp [swapS]
theorem swapS_ones (p q : Pr) : swapS [p] [q] = (swapP p q).map fun s => ([s.1], [s.2]) := by
  rw [swapS_one]
  simp only [swap1]
  cases swapP p q <;> rfl

/-- A prim behind two rows. -/
theorem swap1_append : swap1 p (l ++ m) = (swap1 p l).bind fun s => (swap1 s.2 m).map fun r => (s.1 ++ r.1, r.2) := by
  induction l generalizing p with
  | nil => simp [swap1]
  | cons q l ih =>
    simp only [List.cons_append, swap1]
    cases swapP p q with
    | none => rfl
    | some s =>
      simp only [Option.bind_some, ih]
      cases swap1 s.2 l with
      | none => rfl
      | some r =>
        simp only [Option.bind_some, Option.map_some]
        cases swap1 r.2 m <;> rfl
/-- A row behind two rows. -/
theorem swapS_append_right {k : List Pr} : swapS k (l ++ m) = (swapS k l).bind fun s => (swapS s.2 m).map fun r => (s.1 ++ r.1, r.2) := by
  induction k generalizing l m with
  | nil => simp [swapS]
  | cons p k ih =>
    simp only [swapS, ih]
    cases h1 : swapS k l with
    | none => rfl
    | some s =>
      simp only [Option.bind_some]
      cases h2 : swapS s.2 m with
      | none =>
        simp only [Option.map_none, Option.bind_none]
        cases h3 : swap1 p s.1 with
        | none => rfl
        | some r => simp only [Option.map_some, Option.bind_some, swapS, h2, Option.bind_none, Option.map_none]
      | some r =>
        simp only [Option.map_some, Option.bind_some, swap1_append]
        cases h3 : swap1 p s.1 with
        | none => rfl
        | some u =>
          simp only [Option.map_some, Option.bind_some, swapS, h2]
          cases swap1 u.2 r.1 <;> rfl
/-- Two rows behind a row. -/
theorem swapS_append_left {k : List Pr} : swapS (l ++ k) m = (swapS k m).bind fun s => (swapS l s.1).map fun r => (r.1, r.2 ++ s.2) := by
  induction l with
  | nil => simp only [List.nil_append, swapS]; cases swapS k m <;> rfl
  | cons p l ih =>
    simp only [List.cons_append, swapS, ih]
    cases swapS k m with
    | none => rfl
    | some s =>
      simp only [Option.bind_some]
      cases swapS l s.1 with
      | none => rfl
      | some r =>
        simp only [Option.map_some, Option.bind_some]
        cases swap1 p r.1 <;> rfl
theorem swapS_cons_right {q : Pr} : swapS l (q :: m) = (swapS l [q]).bind fun s => (swapS s.2 m).map fun r => (s.1 ++ r.1, r.2) := swapS_append_right (l := [q])

theorem swap1_back {m' : List Pr} {p' : Pr} (h : swap1 p m = some (m', p')) : swapS m' [p'] = some ([p], m) := by
  induction m generalizing p m' with
  | nil => cases h; rfl
  | cons q m ih =>
    obtain ⟨q', p1, m1, p2, h1, h2, e⟩ := swap1_cons.1 h
    cases e
    have k := ih h2
    have := swap_back h1
    simp only [swapS, k, Option.bind_some, swap1, this, Option.map_some]
/-- P5.5: swapped again, both are as they were. -/
theorem swapS_back (h : swapS l m = some (a, b)) : swapS a b = some (l, m) := by
  induction l generalizing a b with
  | nil => cases h; exact swapS_nil_right _
  | cons p l ih =>
    obtain ⟨m1, l', m2, p', h1, h2, e⟩ := swapS_cons.1 h
    cases e
    rw [swapS_cons_right, swap1_back h2]
    simp only [Option.bind_some, ih h1, Option.map_some]
    rfl
theorem swap1_inverts {m' : List Pr} {p' : Pr} (h : swap1 p m = some (m', p')) : swapS (invertS m) [invertP p] = some ([invertP p'], invertS m') := by
  induction m generalizing p m' with
  | nil => cases h; rfl
  | cons q m ih =>
    obtain ⟨q', p1, m1, p2, h1, h2, e⟩ := swap1_cons.1 h
    cases e
    rw [invertS_cons, swapS_append_left, swapS_ones, swap_inverts_some h1]
    simp only [Option.map_some, Option.bind_some, ih h2, invertS_cons]
/-- P5.5: what undoes m, and what undoes l. -/
theorem swapS_inverts_some (h : swapS l m = some (a, b)) : swapS (invertS m) (invertS l) = some (invertS b, invertS a) := by
  induction l generalizing a b with
  | nil => cases h; rw [invertS_nil, swapS_nil_right]
  | cons p l ih =>
    obtain ⟨m1, l', m2, p', h1, h2, e⟩ := swapS_cons.1 h
    cases e
    rw [invertS_cons, swapS_append_right, ih h1]
    simp only [Option.bind_some, swap1_inverts h2, Option.map_some, invertS_cons]
theorem swapS_inverts (l m : List Pr) : swapS (invertS m) (invertS l) = (swapS l m).map fun r => (invertS r.2, invertS r.1) := by
  cases h : swapS l m with
  | some r => exact swapS_inverts_some h
  | none =>
    cases k : swapS (invertS m) (invertS l) with
    | none => rfl
    | some r =>
      have := swapS_inverts_some k
      rw [invertS_twice, invertS_twice, h] at this
      cases this
end

section
variable {t u v : Tr} {p : Pr} {l m a b : List Pr}
theorem runS_cons : runS t (p :: l) = (u, 0) ↔ ∃ s, applyP t p = (s, 0) ∧ runS s l = (u, 0) := by
  simp only [runS]
  constructor
  · intro h
    split at h
    · rename_i e; exact ⟨_, by rw [← e], h⟩
    · rename_i e; rw [h] at e; exact absurd rfl e
  · rintro ⟨s, h1, h2⟩
    rw [h1]; simp [h2]
theorem runS_append : runS t (l ++ m) = (u, 0) ↔ ∃ s, runS t l = (s, 0) ∧ runS s m = (u, 0) := by
  induction l generalizing t with
  | nil => simp [runS]
  | cons p l ih =>
    rw [List.cons_append, runS_cons]
    simp only [runS_cons, ih]
    constructor
    · rintro ⟨s, h1, r, h2, h3⟩; exact ⟨r, ⟨s, h1, h2⟩, h3⟩
    · rintro ⟨r, ⟨s, h1, h2⟩, h3⟩; exact ⟨s, h1, r, h2, h3⟩
theorem applyS_ok : applyS t l = (u, 0) ↔ runS t l = (u, 0) := by
  unfold applyS
  constructor
  · intro h
    split at h
    · exact h
    · rename_i e; simp only [Prod.mk.injEq] at h; exact absurd h.2 e
  · intro h; rw [h]; rfl
theorem applyS_no (h : (applyS t l).2 ≠ 0) : (applyS t l).1 = t := by
  unfold applyS at *
  split
  · rename_i e; rw [if_pos e] at h; exact absurd e h
  · rfl
theorem runS_rising (ht : Rising t) (h : runS t l = (u, 0)) : Rising u := by
  induction l generalizing t with
  | nil => simp only [runS, Prod.mk.injEq, and_true] at h; exact h ▸ ht
  | cons p l ih =>
    obtain ⟨s, h1, h2⟩ := runS_cons.1 h
    exact ih (apply_makes ht h1).2.1 h2
/-- P5.5: what was applied can be undone. -/
theorem runS_back (ht : Rising t) (h : runS t l = (u, 0)) : runS u (invertS l) = (t, 0) := by
  induction l generalizing t with
  | nil => simp only [runS, Prod.mk.injEq, and_true] at h; subst h; rfl
  | cons p l ih =>
    obtain ⟨s, h1, h2⟩ := runS_cons.1 h
    rw [invertS_cons, runS_append]
    refine ⟨s, ih (apply_makes ht h1).2.1 h2, ?_⟩
    rw [runS_cons]
    exact ⟨t, apply_back ht h1, rfl⟩
theorem swap1_fits {m' : List Pr} {p' : Pr} (ht : Rising t) (h1 : applyP t p = (u, 0)) (h2 : runS u m = (v, 0)) (h : swap1 p m = some (m', p')) : ∃ u', runS t m' = (u', 0) ∧ applyP u' p' = (v, 0) := by
  induction m generalizing p m' t u with
  | nil =>
    cases h
    simp only [runS, Prod.mk.injEq, and_true] at h2
    subst h2
    exact ⟨t, rfl, h1⟩
  | cons q m ih =>
    obtain ⟨q', p1, m1, p2, g1, g2, e⟩ := swap1_cons.1 h
    cases e
    obtain ⟨s, k1, k2⟩ := runS_cons.1 h2
    obtain ⟨r, r1, r2⟩ := swap_fits ht h1 k1 g1
    obtain ⟨w, w1, w2⟩ := ih (apply_makes ht r1).2.1 r2 k2 g2
    exact ⟨w, runS_cons.2 ⟨r, r1, w1⟩, w2⟩
/-- P5.5: rows that were swapped make what these made. -/
theorem swapS_fits (ht : Rising t) (h1 : runS t l = (u, 0)) (h2 : runS u m = (v, 0)) (h : swapS l m = some (a, b)) : ∃ u', runS t a = (u', 0) ∧ runS u' b = (v, 0) := by
  induction l generalizing a b t with
  | nil =>
    cases h
    simp only [runS, Prod.mk.injEq, and_true] at h1
    subst h1
    exact ⟨v, h2, rfl⟩
  | cons p l ih =>
    obtain ⟨m1, l', m2, p', g1, g2, e⟩ := swapS_cons.1 h
    cases e
    obtain ⟨s, k1, k2⟩ := runS_cons.1 h1
    obtain ⟨r, r1, r2⟩ := ih (apply_makes ht k1).2.1 k2 g1
    obtain ⟨w, w1, w2⟩ := swap1_fits ht k1 r1 g2
    exact ⟨w, w1, runS_cons.2 ⟨r, w2, r2⟩⟩

theorem rebase_iff : rebaseS m l = some a ↔ ∃ b, swapS (invertS l) m = some (a, b) := by
  unfold rebaseS
  constructor
  · intro h
    obtain ⟨⟨x, b⟩, h1, rfl⟩ := Option.map_eq_some_iff.1 h
    exact ⟨b, h1⟩
  · rintro ⟨b, h⟩; rw [h]; rfl
/-- P5.5: either can be, if one can. -/
theorem rebase_other (h : swapS (invertS l) m = some (a, b)) : rebaseS l m = some (invertS b) := by
  have := swapS_inverts_some h
  rw [invertS_twice] at this
  exact rebase_iff.2 ⟨_, this⟩
theorem rebase_some (l m : List Pr) : (rebaseS m l).isSome = (rebaseS l m).isSome := by
  have key : ∀ l m : List Pr, (rebaseS m l).isSome = true → (rebaseS l m).isSome = true := fun l m h => by
    obtain ⟨x, hx⟩ := Option.isSome_iff_exists.1 h
    obtain ⟨b, hb⟩ := rebase_iff.1 hx
    rw [rebase_other hb]; rfl
  rw [Bool.eq_iff_iff]
  exact ⟨key l m, key m l⟩
/-- P5.5: both orders of merging make the same tree. -/
theorem merges {t1 u1 : Tr} {c : List Pr} (ht : Rising t) (h1 : runS t l = (t1, 0)) (h2 : runS t m = (u1, 0)) (h : rebaseS m l = some a) (k : rebaseS l m = some c) : ∃ v, runS t1 a = (v, 0) ∧ runS u1 c = (v, 0) := by
  obtain ⟨b, hb⟩ := rebase_iff.1 h
  rw [rebase_other hb] at k
  cases k
  have r1 := runS_rising ht h1
  obtain ⟨w, w1, w2⟩ := swapS_fits r1 (runS_back ht h1) h2 hb
  exact ⟨w, w1, runS_back (runS_rising r1 w1) w2⟩

theorem splitStep_fits {s : List Pr × List Pr} (ht : Rising t) (w : Bool) (h : runS t (s.1 ++ s.2 ++ [p]) = (u, 0)) : runS t ((splitStep w s p).1 ++ (splitStep w s p).2) = (u, 0) := by
  unfold splitStep
  have same : runS t (s.1 ++ (s.2 ++ [p])) = (u, 0) := by rw [← List.append_assoc]; exact h
  cases hs : swapS s.2 [p] with
  | none => exact same
  | some r =>
    obtain ⟨a, b⟩ := r
    dsimp only
    split
    · obtain ⟨x, x1, x2⟩ := runS_append.1 same
      obtain ⟨y, y1, y2⟩ := runS_append.1 x2
      obtain ⟨z, z1, z2⟩ := swapS_fits (runS_rising ht x1) y1 y2 hs
      rw [List.append_assoc]
      exact runS_append.2 ⟨x, x1, runS_append.2 ⟨z, z1, z2⟩⟩
    · exact same
/-- P5.5: what is brought ahead, and the rest, make the tree that the row made. -/
theorem splitS_fits (ht : Rising t) (wanted : Nat → Bool) (l : List Pr) (k : Nat) (s : List Pr × List Pr) (h : runS t (s.1 ++ s.2 ++ l) = (u, 0)) : runS t ((splitS wanted k s l).1 ++ (splitS wanted k s l).2) = (u, 0) := by
  induction l generalizing k s with
  | nil => simpa [splitS] using h
  | cons p l ih =>
    refine ih (k + 1) _ ?_
    rw [show s.1 ++ s.2 ++ p :: l = (s.1 ++ s.2 ++ [p]) ++ l by simp] at h
    obtain ⟨x, x1, x2⟩ := runS_append.1 h
    exact runS_append.2 ⟨x, splitStep_fits ht _ x1, x2⟩
end

end Go.Proofs.YtomboeiaajggoaaGreatDoor

/-
  Rows of prims as plain lists: when they are the same, how many lines they have, the trees that they make. Nothing of any program.
-/
namespace Go.Proofs.YtomboeiaajggoaaGreatDoor
open Go.RowKit

/-- Are two rows the same? -/
def sameS : List Pr → List Pr → Bool
  | [], [] => true
  | p :: a, q :: b => sameP p q && sameS a b
  | _, _ => false
theorem sameS_iff : ∀ {a b : List Pr}, sameS a b = true ↔ a = b
  | [], [] => by simp [sameS]
  | [], q :: b => by simp [sameS]
  | p :: a, [] => by simp [sameS]
  | p :: a, q :: b => by simp only [sameS, Bool.and_eq_true, sameP_iff, sameS_iff (a := a) (b := b), List.cons.injEq]
theorem sameS_self (a : List Pr) : sameS a a = true := sameS_iff.2 rfl
theorem sameS_length {a b : List Pr} (h : a.length ≠ b.length) : sameS a b = false := by
  cases hs : sameS a b
  · rfl
  · exact absurd (congrArg List.length (sameS_iff.1 hs)) h
/-- They differ at a place. -/
theorem sameS_at {a b : List Pr} {k : Nat} {p q : Pr} (h1 : a[k]? = some p) (h2 : b[k]? = some q) (h : sameP p q = false) : sameS a b = false := by
  cases hs : sameS a b
  · rfl
  · rw [sameS_iff.1 hs, h2] at h1
    cases h1
    rw [sameP_self] at h
    cases h
/-- They are the same at all places. -/
theorem sameS_all {a b : List Pr} (hl : a.length = b.length) (h : ∀ (k : Nat) (p q : Pr), a[k]? = some p → b[k]? = some q → sameP p q = true) : sameS a b = true := by
  refine sameS_iff.2 (List.ext_getElem? fun k => ?_)
  rcases Nat.lt_or_ge k a.length with hk | hk
  · rw [List.getElem?_eq_getElem hk, List.getElem?_eq_getElem (by omega)]
    rw [sameP_iff.1 (h k _ _ (List.getElem?_eq_getElem hk) (List.getElem?_eq_getElem (by omega)))]
  · rw [List.getElem?_eq_none hk, List.getElem?_eq_none (by omega)]

/-- How many lines. -/
def linesS (l : List Pr) : Nat := (l.map fun p => p.old.length + p.new.length).sum
theorem linesS_nil : linesS [] = 0 := rfl
theorem linesS_cons (p : Pr) (l : List Pr) : linesS (p :: l) = p.old.length + p.new.length + linesS l := by simp [linesS]
theorem linesS_append (l m : List Pr) : linesS (l ++ m) = linesS l + linesS m := by simp [linesS]
theorem invert_lines (p : Pr) : (invertP p).old.length + (invertP p).new.length = p.old.length + p.new.length := by
  unfold invertP
  repeat' split
  all_goals first | rfl | (dsimp only; omega)
theorem linesS_invert (l : List Pr) : linesS (invertS l) = linesS l := by
  induction l with
  | nil => rfl
  | cons p l ih => rw [invertS_cons, linesS_append, ih, linesS_cons, linesS_cons, linesS_nil, invert_lines]; omega
theorem swap1_lines {p : Pr} {m : List Pr} {r : List Pr × Pr} (h : swap1 p m = some r) : linesS r.1 = linesS m ∧ r.2.old = p.old ∧ r.2.new = p.new := by
  induction m generalizing p r with
  | nil => cases h; exact ⟨rfl, rfl, rfl⟩
  | cons q m ih =>
    obtain ⟨q', p1, m', p', h1, h2, rfl⟩ := swap1_cons.1 h
    obtain ⟨k1, k2, k3⟩ := ih h2
    obtain ⟨-, e1, e2, -, -, e3, e4, -⟩ := swap_keeps h1
    dsimp only at k1 k2 k3 ⊢
    rw [linesS_cons, linesS_cons, e1, e2, k1]
    exact ⟨rfl, k2.trans e3, k3.trans e4⟩
theorem swapS_lines {l m a b : List Pr} (h : swapS l m = some (a, b)) : linesS a = linesS m ∧ linesS b = linesS l := by
  induction l generalizing a b with
  | nil => cases h; exact ⟨rfl, rfl⟩
  | cons p l ih =>
    obtain ⟨m1, l', m2, p', h1, h2, e⟩ := swapS_cons.1 h
    cases e
    obtain ⟨k1, k2⟩ := ih h1
    obtain ⟨j1, j2, j3⟩ := swap1_lines h2
    dsimp only at j1 j2 j3
    rw [linesS_cons, linesS_cons, j2, j3, k2, j1, k1]
    exact ⟨rfl, rfl⟩
theorem rebase_lines {l m a : List Pr} (h : rebaseS m l = some a) : linesS a = linesS m ∧ a.length = m.length := by
  obtain ⟨b, hb⟩ := rebase_iff.1 h
  exact ⟨(swapS_lines hb).1, (swapS_length hb).1⟩
theorem splitStep_lines (w : Bool) (s : List Pr × List Pr) (p : Pr) : linesS (splitStep w s p).1 + linesS (splitStep w s p).2 = linesS s.1 + linesS s.2 + linesS [p] ∧ (splitStep w s p).1.length + (splitStep w s p).2.length = s.1.length + s.2.length + 1 := by
  unfold splitStep
  cases hs : swapS s.2 [p] with
  | none => simp only [linesS_append, List.length_append, List.length_cons, List.length_nil]; omega
  | some r =>
    obtain ⟨a, b⟩ := r
    have h1 := swapS_lines hs
    have h2 := swapS_length hs
    simp only [List.length_cons, List.length_nil] at h2
    dsimp only
    split
    · simp only [linesS_append, List.length_append]; omega
    · simp only [linesS_append, List.length_append, List.length_cons, List.length_nil]; omega
theorem splitS_lines (wanted : Nat → Bool) (l : List Pr) (k : Nat) (s : List Pr × List Pr) : linesS (splitS wanted k s l).1 + linesS (splitS wanted k s l).2 = linesS s.1 + linesS s.2 + linesS l ∧ (splitS wanted k s l).1.length + (splitS wanted k s l).2.length = s.1.length + s.2.length + l.length := by
  induction l generalizing k s with
  | nil => exact ⟨rfl, rfl⟩
  | cons p l ih =>
    have h1 := ih (k + 1) (splitStep (wanted k) s p)
    have h2 := splitStep_lines (wanted k) s p
    simp only [splitS]
    rw [linesS_cons, linesS_nil] at h2
    rw [linesS_cons, List.length_cons]
    omega
/-- What stands behind k rounds. -/
theorem splitS_take (wanted : Nat → Bool) (l : List Pr) (j : Nat) (s : List Pr × List Pr) {k : Nat} {p : Pr} (h : l[k]? = some p) : splitS wanted j s (l.take (k + 1)) = splitStep (wanted (j + k)) (splitS wanted j s (l.take k)) p := by
  induction l generalizing j s k with
  | nil => simp at h
  | cons q l ih =>
    cases k with
    | zero => simp at h; subst h; simp [splitS]
    | succ k =>
      simp only [List.take_succ_cons, splitS]
      rw [ih (j + 1) _ (by simpa using h), show j + 1 + k = j + (k + 1) by omega]

/-- With an error the tree is as it was. -/
theorem apply_errS {t : Tr} {p : Pr} (h : (applyP t p).2 ≠ 0) : (applyP t p).1 = t := by
  revert h
  unfold applyP
  split
  · exact fun _ => rfl
  split
  · unfold hunkT
    split
    · exact fun _ => rfl
    · split
      · exact fun h => absurd rfl h
      · exact fun _ => rfl
  split
  · split
    · exact fun _ => rfl
    · exact fun h => absurd rfl h
  split
  · split
    · exact fun _ => rfl
    · split
      · exact fun _ => rfl
      · exact fun h => absurd rfl h
  · split
    · exact fun _ => rfl
    · split
      · exact fun _ => rfl
      · exact fun h => absurd rfl h

section
variable {k h : Nat} {t u : Tr} {l : List Pr}
theorem runS_sized (hs : Sized k h t) : Sized (k + l.length) (h + linesS l) (runS t l).1 := by
  induction l generalizing k h t with
  | nil => exact hs
  | cons p l ih =>
    have h1 := hs.apply p
    simp only [runS]
    split
    · exact (ih h1).mono (by simp; omega) (by rw [linesS_cons]; omega)
    · exact h1.mono (by simp) (by rw [linesS_cons]; omega)
theorem runS_snoc {p : Pr} (h : runS t l = (u, 0)) : runS t (l ++ [p]) = applyP u p := by
  induction l generalizing t with
  | nil =>
    simp only [runS, Prod.mk.injEq, and_true] at h
    subst h
    simp only [List.nil_append, runS]
    split
    · rename_i e; rw [Prod.ext_iff]; exact ⟨rfl, e.symm⟩
    · rfl
  | cons q l ih =>
    obtain ⟨s, h1, h2⟩ := runS_cons.1 h
    simp only [List.cons_append, runS, h1, if_true]
    exact ih h2
/-- The first error. -/
theorem runS_err {p : Pr} {m : List Pr} (h : runS t l = (u, 0)) (he : (applyP u p).2 ≠ 0) : runS t (l ++ p :: m) = applyP u p := by
  induction l generalizing t with
  | nil =>
    simp only [runS, Prod.mk.injEq, and_true] at h
    subst h
    simp only [List.nil_append, runS]
    rw [if_neg he]
  | cons q l ih =>
    obtain ⟨s, h1, h2⟩ := runS_cons.1 h
    simp only [List.cons_append, runS, h1, if_true]
    exact ih h2
theorem applyS_err {p : Pr} {m : List Pr} (h : runS t l = (u, 0)) (he : (applyP u p).2 ≠ 0) : applyS t (l ++ p :: m) = (t, (applyP u p).2) := by
  unfold applyS
  rw [runS_err h he, if_neg he]
end

end Go.Proofs.YtomboeiaajggoaaGreatDoor

/-
  A prim behind a row, place by place; a row behind a row, from its last one on. Nothing of any program.
-/
namespace Go.Proofs.YtomboeiaajggoaaGreatDoor
open Go.RowKit

theorem swap1_one (p q : Pr) : swap1 p [q] = (swapP p q).map fun s => ([s.1], s.2) := by
  simp only [swap1]
  cases swapP p q <;> rfl
theorem swap1_step {l : List Pr} {k : Nat} {p p1 q a b : Pr} {d : List Pr} (h : swap1 p (l.take k) = some (d, p1)) (hq : l[k]? = some q) (hs : swapP p1 q = some (a, b)) : swap1 p (l.take (k + 1)) = some (d ++ [a], b) := by
  obtain ⟨hk, rfl⟩ := List.getElem?_eq_some_iff.1 hq
  rw [List.take_succ_eq_append_getElem hk, swap1_append, h]
  simp [swap1_one, hs]
theorem swap1_stop {l : List Pr} {k : Nat} {p p1 q : Pr} {d : List Pr} (h : swap1 p (l.take k) = some (d, p1)) (hq : l[k]? = some q) (hs : swapP p1 q = none) : swap1 p l = none := by
  obtain ⟨hk, rfl⟩ := List.getElem?_eq_some_iff.1 hq
  have e : l = l.take k ++ (l[k] :: l.drop (k + 1)) := by rw [← List.drop_eq_getElem_cons hk, List.take_append_drop]
  rw [e, swap1_append, h]
  simp [swap1, hs]
/-- The last ones, from place k on, behind m. -/
theorem swapS_step {l m a b m2 : List Pr} {k : Nat} {p p' : Pr} (h : swapS (l.drop (k + 1)) m = some (a, b)) (hp : l[k]? = some p) (hs : swap1 p a = some (m2, p')) : swapS (l.drop k) m = some (m2, p' :: b) := by
  obtain ⟨hk, rfl⟩ := List.getElem?_eq_some_iff.1 hp
  rw [List.drop_eq_getElem_cons hk]
  exact swapS_cons.2 ⟨a, b, m2, p', h, hs, rfl⟩
theorem swapS_stop {l m a b : List Pr} {k : Nat} {p : Pr} (h : swapS (l.drop (k + 1)) m = some (a, b)) (hp : l[k]? = some p) (hs : swap1 p a = none) : swapS l m = none := by
  obtain ⟨hk, rfl⟩ := List.getElem?_eq_some_iff.1 hp
  have e : l = l.take k ++ (l[k] :: l.drop (k + 1)) := by rw [← List.drop_eq_getElem_cons hk, List.take_append_drop]
  rw [e, swapS_append_left]
  simp only [swapS, h, Option.bind_some, hs, Option.map_none, Option.bind_none]

end Go.Proofs.YtomboeiaajggoaaGreatDoor
