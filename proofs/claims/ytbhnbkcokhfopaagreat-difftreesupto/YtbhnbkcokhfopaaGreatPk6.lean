import Derived.Test.YtbhnbkcokhfopaaGreatPk5

/-
  Rows of prims as plain lists: what undoes them, what they make of a tree, and one row behind another one. Nothing of any program.
-/
namespace Go.Proofs.YtbhnbkcokhfopaaGreat
open Go.RowKit

/-- P5.1: what undoes a row. -/
def invertS (l : List Pr) : List Pr := (l.map invertP).reverse
/-- The trees that a row makes, one prim behind the other, and the first error. -/
def runS : Tr → List Pr → Tr × Int
  | t, [] => (t, 0)
  | t, p :: l => if (applyP t p).2 = 0 then runS (applyP t p).1 l else applyP t p
/-- P5.1: with an error the tree is as it was. -/
def applyS (t : Tr) (l : List Pr) : Tr × Int := if (runS t l).2 = 0 then runS t l else (t, (runS t l).2)

/-- A prim goes behind all of a row. -/
def swap1 : Pr → List Pr → Option (List Pr × Pr)
  | p, [] => some ([], p)
  | p, q :: m => (swapP p q).bind fun s => (swap1 s.2 m).map fun r => (s.1 :: r.1, r.2)
/-- P5.2: from the last one of l on, each goes behind all of m. -/
def swapS : List Pr → List Pr → Option (List Pr × List Pr)
  | [], m => some (m, [])
  | p :: l, m => (swapS l m).bind fun s => (swap1 p s.1).map fun r => (r.1, r.2 :: s.2)
/-- P5.3. -/
def rebaseS (m l : List Pr) : Option (List Pr) := (swapS (invertS l) m).map (·.1)
/-- P5.4, of places that are wanted: one round. -/
def splitStep (w : Bool) (s : List Pr × List Pr) (p : Pr) : List Pr × List Pr :=
  match swapS s.2 [p] with
  | some r => if w = true then (s.1 ++ r.1, r.2) else (s.1, s.2 ++ [p])
  | none => (s.1, s.2 ++ [p])
def splitS (wanted : Nat → Bool) : Nat → List Pr × List Pr → List Pr → List Pr × List Pr
  | _, s, [] => s
  | k, s, p :: l => splitS wanted (k + 1) (splitStep (wanted k) s p) l

theorem invertS_nil : invertS [] = [] := rfl
theorem invertS_cons (p : Pr) (l : List Pr) : invertS (p :: l) = invertS l ++ [invertP p] := by simp [invertS]
theorem invertS_append (l m : List Pr) : invertS (l ++ m) = invertS m ++ invertS l := by simp [invertS]
theorem invertS_one (p : Pr) : invertS [p] = [invertP p] := rfl
theorem invertS_twice (l : List Pr) : invertS (invertS l) = l := by
  induction l with
  | nil => rfl
  | cons p l ih => rw [invertS_cons, invertS_append, ih, invertS_one, invert_twice]; rfl
theorem invertS_length (l : List Pr) : (invertS l).length = l.length := by simp [invertS]

section
variable {p q : Pr} {l m a b : List Pr}
theorem swap1_cons {r : List Pr × Pr} : swap1 p (q :: m) = some r ↔ ∃ q' p1 m' p', swapP p q = some (q', p1) ∧ swap1 p1 m = some (m', p') ∧ r = (q' :: m', p') := by
  simp only [swap1]
  constructor
  · intro h
    obtain ⟨⟨q', p1⟩, h1, h⟩ := Option.bind_eq_some_iff.1 h
    obtain ⟨⟨m', p'⟩, h2, h⟩ := Option.map_eq_some_iff.1 h
    exact ⟨q', p1, m', p', h1, h2, h.symm⟩
  · rintro ⟨q', p1, m', p', h1, h2, rfl⟩
    simp [h1, h2]
theorem swapS_cons {r : List Pr × List Pr} : swapS (p :: l) m = some r ↔ ∃ m1 l' m2 p', swapS l m = some (m1, l') ∧ swap1 p m1 = some (m2, p') ∧ r = (m2, p' :: l') := by
  simp only [swapS]
  constructor
  · intro h
    obtain ⟨⟨m1, l'⟩, h1, h⟩ := Option.bind_eq_some_iff.1 h
    obtain ⟨⟨m2, p'⟩, h2, h⟩ := Option.map_eq_some_iff.1 h
    exact ⟨m1, l', m2, p', h1, h2, h.symm⟩
  · rintro ⟨q', p1, m', p', h1, h2, rfl⟩
    simp [h1, h2]
theorem swap1_length {r : List Pr × Pr} : ∀ {m : List Pr} {p : Pr}, swap1 p m = some r → r.1.length = m.length := by
  intro m
  induction m generalizing r with
  | nil => intro p h; cases h; rfl
  | cons q m ih =>
    intro p h
    obtain ⟨q', p1, m', p', _, h2, rfl⟩ := swap1_cons.1 h
    have := ih h2
    simp only [List.length_cons] at *
    omega
theorem swapS_length (h : swapS l m = some (a, b)) : a.length = m.length ∧ b.length = l.length := by
  induction l generalizing a b with
  | nil => cases h; exact ⟨rfl, rfl⟩
  | cons p l ih =>
    obtain ⟨m1, l', m2, p', h1, h2, e⟩ := swapS_cons.1 h
    cases e
    have k1 := ih h1
    have k2 := swap1_length h2
    simp only [List.length_cons] at *
    omega
theorem swapS_nil_right (l : List Pr) : swapS l [] = some ([], l) := by
  induction l with
  | nil => rfl
  | cons p l ih => simp [swapS, ih, swap1]
theorem swapS_one (p : Pr) (m : List Pr) : swapS [p] m = (swap1 p m).map fun r => (r.1, [r.2]) := by
  simp [swapS]
theorem swapS_ones (p q : Pr) : swapS [p] [q] = (swapP p q).map fun s => ([s.1], [s.2]) := by
  rw [swapS_one]
  simp only [swap1]
  cases swapP p q <;> rfl

/-- A prim behind two rows. -/
theorem swap1_append : swap1 p (l ++ m) = (swap1 p l).bind fun s => (swap1 s.2 m).map fun r => (s.1 ++ r.1, r.2) := by
  induction l generalizing p with
  | nil => simp [swap1]
  | cons q l ih =>
    simp only [List.cons_append, swap1]
    cases swapP p q with
    | none => rfl
    | some s =>
      simp only [Option.bind_some, ih]
      cases swap1 s.2 l with
      | none => rfl
      | some r =>
        simp only [Option.bind_some, Option.map_some]
        cases swap1 r.2 m <;> rfl
/-- A row behind two rows. -/
theorem swapS_append_right {k : List Pr} : swapS k (l ++ m) = (swapS k l).bind fun s => (swapS s.2 m).map fun r => (s.1 ++ r.1, r.2) := by
  induction k generalizing l m with
  | nil => simp [swapS]
  | cons p k ih =>
    simp only [swapS, ih]
    cases h1 : swapS k l with
    | none => rfl
    | some s =>
      simp only [Option.bind_some]
      cases h2 : swapS s.2 m with
      | none =>
        simp only [Option.map_none, Option.bind_none]
        cases h3 : swap1 p s.1 with
        | none => rfl
        | some r => simp only [Option.map_some, Option.bind_some, swapS, h2, Option.bind_none, Option.map_none]
      | some r =>
        simp only [Option.map_some, Option.bind_some, swap1_append]
        cases h3 : swap1 p s.1 with
        | none => rfl
        | some u =>
          simp only [Option.map_some, Option.bind_some, swapS, h2]
          cases swap1 u.2 r.1 <;> rfl
/-- Two rows behind a row. -/
theorem swapS_append_left {k : List Pr} : swapS (l ++ k) m = (swapS k m).bind fun s => (swapS l s.1).map fun r => (r.1, r.2 ++ s.2) := by
  induction l with
  | nil => simp only [List.nil_append, swapS]; cases swapS k m <;> rfl
  | cons p l ih =>
    simp only [List.cons_append, swapS, ih]
    cases swapS k m with
    | none => rfl
    | some s =>
      simp only [Option.bind_some]
      cases swapS l s.1 with
      | none => rfl
      | some r =>
        simp only [Option.map_some, Option.bind_some]
        cases swap1 p r.1 <;> rfl
theorem swapS_cons_right {q : Pr} : swapS l (q :: m) = (swapS l [q]).bind fun s => (swapS s.2 m).map fun r => (s.1 ++ r.1, r.2) := swapS_append_right (l := [q])

theorem swap1_back {m' : List Pr} {p' : Pr} (h : swap1 p m = some (m', p')) : swapS m' [p'] = some ([p], m) := by
  induction m generalizing p m' with
  | nil => cases h; rfl
  | cons q m ih =>
    obtain ⟨q', p1, m1, p2, h1, h2, e⟩ := swap1_cons.1 h
    cases e
    have k := ih h2
    have := swap_back h1
    simp only [swapS, k, Option.bind_some, swap1, this, Option.map_some]
/-- P5.5: swapped again, both are as they were. -/
theorem swapS_back (h : swapS l m = some (a, b)) : swapS a b = some (l, m) := by
  induction l generalizing a b with
  | nil => cases h; exact swapS_nil_right _
  | cons p l ih =>
    obtain ⟨m1, l', m2, p', h1, h2, e⟩ := swapS_cons.1 h
    cases e
    rw [swapS_cons_right, swap1_back h2]
    simp only [Option.bind_some, ih h1, Option.map_some]
    rfl
theorem swap1_inverts {m' : List Pr} {p' : Pr} (h : swap1 p m = some (m', p')) : swapS (invertS m) [invertP p] = some ([invertP p'], invertS m') := by
  induction m generalizing p m' with
  | nil => cases h; rfl
  | cons q m ih =>
    obtain ⟨q', p1, m1, p2, h1, h2, e⟩ := swap1_cons.1 h
    cases e
    rw [invertS_cons, swapS_append_left, swapS_ones, swap_inverts_some h1]
    simp only [Option.map_some, Option.bind_some, ih h2, invertS_cons]
/-- P5.5: what undoes m, and what undoes l. -/
theorem swapS_inverts_some (h : swapS l m = some (a, b)) : swapS (invertS m) (invertS l) = some (invertS b, invertS a) := by
  induction l generalizing a b with
  | nil => cases h; rw [invertS_nil, swapS_nil_right]
  | cons p l ih =>
    obtain ⟨m1, l', m2, p', h1, h2, e⟩ := swapS_cons.1 h
    cases e
    rw [invertS_cons, swapS_append_right, ih h1]
    simp only [Option.bind_some, swap1_inverts h2, Option.map_some, invertS_cons]
theorem swapS_inverts (l m : List Pr) : swapS (invertS m) (invertS l) = (swapS l m).map fun r => (invertS r.2, invertS r.1) := by
  cases h : swapS l m with
  | some r => exact swapS_inverts_some h
  | none =>
    cases k : swapS (invertS m) (invertS l) with
    | none => rfl
    | some r =>
      have := swapS_inverts_some k
      rw [invertS_twice, invertS_twice, h] at this
      cases this
end

section
variable {t u v : Tr} {p : Pr} {l m a b : List Pr}
theorem runS_cons : runS t (p :: l) = (u, 0) ↔ ∃ s, applyP t p = (s, 0) ∧ runS s l = (u, 0) := by
  simp only [runS]
  constructor
  · intro h
    split at h
    · rename_i e; exact ⟨_, by rw [← e], h⟩
    · rename_i e; rw [h] at e; exact absurd rfl e
  · rintro ⟨s, h1, h2⟩
    rw [h1]; simp [h2]
theorem runS_append : runS t (l ++ m) = (u, 0) ↔ ∃ s, runS t l = (s, 0) ∧ runS s m = (u, 0) := by
  induction l generalizing t with
  | nil => simp [runS]
  | cons p l ih =>
    rw [List.cons_append, runS_cons]
    simp only [runS_cons, ih]
    constructor
    · rintro ⟨s, h1, r, h2, h3⟩; exact ⟨r, ⟨s, h1, h2⟩, h3⟩
    · rintro ⟨r, ⟨s, h1, h2⟩, h3⟩; exact ⟨s, h1, r, h2, h3⟩
theorem applyS_ok : applyS t l = (u, 0) ↔ runS t l = (u, 0) := by
  unfold applyS
  constructor
  · intro h
    split at h
    · exact h
    · rename_i e; simp only [Prod.mk.injEq] at h; exact absurd h.2 e
  · intro h; rw [h]; rfl
theorem applyS_no (h : (applyS t l).2 ≠ 0) : (applyS t l).1 = t := by
  unfold applyS at *
  split
  · rename_i e; rw [if_pos e] at h; exact absurd e h
  · rfl
theorem runS_rising (ht : Rising t) (h : runS t l = (u, 0)) : Rising u := by
  induction l generalizing t with
  | nil => simp only [runS, Prod.mk.injEq, and_true] at h; exact h ▸ ht
  | cons p l ih =>
    obtain ⟨s, h1, h2⟩ := runS_cons.1 h
    exact ih (apply_makes ht h1).2.1 h2
/-- P5.5: what was applied can be undone. -/
theorem runS_back (ht : Rising t) (h : runS t l = (u, 0)) : runS u (invertS l) = (t, 0) := by
  induction l generalizing t with
  | nil => simp only [runS, Prod.mk.injEq, and_true] at h; subst h; rfl
  | cons p l ih =>
    obtain ⟨s, h1, h2⟩ := runS_cons.1 h
    rw [invertS_cons, runS_append]
    refine ⟨s, ih (apply_makes ht h1).2.1 h2, ?_⟩
    rw [runS_cons]
    exact ⟨t, apply_back ht h1, rfl⟩
theorem swap1_fits {m' : List Pr} {p' : Pr} (ht : Rising t) (h1 : applyP t p = (u, 0)) (h2 : runS u m = (v, 0)) (h : swap1 p m = some (m', p')) : ∃ u', runS t m' = (u', 0) ∧ applyP u' p' = (v, 0) := by
  induction m generalizing p m' t u with
  | nil =>
    cases h
    simp only [runS, Prod.mk.injEq, and_true] at h2
    subst h2
    exact ⟨t, rfl, h1⟩
  | cons q m ih =>
    obtain ⟨q', p1, m1, p2, g1, g2, e⟩ := swap1_cons.1 h
    cases e
    obtain ⟨s, k1, k2⟩ := runS_cons.1 h2
    obtain ⟨r, r1, r2⟩ := swap_fits ht h1 k1 g1
    obtain ⟨w, w1, w2⟩ := ih (apply_makes ht r1).2.1 r2 k2 g2
    exact ⟨w, runS_cons.2 ⟨r, r1, w1⟩, w2⟩
/-- P5.5: rows that were swapped make what these made. -/
theorem swapS_fits (ht : Rising t) (h1 : runS t l = (u, 0)) (h2 : runS u m = (v, 0)) (h : swapS l m = some (a, b)) : ∃ u', runS t a = (u', 0) ∧ runS u' b = (v, 0) := by
  induction l generalizing a b t with
  | nil =>
    cases h
    simp only [runS, Prod.mk.injEq, and_true] at h1
    subst h1
    exact ⟨v, h2, rfl⟩
  | cons p l ih =>
    obtain ⟨m1, l', m2, p', g1, g2, e⟩ := swapS_cons.1 h
    cases e
    obtain ⟨s, k1, k2⟩ := runS_cons.1 h1
    obtain ⟨r, r1, r2⟩ := ih (apply_makes ht k1).2.1 k2 g1
    obtain ⟨w, w1, w2⟩ := swap1_fits ht k1 r1 g2
    exact ⟨w, w1, runS_cons.2 ⟨r, w2, r2⟩⟩

theorem rebase_iff : rebaseS m l = some a ↔ ∃ b, swapS (invertS l) m = some (a, b) := by
  unfold rebaseS
  constructor
  · intro h
    obtain ⟨⟨x, b⟩, h1, rfl⟩ := Option.map_eq_some_iff.1 h
    exact ⟨b, h1⟩
  · rintro ⟨b, h⟩; rw [h]; rfl
/-- P5.5: either can be, if one can. -/
theorem rebase_other (h : swapS (invertS l) m = some (a, b)) : rebaseS l m = some (invertS b) := by
  have := swapS_inverts_some h
  rw [invertS_twice] at this
  exact rebase_iff.2 ⟨_, this⟩
theorem rebase_some (l m : List Pr) : (rebaseS m l).isSome = (rebaseS l m).isSome := by
  have key : ∀ l m : List Pr, (rebaseS m l).isSome = true → (rebaseS l m).isSome = true := fun l m h => by
    obtain ⟨x, hx⟩ := Option.isSome_iff_exists.1 h
    obtain ⟨b, hb⟩ := rebase_iff.1 hx
    rw [rebase_other hb]; rfl
  rw [Bool.eq_iff_iff]
  exact ⟨key l m, key m l⟩
/-- P5.5: both orders of merging make the same tree. -/
theorem merges {t1 u1 : Tr} {c : List Pr} (ht : Rising t) (h1 : runS t l = (t1, 0)) (h2 : runS t m = (u1, 0)) (h : rebaseS m l = some a) (k : rebaseS l m = some c) : ∃ v, runS t1 a = (v, 0) ∧ runS u1 c = (v, 0) := by
  obtain ⟨b, hb⟩ := rebase_iff.1 h
  rw [rebase_other hb] at k
  cases k
  have r1 := runS_rising ht h1
  obtain ⟨w, w1, w2⟩ := swapS_fits r1 (runS_back ht h1) h2 hb
  exact ⟨w, w1, runS_back (runS_rising r1 w1) w2⟩

theorem splitStep_fits {s : List Pr × List Pr} (ht : Rising t) (w : Bool) (h : runS t (s.1 ++ s.2 ++ [p]) = (u, 0)) : runS t ((splitStep w s p).1 ++ (splitStep w s p).2) = (u, 0) := by
  unfold splitStep
  have same : runS t (s.1 ++ (s.2 ++ [p])) = (u, 0) := by rw [← List.append_assoc]; exact h
  cases hs : swapS s.2 [p] with
  | none => exact same
  | some r =>
    obtain ⟨a, b⟩ := r
    dsimp only
    split
    · obtain ⟨x, x1, x2⟩ := runS_append.1 same
      obtain ⟨y, y1, y2⟩ := runS_append.1 x2
      obtain ⟨z, z1, z2⟩ := swapS_fits (runS_rising ht x1) y1 y2 hs
      rw [List.append_assoc]
      exact runS_append.2 ⟨x, x1, runS_append.2 ⟨z, z1, z2⟩⟩
    · exact same
/-- P5.5: what is brought ahead, and the rest, make the tree that the row made. -/
theorem splitS_fits (ht : Rising t) (wanted : Nat → Bool) (l : List Pr) (k : Nat) (s : List Pr × List Pr) (h : runS t (s.1 ++ s.2 ++ l) = (u, 0)) : runS t ((splitS wanted k s l).1 ++ (splitS wanted k s l).2) = (u, 0) := by
  induction l generalizing k s with
  | nil => simpa [splitS] using h
  | cons p l ih =>
    refine ih (k + 1) _ ?_
    rw [show s.1 ++ s.2 ++ p :: l = (s.1 ++ s.2 ++ [p]) ++ l by simp] at h
    obtain ⟨x, x1, x2⟩ := runS_append.1 h
    exact runS_append.2 ⟨x, splitStep_fits ht _ x1, x2⟩
end

end Go.Proofs.YtbhnbkcokhfopaaGreat

/-
  What is common to two rows of lines, at most, and the hunks that make one of the other. Nothing of any program.
-/
namespace Go.Proofs.YtbhnbkcokhfopaaGreat
open Go.RowKit

/-- How many lines are common at most, both rising. -/
def lcs : List ByteArray → List ByteArray → Nat
  | [], _ => 0
  | _ :: _, [] => 0
  | x :: a, y :: b => max (max (lcs a (y :: b)) (lcs (x :: a) b)) (if x = y then lcs a b + 1 else 0)
termination_by a b => a.length + b.length

section
variable {a b s : List ByteArray} {x y : ByteArray}
theorem lcs_nil_left : lcs [] b = 0 := by unfold lcs; rfl
theorem lcs_nil_right : lcs a [] = 0 := by cases a <;> (unfold lcs; rfl)
theorem lcs_cons : lcs (x :: a) (y :: b) = max (max (lcs a (y :: b)) (lcs (x :: a) b)) (if x = y then lcs a b + 1 else 0) := by rw [lcs]
theorem lcs_left : lcs a (y :: b) ≤ lcs (x :: a) (y :: b) := by rw [lcs_cons]; omega
theorem lcs_right : lcs (x :: a) b ≤ lcs (x :: a) (y :: b) := by rw [lcs_cons]; omega
theorem lcs_both : lcs a b + 1 ≤ lcs (x :: a) (x :: b) := by rw [lcs_cons, if_pos rfl]; omega
theorem lcs_mono_left : lcs a b ≤ lcs (x :: a) b := by
  cases b with
  | nil => rw [lcs_nil_right]; exact Nat.zero_le _
  | cons y b => exact lcs_left
theorem lcs_mono_right : lcs a b ≤ lcs a (y :: b) := by
  cases a with
  | nil => rw [lcs_nil_left]; exact Nat.zero_le _
  | cons x a => exact lcs_right
theorem lcs_bound : ∀ (a b s : List ByteArray), s.Sublist a → s.Sublist b → s.length ≤ lcs a b
  | [], b, s, h, _ => by rw [List.sublist_nil.1 h]; exact Nat.zero_le _
  | x :: a, [], s, _, h => by rw [List.sublist_nil.1 h]; exact Nat.zero_le _
  | x :: a, y :: b, s, h, k => by
    cases h with
    | cons _ h => exact Nat.le_trans (lcs_bound a (y :: b) s h k) lcs_left
    | cons_cons _ h =>
      rename_i s'
      cases k with
      | cons _ k => exact Nat.le_trans (lcs_bound (x :: a) b (x :: s') (h.cons_cons x) k) lcs_right
      | cons_cons _ k => exact Nat.le_trans (Nat.succ_le_succ (lcs_bound a b s' h k)) lcs_both
termination_by a b => a.length + b.length
theorem lcs_some : ∀ (a b : List ByteArray), ∃ s : List ByteArray, s.Sublist a ∧ s.Sublist b ∧ s.length = lcs a b
  | [], b => ⟨[], List.Sublist.slnil, List.nil_sublist _, by rw [lcs_nil_left]; rfl⟩
  | x :: a, [] => ⟨[], List.nil_sublist _, List.nil_sublist _, by rw [lcs_nil_right]; rfl⟩
  | x :: a, y :: b => by
    rw [lcs_cons]
    obtain ⟨s1, p1, q1, e1⟩ := lcs_some a (y :: b)
    obtain ⟨s2, p2, q2, e2⟩ := lcs_some (x :: a) b
    obtain ⟨s3, p3, q3, e3⟩ := lcs_some a b
    by_cases h : x = y
    · subst h
      rw [if_pos rfl]
      rcases Nat.le_total (max (lcs a (x :: b)) (lcs (x :: a) b)) (lcs a b + 1) with h1 | h1
      · exact ⟨x :: s3, p3.cons_cons x, q3.cons_cons x, by rw [List.length_cons, e3]; omega⟩
      · rcases Nat.le_total (lcs a (x :: b)) (lcs (x :: a) b) with h2 | h2
        · exact ⟨s2, p2, q2.cons x, by omega⟩
        · exact ⟨s1, p1.cons x, q1, by omega⟩
    · rw [if_neg h]
      rcases Nat.le_total (lcs a (y :: b)) (lcs (x :: a) b) with h2 | h2
      · exact ⟨s2, p2, q2.cons y, by omega⟩
      · exact ⟨s1, p1.cons x, q1, by omega⟩
termination_by a b => a.length + b.length
theorem lcs_comm (a b : List ByteArray) : lcs a b = lcs b a := by
  obtain ⟨s, p, q, e⟩ := lcs_some a b
  obtain ⟨s', p', q', e'⟩ := lcs_some b a
  have h1 := lcs_bound b a s q p
  have h2 := lcs_bound a b s' q' p'
  omega
theorem lcs_reverse (a b : List ByteArray) : lcs a.reverse b.reverse = lcs a b := by
  obtain ⟨s, p, q, e⟩ := lcs_some a b
  obtain ⟨s', p', q', e'⟩ := lcs_some a.reverse b.reverse
  have h1 := lcs_bound a.reverse b.reverse s.reverse p.reverse q.reverse
  have h2 := lcs_bound a b s'.reverse (by simpa using p'.reverse) (by simpa using q'.reverse)
  simp only [List.length_reverse] at h1 h2
  omega
theorem lcs_self (a : List ByteArray) : lcs a a = a.length := by
  have h1 := lcs_bound a a a (List.Sublist.refl a) (List.Sublist.refl a)
  obtain ⟨s, p, _, e⟩ := lcs_some a a
  have := p.length_le
  omega
theorem lcs_prefix (c a b : List ByteArray) : c.length + lcs a b ≤ lcs (c ++ a) (c ++ b) := by
  obtain ⟨s, p, q, e⟩ := lcs_some a b
  have := lcs_bound (c ++ a) (c ++ b) (c ++ s) ((List.Sublist.refl c).append p) ((List.Sublist.refl c).append q)
  rw [List.length_append] at this
  omega
theorem lcs_drop (a b : List ByteArray) (i k : Nat) : lcs (a.drop i) (b.drop k) ≤ lcs a b := by
  obtain ⟨s, p, q, e⟩ := lcs_some (a.drop i) (b.drop k)
  have := lcs_bound a b s (p.trans (List.drop_sublist i a)) (q.trans (List.drop_sublist k b))
  omega
end

/-- A pair that may come next, if so many are left. -/
def goodAt (a b : List ByteArray) (left x y : Nat) : Bool := decide (a.getD x ByteArray.empty = b.getD y ByteArray.empty) && decide (lcs (a.drop (x + 1)) (b.drop (y + 1)) + 1 = left)
/-- P6.1: the least one, from i and k on. -/
def rowPair (a b : List ByteArray) (left x k : Nat) : Option Nat := (List.range b.length).find? fun y => decide (k ≤ y) && goodAt a b left x y
def nextPair (a b : List ByteArray) (left i k : Nat) : Option (Nat × Nat) := (List.range a.length).findSome? fun x => if i ≤ x then (rowPair a b left x k).map fun y => (x, y) else none
def commonGo (a b : List ByteArray) : Nat → Nat → Nat → List (Nat × Nat)
  | 0, _, _ => []
  | left + 1, i, k => match nextPair a b (left + 1) i k with | none => [] | some s => s :: commonGo a b left (s.1 + 1) (s.2 + 1)
def commonL (a b : List ByteArray) : List (Nat × Nat) := if 200 < a.length ∨ 200 < b.length then [] else commonGo a b (lcs a b) 0 0

/-- Pairs from i and k on, both rising, as many as can be. -/
inductive Pairs (a b : List ByteArray) : Nat → Nat → List (Nat × Nat) → Prop
  | nil {i k : Nat} : lcs (a.drop i) (b.drop k) = 0 → Pairs a b i k []
  | cons {i k x y : Nat} {l : List (Nat × Nat)} : i ≤ x → k ≤ y → x < a.length → y < b.length → a.getD x ByteArray.empty = b.getD y ByteArray.empty → lcs (a.drop i) (b.drop k) = l.length + 1 →
      Pairs a b (x + 1) (y + 1) l → Pairs a b i k ((x, y) :: l)

section
variable {a b : List ByteArray} {left i k : Nat}
theorem drop_cons {l : List ByteArray} {i : Nat} (h : i < l.length) : l.drop i = l.getD i ByteArray.empty :: l.drop (i + 1) := by
  rw [List.drop_eq_getElem_cons h]
  simp [List.getD, List.getElem?_eq_getElem h]
theorem good_some : ∀ (n : Nat) (i k : Nat), a.length - i + (b.length - k) = n → lcs (a.drop i) (b.drop k) = left + 1 → ∃ x y, i ≤ x ∧ k ≤ y ∧ x < a.length ∧ y < b.length ∧ goodAt a b (left + 1) x y = true := by
  intro n
  induction n using Nat.strongRecOn with
  | ind n ih =>
    intro i k hn h
    have hi : i < a.length := by
      rcases Nat.lt_or_ge i a.length with x | x
      · exact x
      · rw [List.drop_eq_nil_of_le x, lcs_nil_left] at h; omega
    have hk : k < b.length := by
      rcases Nat.lt_or_ge k b.length with x | x
      · exact x
      · rw [List.drop_eq_nil_of_le x, lcs_nil_right] at h; omega
    rw [drop_cons hi, drop_cons hk, lcs_cons, ← drop_cons hi, ← drop_cons hk] at h
    by_cases h1 : lcs (a.drop (i + 1)) (b.drop k) = left + 1
    · obtain ⟨x, y, c1, c2, c3⟩ := ih _ (by omega) (i + 1) k rfl h1
      exact ⟨x, y, by omega, c2, c3⟩
    by_cases h2 : lcs (a.drop i) (b.drop (k + 1)) = left + 1
    · obtain ⟨x, y, c1, c2, c3⟩ := ih _ (by omega) i (k + 1) rfl h2
      exact ⟨x, y, c1, by omega, c3⟩
    by_cases e : a.getD i ByteArray.empty = b.getD k ByteArray.empty
    · rw [if_pos e] at h
      refine ⟨i, k, Nat.le_refl _, Nat.le_refl _, hi, hk, ?_⟩
      simp only [goodAt, Bool.and_eq_true, decide_eq_true_eq]
      exact ⟨e, by omega⟩
    · rw [if_neg e] at h
      omega
theorem next_some {x y : Nat} (h : nextPair a b left i k = some (x, y)) : i ≤ x ∧ k ≤ y ∧ x < a.length ∧ y < b.length ∧ goodAt a b left x y = true := by
  unfold nextPair at h
  obtain ⟨x', hx, h1⟩ := List.exists_of_findSome?_eq_some h
  split at h1
  · rename_i hi
    obtain ⟨y', hy, e⟩ := Option.map_eq_some_iff.1 h1
    cases e
    have h2 := List.find?_some hy
    have h3 := List.mem_of_find?_eq_some hy
    simp only [Bool.and_eq_true, decide_eq_true_eq] at h2
    exact ⟨hi, h2.1, List.mem_range.1 hx, List.mem_range.1 h3, h2.2⟩
  · cases h1
theorem next_there {x y : Nat} (hi : i ≤ x) (hk : k ≤ y) (hx : x < a.length) (hy : y < b.length) (hg : goodAt a b left x y = true) : ∃ s, nextPair a b left i k = some s := by
  rw [← Option.isSome_iff_exists, nextPair, List.findSome?_isSome_iff]
  refine ⟨x, List.mem_range.2 hx, ?_⟩
  rw [if_pos hi, Option.isSome_map, rowPair, List.find?_isSome]
  exact ⟨y, List.mem_range.2 hy, by simp [hk, hg]⟩
theorem common_pairs (h : lcs (a.drop i) (b.drop k) = left) : Pairs a b i k (commonGo a b left i k) ∧ (commonGo a b left i k).length = left := by
  induction left generalizing i k with
  | zero => exact ⟨.nil h, rfl⟩
  | succ left ih =>
    obtain ⟨x0, y0, c1, c2, c3, c4, c5⟩ := good_some _ i k rfl h
    obtain ⟨⟨x, y⟩, hs⟩ := next_there c1 c2 c3 c4 c5
    obtain ⟨d1, d2, d3, d4, d5⟩ := next_some hs
    simp only [goodAt, Bool.and_eq_true, decide_eq_true_eq] at d5
    have hl : lcs (a.drop (x + 1)) (b.drop (y + 1)) = left := by omega
    obtain ⟨e1, e2⟩ := ih hl
    simp only [commonGo, hs]
    exact ⟨.cons d1 d2 d3 d4 d5.1 (by rw [h, e2]) e1, by rw [List.length_cons, e2]⟩
end

/-- P6.2: the hunks, from i and k on. -/
def hunkP (name : ByteArray) (k : Nat) (old new : List ByteArray) : Pr := ⟨0, name, ByteArray.empty, k, old, new⟩
def gapL (l : List ByteArray) (i x : Nat) : List ByteArray := (l.drop i).take (x - i)
def hunksGo (name : ByteArray) (a b : List ByteArray) : List (Nat × Nat) → Nat → Nat → List Pr
  | [], i, k => if i < a.length ∨ k < b.length then [hunkP name k (gapL a i a.length) (gapL b k b.length)] else []
  | s :: l, i, k => (if i < s.1 ∨ k < s.2 then [hunkP name k (gapL a i s.1) (gapL b k s.2)] else []) ++ hunksGo name a b l (s.1 + 1) (s.2 + 1)
def linesP (name : ByteArray) (a b : List ByteArray) : List Pr := if 200 < a.length ∨ 200 < b.length then [] else hunksGo name a b (commonL a b) 0 0
/-- P6.3: how many lines. -/
def costP (l : List Pr) : Nat := (l.map fun p => p.old.length + p.new.length).sum

section
variable {a b : List ByteArray} {name : ByteArray} {i k : Nat}
theorem gap_length {l : List ByteArray} {x : Nat} (h : x ≤ l.length) : (gapL l i x).length = x - i := by
  unfold gapL; rw [List.length_take, List.length_drop]; omega
theorem gap_drop {l : List ByteArray} {x : Nat} (h : i ≤ x) : gapL l i x ++ l.drop x = l.drop i := by
  unfold gapL
  conv => rhs; rw [← List.take_append_drop (x - i) (l.drop i), List.drop_drop, show i + (x - i) = x by omega]
theorem gap_take {l : List ByteArray} {x : Nat} (h : i ≤ x) : l.take i ++ gapL l i x = l.take x := by
  unfold gapL
  conv => rhs; rw [show x = i + (x - i) by omega, List.take_add]
theorem allB_gap {l : List ByteArray} (h : allB l = true) (x : Nat) : allB (gapL l i x) = true := by
  rw [allB_mem] at *
  exact fun s hs => h s (List.mem_of_mem_drop (List.mem_of_mem_take hs))
theorem cost_append (l m : List Pr) : costP (l ++ m) = costP l + costP m := by simp [costP]

theorem hunks_cost {l : List (Nat × Nat)} (h : Pairs a b i k l) (hi : i ≤ a.length) (hk : k ≤ b.length) : costP (hunksGo name a b l i k) + 2 * l.length = (a.length - i) + (b.length - k) := by
  induction h with
  | nil _ =>
    rename_i i k
    simp only [hunksGo]
    split
    · simp only [costP, hunkP, List.map_cons, List.map_nil, List.sum_cons, List.sum_nil, gap_length (Nat.le_refl _), List.length_nil]; omega
    · simp only [costP, List.map_nil, List.sum_nil, List.length_nil]; omega
  | cons h1 h2 h3 h4 _ _ _ ih =>
    rename_i i k x y l _ _ _
    have := ih (by omega) (by omega)
    simp only [hunksGo, cost_append, List.length_cons]
    split
    · simp only [costP, hunkP, List.map_cons, List.map_nil, List.sum_cons, List.sum_nil, gap_length (Nat.le_of_lt h3), gap_length (Nat.le_of_lt h4)] at *; omega
    · simp only [costP, List.map_nil, List.sum_nil] at *; omega

/-- Between two pairs the rows are unlike. -/
theorem gap_unlike {x y n : Nat} (hi : i ≤ x) (hk : k ≤ y) (hx : x ≤ a.length) (hy : y ≤ b.length) (h : lcs (a.drop i) (b.drop k) = n) (h2 : n ≤ lcs (a.drop x) (b.drop y)) (hg : i < x ∨ k < y) : sameB (gapL a i x) (gapL b k y) = false := by
  refine sameB_no fun e => ?_
  have hl : x - i = y - k := by
    have := congrArg List.length e
    rwa [gap_length hx, gap_length hy] at this
  have := lcs_prefix (gapL a i x) (a.drop x) (b.drop y)
  rw [gap_drop hi, e, gap_drop hk, gap_length hy, h] at this
  omega
theorem hunk_right {x y : Nat} (hn : namedB name = true) (ha : allB a = true) (hb : allB b = true) (hk : k ≤ 1048576) (hu : sameB (gapL a i x) (gapL b k y) = false) : rightP (hunkP name k (gapL a i x) (gapL b k y)) = true := by
  have hpl : decide (0 ≤ ((k : Nat) : Int) ∧ ((k : Nat) : Int) ≤ 1048576) = true := decide_eq_true (by omega)
  simp only [rightP, hunkP, hn, allB_gap ha, allB_gap hb, hu, if_true, decide_true, Bool.true_and, Bool.not_false, Bool.and_true]
  exact hpl
/-- A hunk makes its part. -/
theorem hunk_makes {t : Tr} {x y : Nat} (hn : namedB name = true) (ha : allB a = true) (hb : allB b = true) (hi : i ≤ x) (hk : k ≤ y) (hy : y ≤ b.length) (hf : b.length ≤ 1048576)
    (hu : sameB (gapL a i x) (gapL b k y) = false) (hg : getT t name = some (b.take k ++ a.drop i)) :
    applyP t (hunkP name k (gapL a i x) (gapL b k y)) = (withT t name (b.take y ++ a.drop x), 0) := by
  have hr := hunk_right (name := name) hn ha hb (by omega : k ≤ 1048576) hu
  rw [apply_hunk hr rfl]
  have ec : b.take k ++ a.drop i = b.take k ++ (gapL a i x ++ a.drop x) := by rw [gap_drop hi]
  have el : k = (b.take k).length := by rw [List.length_take]; omega
  have hs : standsB (b.take k ++ a.drop i) (k : Nat) (gapL a i x) = true := by
    have := parts_stands (b.take k) (gapL a i x) (a.drop x)
    rw [← el] at this
    rw [ec]; exact this
  have hp : spliced (b.take k ++ a.drop i) k (gapL a i x).length (gapL b k y) = b.take y ++ a.drop x := by
    rw [ec]
    have := parts_spliced (b.take k) (gapL a i x) (a.drop x) (gapL b k y)
    rw [← el] at this
    rw [this, ← List.append_assoc, gap_take hk]
  simp only [hunkT, hunkP, hg, hs, if_true, Int.toNat_natCast, hp]
/-- P6.4: what is told makes b of a. -/
theorem hunks_run {l : List (Nat × Nat)} {t : Tr} (h : Pairs a b i k l) (ht : Rising t) (hn : namedB name = true) (ha : allB a = true) (hb : allB b = true) (hf : b.length ≤ 1048576) (hi : i ≤ a.length) (hk : k ≤ b.length)
    (hg : getT t name = some (b.take k ++ a.drop i)) : runS t (hunksGo name a b l i k) = (withT t name b, 0) := by
  induction h generalizing t with
  | nil h0 =>
    rename_i i k
    simp only [hunksGo]
    split
    · rename_i hc
      have hu := gap_unlike hi hk (Nat.le_refl _) (Nat.le_refl _) h0 (Nat.zero_le _) hc
      rw [runS_cons]
      exact ⟨_, hunk_makes hn ha hb hi hk (Nat.le_refl _) hf hu hg, by simp [runS]⟩
    · rename_i hc
      have e1 : b.take k = b := List.take_of_length_le (by omega)
      have e2 : a.drop i = [] := List.drop_eq_nil_of_le (by omega)
      rw [e1, e2, List.append_nil] at hg
      rw [with_same ht hg]; rfl
  | cons h1 h2 h3 h4 h5 h6 _ ih =>
    rename_i i k x y l hp
    have hl : lcs (a.drop (x + 1)) (b.drop (y + 1)) = l.length := by
      cases hp with
      | nil h => exact h
      | cons _ _ _ _ _ h _ => exact h
    have next : ∀ s : Tr, Rising s → getT s name = some (b.take y ++ a.drop x) → runS s (hunksGo name a b l (x + 1) (y + 1)) = (withT s name b, 0) := fun s hs hgs => by
      refine ih hs (by omega) (by omega) ?_
      rw [hgs, drop_cons h3, h5]
      have : b.take (y + 1) = b.take y ++ [b.getD y ByteArray.empty] := by
        rw [List.take_succ_eq_append_getElem h4]; simp [List.getD, List.getElem?_eq_getElem h4]
      rw [this]; simp
    simp only [hunksGo]
    split
    · rename_i hc
      have hlow : l.length + 1 ≤ lcs (a.drop x) (b.drop y) := by
        have hb1 := lcs_both (a := a.drop (x + 1)) (b := b.drop (y + 1)) (x := b.getD y ByteArray.empty)
        rw [hl] at hb1
        rw [drop_cons h3, drop_cons h4, h5]
        exact hb1
      have hu := gap_unlike h1 h2 (Nat.le_of_lt h3) (Nat.le_of_lt h4) h6 hlow hc
      rw [List.singleton_append, runS_cons]
      refine ⟨_, hunk_makes hn ha hb h1 h2 (Nat.le_of_lt h4) hf hu hg, ?_⟩
      rw [next _ (rising_with ht _ _) (get_with_same ht _ _), with_with ht]
    · rename_i hc
      rw [List.nil_append]
      obtain rfl : i = x := by omega
      obtain rfl : k = y := by omega
      exact next t ht hg
end

end Go.Proofs.YtbhnbkcokhfopaaGreat
