import Derived.Test.YtomboeiaajggoaaGreatPk2

/-
  Prims as plain values: when they are right, what undoes them, what they make of a tree. Nothing of any program.
-/
namespace Go.Proofs.YtomboeiaajggoaaGreat
open Go.RowKit

/-- A prim. -/
structure Pr where
  kind : Int
  name : ByteArray
  to : ByteArray
  place : Int
  old : List ByteArray
  new : List ByteArray

/-- P3.1: is it right? -/
def rightP (p : Pr) : Bool :=
  namedB p.name &&
    (if p.kind = 0 then decide (p.to = ByteArray.empty) && decide (0 ≤ p.place ∧ p.place ≤ 1048576) && allB p.old && allB p.new && !sameB p.old p.new
    else decide (p.place = 0) && decide (p.old = []) && decide (p.new = []) &&
      (if p.kind = 3 then namedB p.to && decide (p.to ≠ p.name) else decide (p.kind = 1 ∨ p.kind = 2) && decide (p.to = ByteArray.empty)))

def sameP (p q : Pr) : Bool := decide (p.kind = q.kind) && decide (p.name = q.name) && decide (p.to = q.to) && decide (p.place = q.place) && sameB p.old q.old && sameB p.new q.new

/-- P3.2: what undoes it. -/
def invertP (p : Pr) : Pr :=
  if p.kind = 0 then { p with old := p.new, new := p.old }
  else if p.kind = 1 then { p with kind := 2 }
  else if p.kind = 2 then { p with kind := 1 }
  else if p.kind = 3 then { p with name := p.to, to := p.name }
  else p

/-- P3.1: the files that it names. -/
def namesP (p : Pr) : List ByteArray := if p.kind ≠ 3 then [p.name] else if ltN p.name p.to = true then [p.name, p.to] else [p.to, p.name]

/-- P3.3: what it makes of a tree, and the error. -/
def hunkT (t : Tr) (p : Pr) : Tr × Int :=
  match getT t p.name with
  | none => (t, 31)
  | some l => if standsB l p.place p.old = true then (withT t p.name (spliced l p.place.toNat p.old.length p.new), 0) else (t, 31)
def applyP (t : Tr) (p : Pr) : Tr × Int :=
  if rightP p = false then (t, 30)
  else if p.kind = 0 then hunkT t p
  else if p.kind = 1 then (if hasT t p.name = true then (t, 31) else (withT t p.name [], 0))
  else if p.kind = 2 then (match getT t p.name with | none => (t, 31) | some l => if 0 < l.length then (t, 31) else (withoutT t p.name, 0))
  else (match getT t p.name with | none => (t, 31) | some l => if hasT t p.to = true then (t, 31) else (withT (withoutT t p.name) p.to l, 0))

theorem sameP_iff {p q : Pr} : sameP p q = true ↔ p = q := by
  obtain ⟨a, b, c, d, e, f⟩ := p
  obtain ⟨a', b', c', d', e', f'⟩ := q
  simp only [sameP, sameB, Bool.and_eq_true, decide_eq_true_eq, Pr.mk.injEq]
  exact ⟨fun ⟨⟨⟨⟨⟨h1, h2⟩, h3⟩, h4⟩, h5⟩, h6⟩ => ⟨h1, h2, h3, h4, h5, h6⟩, fun ⟨h1, h2, h3, h4, h5, h6⟩ => ⟨⟨⟨⟨⟨h1, h2⟩, h3⟩, h4⟩, h5⟩, h6⟩⟩
theorem sameP_self (p : Pr) : sameP p p = true := sameP_iff.2 rfl
theorem invert_twice (p : Pr) : invertP (invertP p) = p := by
  obtain ⟨k, nm, to, at_, old, new⟩ := p
  unfold invertP
  by_cases h0 : k = 0
  · simp [h0]
  by_cases h1 : k = 1
  · simp [h1]
  by_cases h2 : k = 2
  · simp [h2]
  by_cases h3 : k = 3
  · simp [h3]
  simp [h0, h1, h2, h3]
theorem sameB_comm (a b : List ByteArray) : sameB a b = sameB b a := by simp only [sameB]; exact decide_eq_decide.2 eq_comm
theorem right_invert (p : Pr) : rightP (invertP p) = rightP p := by
  obtain ⟨k, nm, to, at_, old, new⟩ := p
  unfold invertP
  by_cases h0 : k = 0
  · subst h0; simp only [rightP, if_true]; rw [sameB_comm new old]; cases allB old <;> cases allB new <;> simp
  by_cases h1 : k = 1
  · subst h1; simp [rightP]
  by_cases h2 : k = 2
  · subst h2; simp [rightP]
  by_cases h3 : k = 3
  · subst h3
    simp only [rightP, Int.reduceEq, if_false, if_true]
    have : decide (nm ≠ to) = decide (to ≠ nm) := decide_eq_decide.2 ne_comm
    rw [this]
    cases namedB nm <;> cases namedB to <;> simp
  simp [h0, h1, h2, h3]

section
variable {α : Type}
theorem with_same {t : Fl α} (ht : Rising t) {n : ByteArray} {x : α} (h : getT t n = some x) : withT t n x = t := by
  refine rising_ext (rising_with ht n x) ht fun f => ?_
  rw [mem_with]
  constructor
  · rintro (rfl | h1)
    · exact getT_mem h
    · exact h1.1
  · intro hf
    by_cases e : f.1 = n
    · exact .inl (rising_one ht hf (getT_mem h) e)
    · exact .inr ⟨hf, e⟩
theorem with_with {t : Fl α} (ht : Rising t) (n : ByteArray) (x y : α) : withT (withT t n x) n y = withT t n y := by
  refine rising_ext (rising_with (rising_with ht n x) n y) (rising_with ht n y) fun f => ?_
  rw [mem_with, mem_with, mem_with]
  constructor
  · rintro (rfl | ⟨rfl | h1, h2⟩)
    · exact .inl rfl
    · exact absurd rfl h2
    · exact .inr h1
  · rintro (rfl | h1)
    · exact .inl rfl
    · exact .inr ⟨.inr h1, h1.2⟩
end

/-- P3.4: what was applied can be undone. -/
theorem apply_back {t u : Tr} {p : Pr} (ht : Rising t) (h : applyP t p = (u, 0)) : applyP u (invertP p) = (t, 0) := by
  have hr : rightP p = true := by
    cases e : rightP p
    · simp [applyP, e] at h
    · rfl
  have hr' : rightP (invertP p) = true := by rw [right_invert]; exact hr
  simp only [applyP, hr, Bool.true_eq_false, if_false] at h
  simp only [applyP, hr', Bool.true_eq_false, if_false]
  obtain ⟨k, nm, to, at_, old, new⟩ := p
  by_cases h0 : k = 0
  · subst h0
    simp only [if_true, hunkT] at h
    cases hg : getT t nm with
    | none => simp [hg] at h
    | some l =>
      simp only [hg] at h
      by_cases hs : standsB l at_ old = true
      · simp only [hs, if_true, Prod.mk.injEq, and_true] at h
        subst h
        obtain ⟨a, rfl⟩ := Int.eq_ofNat_of_zero_le (standsB_le hs).1
        simp only [invertP, if_true, hunkT]
        rw [get_with_same ht]
        simp only [Int.toNat_natCast] at *
        rw [stands_back hs, if_pos rfl, spliced_back hs, with_with ht, with_same ht hg]
      · simp [hs] at h
  by_cases h1 : k = 1
  · subst h1
    simp only [Int.reduceEq, if_false, if_true] at h
    cases hh : hasT t nm
    · simp only [hh, Bool.false_eq_true, if_false, Prod.mk.injEq, and_true] at h
      subst h
      simp only [invertP, Int.reduceEq, if_false, if_true]
      rw [get_with_same ht]
      simp [without_with ht hh]
    · simp [hh] at h
  by_cases h2 : k = 2
  · subst h2
    simp only [Int.reduceEq, if_false, if_true] at h
    cases hg : getT t nm with
    | none => simp [hg] at h
    | some l =>
      simp only [hg] at h
      cases l with
      | cons x l => simp at h
      | nil =>
        simp only [List.length_nil, Nat.lt_irrefl, if_false, Prod.mk.injEq, and_true] at h
        subst h
        simp only [invertP, Int.reduceEq, if_false, if_true]
        rw [has_without_same, if_neg (by simp), with_without ht hg]
  by_cases h3 : k = 3
  · subst h3
    simp only [Int.reduceEq, if_false] at h
    cases hg : getT t nm with
    | none => simp [hg] at h
    | some l =>
      simp only [hg] at h
      cases hh : hasT t to
      · simp only [hh, Bool.false_eq_true, if_false, Prod.mk.injEq, and_true] at h
        subst h
        simp only [invertP, Int.reduceEq, if_false, if_true]
        have hne : nm ≠ to := by rintro rfl; rw [getT_has hg] at hh; cases hh
        rw [get_with_same (rising_without ht nm), has_with_other l hne, has_without_same]
        simp only [Bool.false_eq_true, if_false]
        rw [without_with (rising_without ht nm) (has_without_no hh nm), with_without ht hg]
      · simp [hh] at h
  · simp [rightP, h0, h1, h2, h3] at hr

end Go.Proofs.YtomboeiaajggoaaGreat

/-
  Prims by the tree's own calls, and how great trees become behind them. Nothing of any program.
-/
namespace Go.Proofs.YtomboeiaajggoaaGreat
open Go.RowKit

/-- At most k files, each of a name, with at most h lines that are right. -/
structure Sized (k h : Nat) (t : Tr) : Prop where
  many : t.length ≤ k
  each : ∀ f ∈ t, namedB f.1 = true ∧ allB f.2 = true ∧ f.2.length ≤ h

theorem allB_mem {l : List ByteArray} : allB l = true ↔ ∀ s ∈ l, rightB s = true := by simp [allB]
theorem allB_none : allB [] = true := by simp [allB]
theorem allB_spliced {l new : List ByteArray} (h1 : allB l = true) (h2 : allB new = true) (k m : Nat) : allB (spliced l k m new) = true := by
  rw [allB_mem] at *
  intro s hs
  simp only [spliced, List.mem_append] at hs
  rcases hs with (hs | hs) | hs
  · exact h1 s (List.mem_of_mem_take hs)
  · exact h2 s hs
  · exact h1 s (List.mem_of_mem_drop hs)
theorem spliced_le (l new : List ByteArray) (k m : Nat) : (spliced l k m new).length ≤ l.length + new.length := by
  simp only [spliced, List.length_append, List.length_take, List.length_drop]
  omega

section
variable {k h : Nat} {t : Tr}
theorem Sized.nil : Sized 0 0 [] := ⟨Nat.le_refl _, fun f hf => by cases hf⟩
theorem Sized.mono {j i : Nat} (hs : Sized k h t) (hj : k ≤ j) (hi : h ≤ i) : Sized j i t := ⟨Nat.le_trans hs.many hj, fun f hf => ⟨(hs.each f hf).1, (hs.each f hf).2.1, Nat.le_trans (hs.each f hf).2.2 hi⟩⟩
theorem Sized.with_ (hs : Sized k h t) {n : ByteArray} {l : List ByteArray} (h1 : namedB n = true) (h2 : allB l = true) (h3 : l.length ≤ h) : Sized (k + 1) h (withT t n l) :=
  ⟨Nat.le_trans (with_length n l) (Nat.succ_le_succ hs.many), fun f hf => by
    rcases mem_with.1 hf with rfl | hf
    · exact ⟨h1, h2, h3⟩
    · exact hs.each f hf.1⟩
theorem Sized.without (hs : Sized k h t) (n : ByteArray) : Sized k h (withoutT t n) := ⟨Nat.le_trans (without_length t n) hs.many, fun f hf => hs.each f (mem_without.1 hf).1⟩
theorem Sized.get (hs : Sized k h t) {n : ByteArray} {l : List ByteArray} (hg : getT t n = some l) : namedB n = true ∧ allB l = true ∧ l.length ≤ h := hs.each _ (getT_mem hg)

theorem right_parts {p : Pr} (hr : rightP p = true) : namedB p.name = true ∧ (p.kind = 0 ∨ p.kind = 1 ∨ p.kind = 2 ∨ p.kind = 3) ∧ allB p.old = true ∧ allB p.new = true ∧ (p.kind = 0 → 0 ≤ p.place ∧ p.place ≤ 1048576) ∧ (p.kind = 3 → namedB p.to = true ∧ p.to ≠ p.name) := by
  obtain ⟨kd, nm, to, at_, old, new⟩ := p
  simp only [rightP, Bool.and_eq_true] at hr ⊢
  obtain ⟨h1, h2⟩ := hr
  refine ⟨h1, ?_⟩
  by_cases h0 : kd = 0
  · subst h0
    simp only [if_true, Bool.and_eq_true, decide_eq_true_eq] at h2
    obtain ⟨⟨⟨⟨_, h4⟩, h5⟩, h6⟩, _⟩ := h2
    exact ⟨.inl rfl, h5, h6, fun _ => h4, fun e => by cases e⟩
  · rw [if_neg h0] at h2
    simp only [Bool.and_eq_true, decide_eq_true_eq] at h2
    obtain ⟨⟨⟨_, rfl⟩, rfl⟩, h4⟩ := h2
    by_cases h3 : kd = 3
    · subst h3
      simp only [if_true, Bool.and_eq_true, decide_eq_true_eq] at h4
      exact ⟨.inr (.inr (.inr rfl)), allB_none, allB_none, (fun e => by cases e), fun _ => h4⟩
    · rw [if_neg h3] at h4
      simp only [Bool.and_eq_true, decide_eq_true_eq] at h4
      exact ⟨h4.1.elim (fun e => .inr (.inl e)) (fun e => .inr (.inr (.inl e))), allB_none, allB_none, fun e => absurd e h0, fun e => absurd e h3⟩

/-- Behind a prim. -/
theorem Sized.apply (hs : Sized k h t) (p : Pr) : Sized (k + 1) (h + p.new.length) (applyP t p).1 := by
  have h0 : Sized (k + 1) (h + p.new.length) t := hs.mono (Nat.le_succ _) (Nat.le_add_right _ _)
  cases hr : rightP p
  · simp only [applyP, hr, if_true]; exact h0
  obtain ⟨hn, hk, _, hnew, _, hmv⟩ := right_parts hr
  simp only [applyP, hr, Bool.true_eq_false, if_false]
  rcases hk with e | e | e | e
  · simp only [e, if_true, hunkT]
    cases hg : getT t p.name with
    | none => exact h0
    | some l =>
      have hl := hs.get hg
      dsimp only
      split
      · exact (hs.mono (Nat.le_refl _) (Nat.le_add_right _ _)).with_ hn (allB_spliced hl.2.1 hnew _ _) (Nat.le_trans (spliced_le _ _ _ _) (Nat.add_le_add_right hl.2.2 _))
      · exact h0
  · simp only [e, Int.reduceEq, if_false, if_true]
    split
    · exact h0
    · exact (hs.mono (Nat.le_refl _) (Nat.le_add_right _ _)).with_ hn allB_none (Nat.zero_le _)
  · simp only [e, Int.reduceEq, if_false, if_true]
    cases hg : getT t p.name with
    | none => exact h0
    | some l =>
      dsimp only
      split
      · exact h0
      · exact h0.without _
  · simp only [e, Int.reduceEq, if_false]
    cases hg : getT t p.name with
    | none => exact h0
    | some l =>
      have hl := hs.get hg
      dsimp only
      split
      · exact h0
      · exact ((hs.mono (Nat.le_refl _) (Nat.le_add_right _ _)).without _).with_ (hmv e).1 hl.2.1 (Nat.le_trans hl.2.2 (Nat.le_add_right _ _))
theorem rising_apply (ht : Rising t) (p : Pr) : Rising (applyP t p).1 := by
  simp only [applyP]
  split
  · exact ht
  split
  · simp only [hunkT]
    split
    · exact ht
    · split
      · exact rising_with ht _ _
      · exact ht
  split
  · split
    · exact ht
    · exact rising_with ht _ _
  split
  · split
    · exact ht
    · split
      · exact ht
      · exact rising_without ht _
  · split
    · exact ht
    · split
      · exact ht
      · exact rising_with (rising_without ht _) _ _

/-- Each kind by the tree's own calls. -/
theorem apply_wrong {p : Pr} (hr : rightP p = false) : applyP t p = (t, 30) := by simp [applyP, hr]
theorem apply_add {p : Pr} (hr : rightP p = true) (e : p.kind = 1) : applyP t p = ((addT t p.name).1, if (addT t p.name).2 = 0 then 0 else 31) := by
  have hn := (right_parts hr).1
  simp only [applyP, hr, e, addT, hn, Bool.true_eq_false, if_false, Int.reduceEq, if_true]
  cases hasT t p.name <;> simp
theorem apply_rm {p : Pr} (hr : rightP p = true) (e : p.kind = 2) : applyP t p = ((removeT t p.name).1, if (removeT t p.name).2 = 0 then 0 else 31) := by
  have key : ∀ r : Tr × Int, removeT t p.name = r → applyP t p = (r.1, if r.2 = 0 then 0 else 31) := by
    intro r hq
    simp only [applyP, hr, e, Bool.true_eq_false, if_false, Int.reduceEq, if_true]
    unfold removeT at hq
    split at hq <;> rename_i hg <;> rw [hg]
    · subst hq; simp
    · dsimp only
      split at hq <;> rename_i h1
      · subst hq; simp [h1]
      · subst hq; simp [h1]
  exact key _ rfl
theorem apply_move {p : Pr} (hr : rightP p = true) (e : p.kind = 3) : applyP t p = ((moveT t p.name p.to).1, if (moveT t p.name p.to).2 = 0 then 0 else 31) := by
  have hn := ((right_parts hr).2.2.2.2.2 e).1
  have key : ∀ r : Tr × Int, moveT t p.name p.to = r → applyP t p = (r.1, if r.2 = 0 then 0 else 31) := by
    intro r hq
    simp only [applyP, hr, e, Bool.true_eq_false, if_false, Int.reduceEq]
    simp only [moveT, hn, Bool.true_eq_false, if_false] at hq
    split at hq <;> rename_i hg <;> rw [hg]
    · subst hq; simp
    · dsimp only
      split at hq <;> rename_i h1
      · subst hq; simp [h1]
      · subst hq; simp [h1]
  exact key _ rfl
theorem apply_hunk {p : Pr} (hr : rightP p = true) (e : p.kind = 0) : applyP t p = hunkT t p := by simp [applyP, hr, e]
theorem put_spliced {p : Pr} {l : List ByteArray} (hs : Sized k h t) (hr : rightP p = true) (hg : getT t p.name = some l) (i m : Nat) : putT t p.name (spliced l i m p.new) = (withT t p.name (spliced l i m p.new), 0) := by
  simp only [putT, getT_has hg, allB_spliced (hs.get hg).2.1 (right_parts hr).2.2.2.1, Bool.true_eq_false, if_false]
end

end Go.Proofs.YtomboeiaajggoaaGreat

/-
  Two prims in the other order, as plain values: when they have one, and what follows of it. Nothing of any program.
-/
namespace Go.Proofs.YtomboeiaajggoaaGreat
open Go.RowKit

def placed (p : Pr) (k : Int) : Pr := { p with place := k }
def inFile (p : Pr) (n : ByteArray) : Pr := { p with name := n }
/-- Do two name one file? -/
def commonP (p q : Pr) : Bool := (namesP p).any fun a => (namesP q).any fun b => decide (a = b)

/-- P4.1, of two that are right. -/
def twoP (p q : Pr) : Pr × Pr × Bool :=
  if p.kind = 0 ∧ q.kind = 0 ∧ p.name = q.name then
    (if q.place > p.place + p.new.length then (placed q (q.place - p.new.length + p.old.length), p, true)
    else if q.place + q.old.length < p.place then (q, placed p (p.place + q.new.length - q.old.length), true)
    else (p, q, false))
  else if p.kind = 0 ∧ q.kind = 3 ∧ p.name = q.name then (q, inFile p q.to, true)
  else if p.kind = 3 ∧ q.kind = 0 ∧ p.to = q.name then (inFile q p.name, p, true)
  else if p.kind = 0 ∧ q.kind = 0 then (q, p, true)
  else (q, p, !commonP p q)

/-- P4.1: first and second, or none. -/
def swapP (p q : Pr) : Option (Pr × Pr) :=
  if rightP p = true ∧ rightP q = true ∧ (twoP p q).2.2 = true ∧ rightP (twoP p q).1 = true ∧ rightP (twoP p q).2.1 = true then some ((twoP p q).1, (twoP p q).2.1) else none

/-- The name behind x of a file; the name ahead of x. -/
def fwdN (x : Pr) (n : ByteArray) : Option ByteArray := if x.kind = 3 then (if n = x.name then some x.to else if n = x.to then none else some n) else if n = x.name then none else some n
def bwdN (x : Pr) (n : ByteArray) : Option ByteArray := if x.kind = 3 then (if n = x.to then some x.name else if n = x.name then none else some n) else if n = x.name then none else some n

theorem mem_names {p : Pr} {n : ByteArray} : n ∈ namesP p ↔ n = p.name ∨ p.kind = 3 ∧ n = p.to := by
  unfold namesP
  by_cases h : p.kind = 3
  · simp only [h, ne_eq, not_true, if_false, true_and]
    split
    · simp
    · simp [or_comm]
  · simp [h]
theorem common_iff {p q : Pr} : commonP p q = true ↔ ∃ n, n ∈ namesP p ∧ n ∈ namesP q := by
  simp only [commonP, List.any_eq_true, decide_eq_true_eq]
  constructor
  · rintro ⟨a, ha, b, hb, rfl⟩; exact ⟨a, ha, hb⟩
  · rintro ⟨a, ha, hb⟩; exact ⟨a, ha, a, hb, rfl⟩
theorem common_comm (p q : Pr) : commonP p q = commonP q p := by
  rw [Bool.eq_iff_iff, common_iff, common_iff]
  exact ⟨fun ⟨n, a, b⟩ => ⟨n, b, a⟩, fun ⟨n, a, b⟩ => ⟨n, b, a⟩⟩
theorem common_no {p q : Pr} : commonP p q = false ↔ ∀ n, n ∈ namesP p → n ∉ namesP q := by
  rw [← Bool.not_eq_true, common_iff]
  exact ⟨fun h n a b => h ⟨n, a, b⟩, fun h ⟨n, a, b⟩ => h n a b⟩

/-- A right Move goes elsewhere. -/
theorem move_else {x : Pr} (hr : rightP x = true) (e : x.kind = 3) : x.to ≠ x.name := ((right_parts hr).2.2.2.2.2 e).2
theorem fwd_bwd {x : Pr} (hr : rightP x = true) {n m : ByteArray} : fwdN x n = some m ↔ bwdN x m = some n := by
  unfold fwdN bwdN
  by_cases h : x.kind = 3
  · have hne := move_else hr h
    simp only [h, if_true]
    constructor
    · split
      · rintro ⟨⟩; rename_i e; subst e; simp
      · split
        · rintro ⟨⟩
        · rintro ⟨⟩; rename_i h1 h2; rw [if_neg h2, if_neg h1]
    · split
      · rintro ⟨⟩; rename_i e; subst e; simp
      · split
        · rintro ⟨⟩
        · rintro ⟨⟩; rename_i h1 h2; rw [if_neg h2, if_neg h1]
  · simp only [h, if_false]
    constructor
    · split
      · rintro ⟨⟩
      · rintro ⟨⟩; rename_i h1; rw [if_neg h1]
    · split
      · rintro ⟨⟩
      · rintro ⟨⟩; rename_i h1; rw [if_neg h1]

theorem named_fwd {x : Pr} (hr : rightP x = true) {n m : ByteArray} (hn : namedB n = true) (h : fwdN x n = some m) : namedB m = true := by
  unfold fwdN at h
  split at h
  · rename_i e
    split at h
    · cases h; exact ((right_parts hr).2.2.2.2.2 e).1
    · split at h
      · cases h
      · cases h; exact hn
  · split at h
    · cases h
    · cases h; exact hn
theorem named_bwd {x : Pr} (hr : rightP x = true) {n m : ByteArray} (hn : namedB n = true) (h : bwdN x n = some m) : namedB m = true := by
  unfold bwdN at h
  split at h
  · split at h
    · cases h; exact (right_parts hr).1
    · split at h
      · cases h
      · cases h; exact hn
  · split at h
    · cases h
    · cases h; exact hn

/-- A Hunk in another file, or at another place, is right just if the name, or the place, is. -/
theorem right_inFile {p : Pr} (h0 : p.kind = 0) (hr : rightP p = true) {n : ByteArray} (hn : namedB n = true) : rightP (inFile p n) = true := by
  simp only [rightP, inFile, h0, if_true, Bool.and_eq_true] at hr ⊢
  exact ⟨hn, hr.2⟩
theorem right_placed {p : Pr} (h0 : p.kind = 0) (hr : rightP p = true) {k : Int} (hk : 0 ≤ k) : rightP (placed p k) = decide (k ≤ 1048576) := by
  simp only [rightP, placed, h0, if_true, Bool.and_eq_true] at hr ⊢
  obtain ⟨h1, ⟨⟨⟨h2, h3⟩, h4⟩, h5⟩, h6⟩ := hr
  rw [h1, h2, h4, h5, h6]
  simp [hk]
theorem place_in {p : Pr} (hr : rightP p = true) (h0 : p.kind = 0) : 0 ≤ p.place ∧ p.place ≤ 1048576 := (right_parts hr).2.2.2.2.1 h0

section
variable {p q : Pr}
/-- Two Hunks. -/
def swapHH (p q : Pr) : Option (Pr × Pr) :=
  if p.name = q.name then
    (if q.place > p.place + p.new.length then (if q.place - p.new.length + p.old.length ≤ 1048576 then some (placed q (q.place - p.new.length + p.old.length), p) else none)
    else if q.place + q.old.length < p.place then (if p.place + q.new.length - q.old.length ≤ 1048576 then some (q, placed p (p.place + q.new.length - q.old.length)) else none)
    else none)
  else some (q, p)
theorem swap_HH (hp : rightP p = true) (hq : rightP q = true) (h : p.kind = 0) (k : q.kind = 0) : swapP p q = swapHH p q := by
  have pp := place_in hp h
  have qq := place_in hq k
  simp only [swapP, twoP, swapHH, h, k, true_and, hp, hq]
  by_cases e : p.name = q.name
  · simp only [e, if_true]
    by_cases h1 : q.place > p.place + p.new.length
    · have hk : 0 ≤ q.place - p.new.length + p.old.length := by omega
      simp only [h1, if_true, hp, right_placed k hq hk, decide_eq_true_eq, and_true, true_and]
    · simp only [h1, if_false]
      by_cases h2 : q.place + q.old.length < p.place
      · have hk : 0 ≤ p.place + q.new.length - q.old.length := by omega
        simp only [h2, if_true, hq, right_placed h hp hk, decide_eq_true_eq, true_and]
      · simp [h2]
  · simp [e, hp, hq]
/-- A Hunk, and none. -/
theorem swap_HN (hp : rightP p = true) (hq : rightP q = true) (h : p.kind = 0) (k : q.kind ≠ 0) : swapP p q = (fwdN q p.name).map fun n => (q, inFile p n) := by
  have hn := (right_parts hp).1
  simp only [swapP, twoP, h, k, true_and, false_and, and_false, if_false, hp, hq, Int.reduceEq]
  by_cases k3 : q.kind = 3
  · simp only [k3, true_and, fwdN, if_true]
    by_cases e : p.name = q.name
    · have ht := right_inFile h hp ((right_parts hq).2.2.2.2.2 k3).1
      simp [e, hq, ht]
    · simp only [e, if_false]
      by_cases e2 : p.name = q.to
      · have : commonP p q = true := common_iff.2 ⟨p.name, mem_names.2 (.inl rfl), mem_names.2 (.inr ⟨k3, e2⟩)⟩
        simp [this, e2]
      · have : commonP p q = false := common_no.2 fun n a b => by
          rw [mem_names] at a b
          simp only [h, Int.reduceEq, false_and, or_false] at a
          subst a
          rcases b with b | b
          · exact e b
          · exact e2 b.2
        simp [this, e2, hp, hq, inFile]
  · simp only [k3, false_and, if_false, fwdN]
    by_cases e : p.name = q.name
    · have : commonP p q = true := common_iff.2 ⟨p.name, mem_names.2 (.inl rfl), mem_names.2 (.inl e)⟩
      simp [this, e]
    · have : commonP p q = false := common_no.2 fun n a b => by
        rw [mem_names] at a b
        simp only [h, k3, Int.reduceEq, false_and, or_false] at a b
        exact e (a.symm.trans b)
      simp [this, e, hp, hq, inFile]
/-- None, and a Hunk. -/
theorem swap_NH (hp : rightP p = true) (hq : rightP q = true) (h : p.kind ≠ 0) (k : q.kind = 0) : swapP p q = (bwdN p q.name).map fun n => (inFile q n, p) := by
  simp only [swapP, twoP, h, k, true_and, false_and, if_false, hp, hq]
  by_cases k3 : p.kind = 3
  · simp only [k3, true_and, bwdN, if_true]
    by_cases e : p.to = q.name
    · have ht := right_inFile k hq (right_parts hp).1
      simp [e, hp, ht]
    · have e' : q.name ≠ p.to := fun x => e x.symm
      simp only [e, e', if_false]
      by_cases e2 : q.name = p.name
      · have : commonP p q = true := common_iff.2 ⟨p.name, mem_names.2 (.inl rfl), mem_names.2 (.inl e2.symm)⟩
        simp [this, e2]
      · have : commonP p q = false := common_no.2 fun n a b => by
          rw [mem_names] at a b
          simp only [k, Int.reduceEq, false_and, or_false] at b
          subst b
          rcases a with a | a
          · exact e2 a
          · exact e' a.2
        simp [this, e2, hp, hq, inFile]
  · simp only [k3, false_and, if_false, bwdN]
    by_cases e : q.name = p.name
    · have : commonP p q = true := common_iff.2 ⟨p.name, mem_names.2 (.inl rfl), mem_names.2 (.inl e.symm)⟩
      simp [this, e]
    · have : commonP p q = false := common_no.2 fun n a b => by
        rw [mem_names] at a b
        simp only [k, k3, Int.reduceEq, false_and, or_false] at a b
        exact e (b.symm.trans a)
      simp [this, e, hp, hq, inFile]
/-- No Hunk of both. -/
theorem swap_NN (hp : rightP p = true) (hq : rightP q = true) (h : p.kind ≠ 0) (k : q.kind ≠ 0) : swapP p q = if commonP p q = true then none else some (q, p) := by
  simp only [swapP, twoP, h, k, and_false, false_and, if_false, hp, hq, true_and, and_true]
  cases commonP p q <;> simp
theorem swap_right {a b : Pr} (h : swapP p q = some (a, b)) : rightP p = true ∧ rightP q = true ∧ rightP a = true ∧ rightP b = true := by
  simp only [swapP] at h
  split at h
  · rename_i hc
    cases h
    exact ⟨hc.1, hc.2.1, hc.2.2.2.1, hc.2.2.2.2⟩
  · cases h
end

end Go.Proofs.YtomboeiaajggoaaGreat

/-
  What follows of two prims in the other order: swapped again they are as they were; what undoes them is swapped, too. Nothing of any program.
-/
namespace Go.Proofs.YtomboeiaajggoaaGreat
open Go.RowKit

theorem placed_placed (p : Pr) (a b : Int) : placed (placed p a) b = placed p b := rfl
theorem placed_self (p : Pr) : placed p p.place = p := rfl
theorem inFile_inFile (p : Pr) (a b : ByteArray) : inFile (inFile p a) b = inFile p b := rfl
theorem inFile_self (p : Pr) : inFile p p.name = p := rfl
theorem placed_to {p : Pr} {k : Int} (h : k = p.place) : placed p k = p := by subst h; rfl

section
variable {p q a b : Pr}
theorem inv_kind0 : (invertP p).kind = 0 ↔ p.kind = 0 := by
  unfold invertP
  by_cases h0 : p.kind = 0
  · simp [h0]
  by_cases h1 : p.kind = 1
  · simp [h1]
  by_cases h2 : p.kind = 2
  · simp [h2]
  by_cases h3 : p.kind = 3
  · simp [h3]
  simp [h0, h1, h2, h3]
theorem inv_kind3 : (invertP p).kind = 3 ↔ p.kind = 3 := by
  unfold invertP
  by_cases h0 : p.kind = 0
  · simp [h0]
  by_cases h1 : p.kind = 1
  · simp [h1]
  by_cases h2 : p.kind = 2
  · simp [h2]
  by_cases h3 : p.kind = 3
  · simp [h3]
  simp [h0, h1, h2, h3]
theorem inv_hunk (h : p.kind = 0) : invertP p = { p with old := p.new, new := p.old } := by simp [invertP, h]
theorem inv_move (h : p.kind = 3) : invertP p = { p with name := p.to, to := p.name } := by simp [invertP, h]
theorem inv_name (h : p.kind ≠ 3) : (invertP p).name = p.name := by
  unfold invertP
  by_cases h0 : p.kind = 0
  · simp [h0]
  by_cases h1 : p.kind = 1
  · simp [h1]
  by_cases h2 : p.kind = 2
  · simp [h2]
  simp [h0, h1, h2, h]
theorem inv_placed (h : p.kind = 0) (k : Int) : invertP (placed p k) = placed (invertP p) k := by simp [invertP, placed, h]
theorem inv_inFile (h : p.kind = 0) (n : ByteArray) : invertP (inFile p n) = inFile (invertP p) n := by simp [invertP, inFile, h]
theorem inv_names {n : ByteArray} : n ∈ namesP (invertP p) ↔ n ∈ namesP p := by
  rw [mem_names, mem_names, inv_kind3]
  by_cases h : p.kind = 3
  · rw [inv_move h]; simp only [h, true_and]; exact or_comm
  · rw [inv_name h]; simp [h]
theorem inv_common : commonP (invertP p) (invertP q) = commonP p q := by
  rw [Bool.eq_iff_iff, common_iff, common_iff]; simp only [inv_names]
theorem inv_common_left : commonP (invertP p) q = commonP p q := by
  rw [Bool.eq_iff_iff, common_iff, common_iff]; simp only [inv_names]
theorem bwd_inv (n : ByteArray) : bwdN (invertP p) n = fwdN p n := by
  unfold bwdN fwdN
  by_cases h : p.kind = 3
  · rw [if_pos (inv_kind3.2 h), if_pos h, inv_move h]
  · rw [if_neg (fun e => h (inv_kind3.1 e)), if_neg h, inv_name h]
theorem fwd_inv (n : ByteArray) : fwdN (invertP p) n = bwdN p n := by
  unfold bwdN fwdN
  by_cases h : p.kind = 3
  · rw [if_pos (inv_kind3.2 h), if_pos h, inv_move h]
  · rw [if_neg (fun e => h (inv_kind3.1 e)), if_neg h, inv_name h]

/-- Two Hunks that are swapped. -/
theorem swapHH_cases (h : swapHH p q = some (a, b)) :
    (p.name ≠ q.name ∧ a = q ∧ b = p) ∨
    (p.name = q.name ∧ q.place > p.place + p.new.length ∧ q.place - p.new.length + p.old.length ≤ 1048576 ∧ a = placed q (q.place - p.new.length + p.old.length) ∧ b = p) ∨
    (p.name = q.name ∧ q.place + q.old.length < p.place ∧ p.place + q.new.length - q.old.length ≤ 1048576 ∧ a = q ∧ b = placed p (p.place + q.new.length - q.old.length)) := by
  unfold swapHH at h
  split at h
  · rename_i e
    split at h
    · rename_i h1
      split at h
      · rename_i h2; cases h; exact .inr (.inl ⟨e, h1, h2, rfl, rfl⟩)
      · cases h
    · split at h
      · rename_i h1
        split at h
        · rename_i h2; cases h; exact .inr (.inr ⟨e, h1, h2, rfl, rfl⟩)
        · cases h
      · cases h
  · rename_i e; cases h; exact .inl ⟨e, rfl, rfl⟩
theorem swapHH_apart (e : p.name ≠ q.name) : swapHH p q = some (q, p) := by simp [swapHH, e]
theorem swapHH_behind (e : p.name = q.name) (h : q.place > p.place + p.new.length) (k : q.place - p.new.length + p.old.length ≤ 1048576) : swapHH p q = some (placed q (q.place - p.new.length + p.old.length), p) := by
  simp [swapHH, e, h, k]
theorem swapHH_ahead (e : p.name = q.name) (h : q.place + q.old.length < p.place) (k : p.place + q.new.length - q.old.length ≤ 1048576) : swapHH p q = some (q, placed p (p.place + q.new.length - q.old.length)) := by
  have h1 : ¬ q.place > p.place + p.new.length := by omega
  simp only [swapHH, e, h, k, h1, if_true, if_false]

/-- P4.3: swapped again, both are as they were. -/
theorem swap_back (h : swapP p q = some (a, b)) : swapP a b = some (p, q) := by
  obtain ⟨hp, hq, ha, hb⟩ := swap_right h
  by_cases kp : p.kind = 0
  · by_cases kq : q.kind = 0
    · rw [swap_HH hp hq kp kq] at h
      have pp := place_in hp kp
      have qq := place_in hq kq
      rcases swapHH_cases h with ⟨e, rfl, rfl⟩ | ⟨e, h1, h2, rfl, rfl⟩ | ⟨e, h1, h2, rfl, rfl⟩
      · rw [swap_HH ha hb kq kp, swapHH_apart (fun x => e x.symm)]
      · rw [swap_HH ha hb kq kp]
        have := swapHH_ahead (p := placed q (q.place - b.new.length + b.old.length)) (q := b) e.symm (by simp only [placed]; omega) (by simp only [placed]; omega)
        rw [this, placed_placed, placed_to (by simp only [placed]; omega)]
      · rw [swap_HH ha hb kq kp]
        have := swapHH_behind (p := a) (q := placed p (p.place + a.new.length - a.old.length)) e.symm (by simp only [placed]; omega) (by simp only [placed]; omega)
        rw [this, placed_placed, placed_to (by simp only [placed]; omega)]
    · rw [swap_HN hp hq kp kq] at h
      cases hf : fwdN q p.name with
      | none => rw [hf] at h; cases h
      | some n =>
        rw [hf] at h
        cases h
        rw [swap_NH ha hb kq kp]
        have : bwdN q (inFile p n).name = some p.name := (fwd_bwd hq).1 hf
        rw [this]; rfl
  · by_cases kq : q.kind = 0
    · rw [swap_NH hp hq kp kq] at h
      cases hf : bwdN p q.name with
      | none => rw [hf] at h; cases h
      | some n =>
        rw [hf] at h
        cases h
        rw [swap_HN ha hb kq kp]
        have : fwdN p (inFile q n).name = some q.name := (fwd_bwd hp).2 hf
        rw [this]; rfl
    · rw [swap_NN hp hq kp kq] at h
      split at h
      · cases h
      · rename_i hc
        cases h
        rw [swap_NN ha hb kq kp, common_comm, if_neg hc]

/-- P4.3: what undoes p, and first. -/
theorem swap_square (h : swapP p q = some (a, b)) : swapP (invertP p) a = some (q, invertP b) := by
  obtain ⟨hp, hq, ha, hb⟩ := swap_right h
  have hi : rightP (invertP p) = true := by rw [right_invert]; exact hp
  by_cases kp : p.kind = 0
  · have ki : (invertP p).kind = 0 := inv_kind0.2 kp
    by_cases kq : q.kind = 0
    · rw [swap_HH hp hq kp kq] at h
      have pp := place_in hp kp
      have qq := place_in hq kq
      rcases swapHH_cases h with ⟨e, rfl, rfl⟩ | ⟨e, h1, h2, rfl, rfl⟩ | ⟨e, h1, h2, rfl, rfl⟩
      · rw [swap_HH hi ha ki kq, inv_hunk kp]; exact swapHH_apart e
      · rw [swap_HH hi ha ki kq, inv_hunk kp]
        have := swapHH_behind (p := { b with old := b.new, new := b.old }) (q := placed q (q.place - b.new.length + b.old.length)) e (by simp only [placed]; omega) (by simp only [placed]; omega)
        rw [this, placed_placed, placed_to (by simp only [placed]; omega)]
      · rw [swap_HH hi ha ki kq, inv_placed kp, inv_hunk kp]
        exact swapHH_ahead (p := { p with old := p.new, new := p.old }) (q := a) e h1 h2
    · rw [swap_HN hp hq kp kq] at h
      cases hf : fwdN q p.name with
      | none => rw [hf] at h; cases h
      | some n =>
        rw [hf] at h
        cases h
        rw [swap_HN hi ha ki kq, inv_name (by omega), hf, inv_inFile kp]; rfl
  · have ki : (invertP p).kind ≠ 0 := fun e => kp (inv_kind0.1 e)
    by_cases kq : q.kind = 0
    · rw [swap_NH hp hq kp kq] at h
      cases hf : bwdN p q.name with
      | none => rw [hf] at h; cases h
      | some n =>
        rw [hf] at h
        cases h
        rw [swap_NH hi ha ki kq, bwd_inv]
        have : fwdN p (inFile q n).name = some q.name := (fwd_bwd hp).2 hf
        rw [this]; rfl
    · rw [swap_NN hp hq kp kq] at h
      split at h
      · cases h
      · rename_i hc
        cases h
        rw [swap_NN hi ha ki kq, inv_common_left, if_neg hc]

theorem swap_inverts_some (h : swapP p q = some (a, b)) : swapP (invertP q) (invertP p) = some (invertP b, invertP a) := by
  obtain ⟨hp, hq, ha, hb⟩ := swap_right h
  have hi : rightP (invertP p) = true := by rw [right_invert]; exact hp
  have hj : rightP (invertP q) = true := by rw [right_invert]; exact hq
  by_cases kp : p.kind = 0
  · have ki : (invertP p).kind = 0 := inv_kind0.2 kp
    by_cases kq : q.kind = 0
    · have kj : (invertP q).kind = 0 := inv_kind0.2 kq
      rw [swap_HH hp hq kp kq] at h
      have pp := place_in hp kp
      have qq := place_in hq kq
      rw [swap_HH hj hi kj ki]
      rcases swapHH_cases h with ⟨e, rfl, rfl⟩ | ⟨e, h1, h2, rfl, rfl⟩ | ⟨e, h1, h2, rfl, rfl⟩
      · rw [inv_hunk kp, inv_hunk kq]; exact swapHH_apart (fun x => e x.symm)
      · rw [inv_placed kq, inv_hunk kp, inv_hunk kq]
        have := swapHH_ahead (p := { q with old := q.new, new := q.old }) (q := { b with old := b.new, new := b.old }) e.symm (by simp only; omega) (by simp only; omega)
        rw [this]
        congr 3
        simp only; omega
      · rw [inv_placed kp, inv_hunk kp, inv_hunk kq]
        have := swapHH_behind (p := { a with old := a.new, new := a.old }) (q := { p with old := p.new, new := p.old }) e.symm (by simp only; omega) (by simp only; omega)
        rw [this]
        congr 3
        simp only; omega
    · have kj : (invertP q).kind ≠ 0 := fun e => kq (inv_kind0.1 e)
      rw [swap_HN hp hq kp kq] at h
      cases hf : fwdN q p.name with
      | none => rw [hf] at h; cases h
      | some n =>
        rw [hf] at h
        cases h
        rw [swap_NH hj hi kj ki, bwd_inv, inv_name (by omega), hf, inv_inFile kp]; rfl
  · have ki : (invertP p).kind ≠ 0 := fun e => kp (inv_kind0.1 e)
    by_cases kq : q.kind = 0
    · have kj : (invertP q).kind = 0 := inv_kind0.2 kq
      rw [swap_NH hp hq kp kq] at h
      cases hf : bwdN p q.name with
      | none => rw [hf] at h; cases h
      | some n =>
        rw [hf] at h
        cases h
        rw [swap_HN hj hi kj ki, fwd_inv, inv_name (by omega), hf, inv_inFile kq]; rfl
    · have kj : (invertP q).kind ≠ 0 := fun e => kq (inv_kind0.1 e)
      rw [swap_NN hp hq kp kq] at h
      split at h
      · cases h
      · rename_i hc
        cases h
        rw [swap_NN hj hi kj ki, inv_common, common_comm, if_neg hc]
/-- P4.3: what undoes q, and what undoes p. -/
theorem swap_inverts (p q : Pr) : swapP (invertP q) (invertP p) = (swapP p q).map fun x => (invertP x.2, invertP x.1) := by
  cases h : swapP p q with
  | some x => exact swap_inverts_some h
  | none =>
    cases k : swapP (invertP q) (invertP p) with
    | none => rfl
    | some x =>
      have := swap_inverts_some k
      rw [invert_twice, invert_twice, h] at this
      cases this

/-- P4.1: kinds, and how many lines, are as they were; one that is no Hunk is as it was. -/
theorem swap_keeps (h : swapP p q = some (a, b)) : a.kind = q.kind ∧ a.old = q.old ∧ a.new = q.new ∧ (q.kind ≠ 0 → a = q) ∧ b.kind = p.kind ∧ b.old = p.old ∧ b.new = p.new ∧ (p.kind ≠ 0 → b = p) := by
  obtain ⟨hp, hq, ha, hb⟩ := swap_right h
  by_cases kp : p.kind = 0
  · by_cases kq : q.kind = 0
    · rw [swap_HH hp hq kp kq] at h
      rcases swapHH_cases h with ⟨_, rfl, rfl⟩ | ⟨_, _, _, rfl, rfl⟩ | ⟨_, _, _, rfl, rfl⟩ <;> simp [placed, kp, kq]
    · rw [swap_HN hp hq kp kq] at h
      obtain ⟨n, _, h1⟩ := Option.map_eq_some_iff.1 h
      cases h1
      simp [inFile, kp]
  · by_cases kq : q.kind = 0
    · rw [swap_NH hp hq kp kq] at h
      obtain ⟨n, _, h1⟩ := Option.map_eq_some_iff.1 h
      cases h1
      simp [inFile, kq]
    · rw [swap_NN hp hq kp kq] at h
      split at h
      · cases h
      · cases h; simp
end

end Go.Proofs.YtomboeiaajggoaaGreat
