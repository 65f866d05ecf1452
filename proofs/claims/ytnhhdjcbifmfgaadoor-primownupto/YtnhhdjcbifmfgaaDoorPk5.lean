import Derived.Test.YtnhhdjcbifmfgaaDoorPk2
import Derived.Test.YtnhhdjcbifmfgaaDoorPk1
import Derived.Test.YtnhhdjcbifmfgaaDoorChecked
import Derived.Test.YtnhhdjcbifmfgaaDoorPk3
import Derived.Test.YtnhhdjcbifmfgaaDoorPk4

/-
  Prims as plain values: when they are right, what undoes them, what they make of a tree. Nothing of any program.
-/
namespace Go.Proofs.YtnhhdjcbifmfgaaDoor
open Go.RowKit

/-- A prim. -/
structure Pr where
  kind : Int
  name : ByteArray
  to : ByteArray
  place : Int
  old : List ByteArray
  new : List ByteArray

/-- P3.1: is it right? -/
def rightP (p : Pr) : Bool :=
  namedB p.name &&
    (if p.kind = 0 then decide (p.to = ByteArray.empty) && decide (0 ≤ p.place ∧ p.place ≤ 1048576) && allB p.old && allB p.new && !sameB p.old p.new
    else decide (p.place = 0) && decide (p.old = []) && decide (p.new = []) &&
      (if p.kind = 3 then namedB p.to && decide (p.to ≠ p.name) else decide (p.kind = 1 ∨ p.kind = 2) && decide (p.to = ByteArray.empty)))

def sameP (p q : Pr) : Bool := decide (p.kind = q.kind) && decide (p.name = q.name) && decide (p.to = q.to) && decide (p.place = q.place) && sameB p.old q.old && sameB p.new q.new

/-- P3.2: what undoes it. -/
def invertP (p : Pr) : Pr :=
  if p.kind = 0 then { p with old := p.new, new := p.old }
  else if p.kind = 1 then { p with kind := 2 }
  else if p.kind = 2 then { p with kind := 1 }
  else if p.kind = 3 then { p with name := p.to, to := p.name }
  else p

/-- P3.1: the files that it names. -/
def namesP (p : Pr) : List ByteArray := if p.kind ≠ 3 then [p.name] else if ltN p.name p.to = true then [p.name, p.to] else [p.to, p.name]

/-- P3.3: what it makes of a tree, and the error. -/
def hunkT (t : Tr) (p : Pr) : Tr × Int :=
  match getT t p.name with
  | none => (t, 31)
  | some l => if standsB l p.place p.old = true then (withT t p.name (spliced l p.place.toNat p.old.length p.new), 0) else (t, 31)
def applyP (t : Tr) (p : Pr) : Tr × Int :=
  if rightP p = false then (t, 30)
  else if p.kind = 0 then hunkT t p
  else if p.kind = 1 then (if hasT t p.name = true then (t, 31) else (withT t p.name [], 0))
  else if p.kind = 2 then (match getT t p.name with | none => (t, 31) | some l => if 0 < l.length then (t, 31) else (withoutT t p.name, 0))
  else (match getT t p.name with | none => (t, 31) | some l => if hasT t p.to = true then (t, 31) else (withT (withoutT t p.name) p.to l, 0))

theorem sameP_iff {p q : Pr} : sameP p q = true ↔ p = q := by
  obtain ⟨a, b, c, d, e, f⟩ := p
  obtain ⟨a', b', c', d', e', f'⟩ := q
  simp only [sameP, sameB, Bool.and_eq_true, decide_eq_true_eq, Pr.mk.injEq]
  exact ⟨fun ⟨⟨⟨⟨⟨h1, h2⟩, h3⟩, h4⟩, h5⟩, h6⟩ => ⟨h1, h2, h3, h4, h5, h6⟩, fun ⟨h1, h2, h3, h4, h5, h6⟩ => ⟨⟨⟨⟨⟨h1, h2⟩, h3⟩, h4⟩, h5⟩, h6⟩⟩
theorem sameP_self (p : Pr) : sameP p p = true := sameP_iff.2 rfl
theorem invert_twice (p : Pr) : invertP (invertP p) = p := by
  obtain ⟨k, nm, to, at_, old, new⟩ := p
  unfold invertP
  by_cases h0 : k = 0
  · simp [h0]
  by_cases h1 : k = 1
  · simp [h1]
  by_cases h2 : k = 2
  · simp [h2]
  by_cases h3 : k = 3
  · simp [h3]
  simp [h0, h1, h2, h3]
theorem sameB_comm (a b : List ByteArray) : sameB a b = sameB b a := by simp only [sameB]; exact decide_eq_decide.2 eq_comm
theorem right_invert (p : Pr) : rightP (invertP p) = rightP p := by
  obtain ⟨k, nm, to, at_, old, new⟩ := p
  unfold invertP
  by_cases h0 : k = 0
  · subst h0; simp only [rightP, if_true]; rw [sameB_comm new old]; cases allB old <;> cases allB new <;> simp
  by_cases h1 : k = 1
  · subst h1; simp [rightP]
  by_cases h2 : k = 2
  · subst h2; simp [rightP]
  by_cases h3 : k = 3
  · subst h3
    simp only [rightP, Int.reduceEq, if_false, if_true]
    have : decide (nm ≠ to) = decide (to ≠ nm) := decide_eq_decide.2 ne_comm
    rw [this]
    cases namedB nm <;> cases namedB to <;> simp
  simp [h0, h1, h2, h3]

section
variable {α : Type}
theorem with_same {t : Fl α} (ht : Rising t) {n : ByteArray} {x : α} (h : getT t n = some x) : withT t n x = t := by
  refine rising_ext (rising_with ht n x) ht fun f => ?_
  rw [mem_with]
  constructor
  · rintro (rfl | h1)
    · exact getT_mem h
    · exact h1.1
  · intro hf
    by_cases e : f.1 = n
    · exact .inl (rising_one ht hf (getT_mem h) e)
    · exact .inr ⟨hf, e⟩
theorem with_with {t : Fl α} (ht : Rising t) (n : ByteArray) (x y : α) : withT (withT t n x) n y = withT t n y := by
  refine rising_ext (rising_with (rising_with ht n x) n y) (rising_with ht n y) fun f => ?_
  rw [mem_with, mem_with, mem_with]
  constructor
  · rintro (rfl | ⟨rfl | h1, h2⟩)
    · exact .inl rfl
    · exact absurd rfl h2
    · exact .inr h1
  · rintro (rfl | h1)
    · exact .inl rfl
    · exact .inr ⟨.inr h1, h1.2⟩
end

/-- P3.4: what was applied can be undone. -/
theorem apply_back {t u : Tr} {p : Pr} (ht : Rising t) (h : applyP t p = (u, 0)) : applyP u (invertP p) = (t, 0) := by
  have hr : rightP p = true := by
    cases e : rightP p
    · simp [applyP, e] at h
    · rfl
  have hr' : rightP (invertP p) = true := by rw [right_invert]; exact hr
  simp only [applyP, hr, Bool.true_eq_false, if_false] at h
  simp only [applyP, hr', Bool.true_eq_false, if_false]
  obtain ⟨k, nm, to, at_, old, new⟩ := p
  by_cases h0 : k = 0
  · subst h0
    simp only [if_true, hunkT] at h
    cases hg : getT t nm with
    | none => simp [hg] at h
    | some l =>
      simp only [hg] at h
      by_cases hs : standsB l at_ old = true
      · simp only [hs, if_true, Prod.mk.injEq, and_true] at h
        subst h
        obtain ⟨a, rfl⟩ := Int.eq_ofNat_of_zero_le (standsB_le hs).1
        simp only [invertP, if_true, hunkT]
        rw [get_with_same ht]
        simp only [Int.toNat_natCast] at *
        rw [stands_back hs, if_pos rfl, spliced_back hs, with_with ht, with_same ht hg]
      · simp [hs] at h
  by_cases h1 : k = 1
  · subst h1
    simp only [Int.reduceEq, if_false, if_true] at h
    cases hh : hasT t nm
    · simp only [hh, Bool.false_eq_true, if_false, Prod.mk.injEq, and_true] at h
      subst h
      simp only [invertP, Int.reduceEq, if_false, if_true]
      rw [get_with_same ht]
      simp [without_with ht hh]
    · simp [hh] at h
  by_cases h2 : k = 2
  · subst h2
    simp only [Int.reduceEq, if_false, if_true] at h
    cases hg : getT t nm with
    | none => simp [hg] at h
    | some l =>
      simp only [hg] at h
      cases l with
      | cons x l => simp at h
      | nil =>
        simp only [List.length_nil, Nat.lt_irrefl, if_false, Prod.mk.injEq, and_true] at h
        subst h
        simp only [invertP, Int.reduceEq, if_false, if_true]
        rw [has_without_same, if_neg (by simp), with_without ht hg]
  by_cases h3 : k = 3
  · subst h3
    simp only [Int.reduceEq, if_false] at h
    cases hg : getT t nm with
    | none => simp [hg] at h
    | some l =>
      simp only [hg] at h
      cases hh : hasT t to
      · simp only [hh, Bool.false_eq_true, if_false, Prod.mk.injEq, and_true] at h
        subst h
        simp only [invertP, Int.reduceEq, if_false, if_true]
        have hne : nm ≠ to := by rintro rfl; rw [getT_has hg] at hh; cases hh
        rw [get_with_same (rising_without ht nm), has_with_other l hne, has_without_same]
        simp only [Bool.false_eq_true, if_false]
        rw [without_with (rising_without ht nm) (has_without_no hh nm), with_without ht hg]
      · simp [hh] at h
  · simp [rightP, h0, h1, h2, h3] at hr

end Go.Proofs.YtnhhdjcbifmfgaaDoor

/-
  Prims by the tree's own calls, and how great trees become behind them. Nothing of any program.
-/
namespace Go.Proofs.YtnhhdjcbifmfgaaDoor
open Go.RowKit

/-- At most k files, each of a name, with at most h lines that are right. -/
structure Sized (k h : Nat) (t : Tr) : Prop where
  many : t.length ≤ k
  each : ∀ f ∈ t, namedB f.1 = true ∧ allB f.2 = true ∧ f.2.length ≤ h

theorem allB_mem {l : List ByteArray} : allB l = true ↔ ∀ s ∈ l, rightB s = true := by simp [allB]
theorem allB_none : allB [] = true := by simp [allB]
theorem allB_spliced {l new : List ByteArray} (h1 : allB l = true) (h2 : allB new = true) (k m : Nat) : allB (spliced l k m new) = true := by
  rw [allB_mem] at *
  intro s hs
  simp only [spliced, List.mem_append] at hs
  rcases hs with (hs | hs) | hs
  · exact h1 s (List.mem_of_mem_take hs)
  · exact h2 s hs
  · exact h1 s (List.mem_of_mem_drop hs)
theorem spliced_le (l new : List ByteArray) (k m : Nat) : (spliced l k m new).length ≤ l.length + new.length := by
  simp only [spliced, List.length_append, List.length_take, List.length_drop]
  omega

section
variable {k h : Nat} {t : Tr}
theorem Sized.nil : Sized 0 0 [] := ⟨Nat.le_refl _, fun f hf => by cases hf⟩
theorem Sized.mono {j i : Nat} (hs : Sized k h t) (hj : k ≤ j) (hi : h ≤ i) : Sized j i t := ⟨Nat.le_trans hs.many hj, fun f hf => ⟨(hs.each f hf).1, (hs.each f hf).2.1, Nat.le_trans (hs.each f hf).2.2 hi⟩⟩
theorem Sized.with_ (hs : Sized k h t) {n : ByteArray} {l : List ByteArray} (h1 : namedB n = true) (h2 : allB l = true) (h3 : l.length ≤ h) : Sized (k + 1) h (withT t n l) :=
  ⟨Nat.le_trans (with_length n l) (Nat.succ_le_succ hs.many), fun f hf => by
    rcases mem_with.1 hf with rfl | hf
    · exact ⟨h1, h2, h3⟩
    · exact hs.each f hf.1⟩
theorem Sized.without (hs : Sized k h t) (n : ByteArray) : Sized k h (withoutT t n) := ⟨Nat.le_trans (without_length t n) hs.many, fun f hf => hs.each f (mem_without.1 hf).1⟩
theorem Sized.get (hs : Sized k h t) {n : ByteArray} {l : List ByteArray} (hg : getT t n = some l) : namedB n = true ∧ allB l = true ∧ l.length ≤ h := hs.each _ (getT_mem hg)

theorem right_parts {p : Pr} (hr : rightP p = true) : namedB p.name = true ∧ (p.kind = 0 ∨ p.kind = 1 ∨ p.kind = 2 ∨ p.kind = 3) ∧ allB p.old = true ∧ allB p.new = true ∧ (p.kind = 0 → 0 ≤ p.place ∧ p.place ≤ 1048576) ∧ (p.kind = 3 → namedB p.to = true ∧ p.to ≠ p.name) := by
  obtain ⟨kd, nm, to, at_, old, new⟩ := p
  simp only [rightP, Bool.and_eq_true] at hr ⊢
  obtain ⟨h1, h2⟩ := hr
  refine ⟨h1, ?_⟩
  by_cases h0 : kd = 0
  · subst h0
    simp only [if_true, Bool.and_eq_true, decide_eq_true_eq] at h2
    obtain ⟨⟨⟨⟨_, h4⟩, h5⟩, h6⟩, _⟩ := h2
    exact ⟨.inl rfl, h5, h6, fun _ => h4, fun e => by cases e⟩
  · rw [if_neg h0] at h2
    simp only [Bool.and_eq_true, decide_eq_true_eq] at h2
    obtain ⟨⟨⟨_, rfl⟩, rfl⟩, h4⟩ := h2
    by_cases h3 : kd = 3
    · subst h3
      simp only [if_true, Bool.and_eq_true, decide_eq_true_eq] at h4
      exact ⟨.inr (.inr (.inr rfl)), allB_none, allB_none, (fun e => by cases e), fun _ => h4⟩
    · rw [if_neg h3] at h4
      simp only [Bool.and_eq_true, decide_eq_true_eq] at h4
      exact ⟨h4.1.elim (fun e => .inr (.inl e)) (fun e => .inr (.inr (.inl e))), allB_none, allB_none, fun e => absurd e h0, fun e => absurd e h3⟩

/-- Behind a prim. -/
theorem Sized.apply (hs : Sized k h t) (p : Pr) : Sized (k + 1) (h + p.new.length) (applyP t p).1 := by
  have h0 : Sized (k + 1) (h + p.new.length) t := hs.mono (Nat.le_succ _) (Nat.le_add_right _ _)
  cases hr : rightP p
  · simp only [applyP, hr, if_true]; exact h0
  obtain ⟨hn, hk, _, hnew, _, hmv⟩ := right_parts hr
  simp only [applyP, hr, Bool.true_eq_false, if_false]
  rcases hk with e | e | e | e
  · simp only [e, if_true, hunkT]
    cases hg : getT t p.name with
    | none => exact h0
    | some l =>
      have hl := hs.get hg
      dsimp only
      split
      · exact (hs.mono (Nat.le_refl _) (Nat.le_add_right _ _)).with_ hn (allB_spliced hl.2.1 hnew _ _) (Nat.le_trans (spliced_le _ _ _ _) (Nat.add_le_add_right hl.2.2 _))
      · exact h0
  · simp only [e, Int.reduceEq, if_false, if_true]
    split
    · exact h0
    · exact (hs.mono (Nat.le_refl _) (Nat.le_add_right _ _)).with_ hn allB_none (Nat.zero_le _)
  · simp only [e, Int.reduceEq, if_false, if_true]
    cases hg : getT t p.name with
    | none => exact h0
    | some l =>
      dsimp only
      split
      · exact h0
      · exact h0.without _
  · simp only [e, Int.reduceEq, if_false]
    cases hg : getT t p.name with
    | none => exact h0
    | some l =>
      have hl := hs.get hg
      dsimp only
      split
      · exact h0
      · exact ((hs.mono (Nat.le_refl _) (Nat.le_add_right _ _)).without _).with_ (hmv e).1 hl.2.1 (Nat.le_trans hl.2.2 (Nat.le_add_right _ _))
theorem rising_apply (ht : Rising t) (p : Pr) : Rising (applyP t p).1 := by
  simp only [applyP]
  split
  · exact ht
  split
  · simp only [hunkT]
    split
    · exact ht
    · split
      · exact rising_with ht _ _
      · exact ht
  split
  · split
    · exact ht
    · exact rising_with ht _ _
  split
  · split
    · exact ht
    · split
      · exact ht
      · exact rising_without ht _
  · split
    · exact ht
    · split
      · exact ht
      · exact rising_with (rising_without ht _) _ _

/-- Each kind by the tree's own calls. -/
theorem apply_wrong {p : Pr} (hr : rightP p = false) : applyP t p = (t, 30) := by simp [applyP, hr]
theorem apply_add {p : Pr} (hr : rightP p = true) (e : p.kind = 1) : applyP t p = ((addT t p.name).1, if (addT t p.name).2 = 0 then 0 else 31) := by
  have hn := (right_parts hr).1
  simp only [applyP, hr, e, addT, hn, Bool.true_eq_false, if_false, Int.reduceEq, if_true]
  cases hasT t p.name <;> simp
theorem apply_rm {p : Pr} (hr : rightP p = true) (e : p.kind = 2) : applyP t p = ((removeT t p.name).1, if (removeT t p.name).2 = 0 then 0 else 31) := by
  have key : ∀ r : Tr × Int, removeT t p.name = r → applyP t p = (r.1, if r.2 = 0 then 0 else 31) := by
    intro r hq
    simp only [applyP, hr, e, Bool.true_eq_false, if_false, Int.reduceEq, if_true]
    unfold removeT at hq
    split at hq <;> rename_i hg <;> rw [hg]
    · subst hq; simp
    · dsimp only
      split at hq <;> rename_i h1
      · subst hq; simp [h1]
      · subst hq; simp [h1]
  exact key _ rfl
theorem apply_move {p : Pr} (hr : rightP p = true) (e : p.kind = 3) : applyP t p = ((moveT t p.name p.to).1, if (moveT t p.name p.to).2 = 0 then 0 else 31) := by
  have hn := ((right_parts hr).2.2.2.2.2 e).1
  have key : ∀ r : Tr × Int, moveT t p.name p.to = r → applyP t p = (r.1, if r.2 = 0 then 0 else 31) := by
    intro r hq
    simp only [applyP, hr, e, Bool.true_eq_false, if_false, Int.reduceEq]
    simp only [moveT, hn, Bool.true_eq_false, if_false] at hq
    split at hq <;> rename_i hg <;> rw [hg]
    · subst hq; simp
    · dsimp only
      split at hq <;> rename_i h1
      · subst hq; simp [h1]
      · subst hq; simp [h1]
  exact key _ rfl
theorem apply_hunk {p : Pr} (hr : rightP p = true) (e : p.kind = 0) : applyP t p = hunkT t p := by simp [applyP, hr, e]
theorem put_spliced {p : Pr} {l : List ByteArray} (hs : Sized k h t) (hr : rightP p = true) (hg : getT t p.name = some l) (i m : Nat) : putT t p.name (spliced l i m p.new) = (withT t p.name (spliced l i m p.new), 0) := by
  simp only [putT, getT_has hg, allB_spliced (hs.get hg).2.1 (right_parts hr).2.2.2.1, Bool.true_eq_false, if_false]
end

end Go.Proofs.YtnhhdjcbifmfgaaDoor

/-
  Rows of structures in memory, each of k cells: what a slice of them reads as, and one of the call's own that grows by append.
-/
namespace Go.Proofs.YtnhhdjcbifmfgaaDoor
open Go.RowKit

theorem flat_at {α : Type} {k : Nat} : ∀ {css : List (List α)}, (∀ cs ∈ css, cs.length = k) → ∀ {j i : Nat} {cs : List α}, css[j]? = some cs → i < k → css.flatten[j * k + i]? = cs[i]?
  | [], _, _, _, _, h, _ => by simp at h
  | c :: css, hk, 0, i, cs, h, hi => by
    simp at h; subst h
    rw [Nat.zero_mul, Nat.zero_add, List.flatten_cons, List.getElem?_append_left (by rw [hk _ List.mem_cons_self]; exact hi)]
  | c :: css, hk, j + 1, i, cs, h, hi => by
    have hc := hk _ (List.mem_cons_self (a := c) (l := css))
    rw [List.flatten_cons, List.getElem?_append_right (by rw [hc, Nat.add_mul]; omega), hc, show (j + 1) * k + i - k = j * k + i from by rw [Nat.add_mul]; omega]
    exact flat_at (fun cs hcs => hk cs (List.mem_cons_of_mem _ hcs)) (by simpa using h) hi
theorem flat_length {α : Type} {k : Nat} : ∀ {css : List (List α)}, (∀ cs ∈ css, cs.length = k) → css.flatten.length = css.length * k
  | [], _ => by simp
  | c :: css, hk => by
    rw [List.flatten_cons, List.length_append, hk _ List.mem_cons_self, flat_length (fun cs hcs => hk cs (List.mem_cons_of_mem _ hcs)), List.length_cons, Nat.add_mul]; omega

/-- The slice at A of n elements, of k cells each, holds the cells css. -/
def RowK (k : Nat) (w : World) (A : Option Addr) (n : Nat) (css : List (List Value)) : Prop :=
  css.length = n ∧ (∀ cs ∈ css, cs.length = k) ∧ (0 < n → ∃ b o, A = some ⟨b, o, none⟩ ∧ ∀ (j i : Nat) cs v, css[j]? = some cs → cs[i]? = some v → w.cell? ⟨b, o + j * k + i, none⟩ = some v)

section
variable {k n : Nat} {w w' : World} {A : Option Addr} {css : List (List Value)}

theorem RowK.len (h : RowK k w A n css) : css.length = n := h.1
theorem RowK.none : RowK k w A 0 [] := ⟨rfl, (fun _ h => by cases h), fun h => absurd h (by omega)⟩
theorem RowK.later (h : RowK k w A n css) (hl : Later w w') : RowK k w' A n css :=
  ⟨h.1, h.2.1, fun hn => by
    obtain ⟨b, o, e, hc⟩ := h.2.2 hn
    exact ⟨b, o, e, fun j i cs v h1 h2 => hl.cell (hc j i cs v h1 h2)⟩⟩
/-- The place of an element, and its cells. -/
theorem RowK.get (h : RowK k w A n css) {j : Nat} (hj : j < n) : ∃ b o, A = some ⟨b, o, .none⟩ ∧ ∃ cs, css[j]? = some cs ∧ cs.length = k ∧ ∀ (i : Nat) v, cs[i]? = some v → w.cell? ⟨b, o + j * k + i, .none⟩ = some v := by
  obtain ⟨b, o, e, hc⟩ := h.2.2 (by omega)
  have hl : j < css.length := by rw [h.1]; exact hj
  exact ⟨b, o, e, css[j], List.getElem?_eq_getElem hl, h.2.1 _ (List.getElem_mem hl), fun i v hi => hc j i _ v (List.getElem?_eq_getElem hl) hi⟩
end

/-- The value v is a row of the call's own (what it made since w0) of k cells an element. -/
def OwnK (e : TypeId) (k : Nat) (w0 w : World) (v : Value) (css : List (List Value)) : Prop :=
  w.ownsRow w0.heap.size e k v css.length css.flatten ∧ (∀ cs ∈ css, cs.length = k) ∧ Later w0 w

section
variable {e : TypeId} {k : Nat} {w0 w : World} {v : Value} {css : List (List Value)}

theorem OwnK.later (h : OwnK e k w0 w v css) : Later w0 w := h.2.2
theorem OwnK.nil (h : Later w0 w) : OwnK e k w0 w (.slice none 0 0) [] := ⟨World.ownsRow_nil _ _ _ _, (fun _ h => by cases h), h⟩
theorem OwnK.alloc (h : OwnK e k w0 w v css) (o : Obj) : OwnK e k w0 (w.alloc o) v css := ⟨h.1.alloc o, h.2.1, h.2.2.alloc o⟩
theorem OwnK.drew (h : OwnK e k w0 w v css) : OwnK e k w0 w.drew v css := ⟨h.1, h.2.1, h.2.2.drew⟩
theorem OwnK.drewN (h : OwnK e k w0 w v css) (n : Nat) : OwnK e k w0 (w.drewN n) v css := ⟨h.1, h.2.1, h.2.2.drewN n⟩
/-- Nothing that is there has turned since. -/
theorem OwnK.on {w' : World} (h : OwnK e k w0 w v css) (hl : Later w w') : OwnK e k w0 w' v css :=
  ⟨h.1.kept (row := none) ⟨hl.os, hl.tape, hl.output, hl.size, fun i hi _ => hl.block i hi⟩ (by cases v.ownBlock <;> simp), h.2.1, h.2.2.trans hl⟩
theorem OwnK.row (h : OwnK e k w0 w v css) : ∃ A c, v = .slice A css.length c ∧ css.length ≤ c ∧ RowK k w A css.length css := by
  rcases h.1.2 with ⟨hv, h0⟩ | ⟨g, cap, cur, hv, hg, hh, hnc, hm, hs, ht⟩
  · have : css = [] := List.eq_nil_of_length_eq_zero h0
    subst this
    exact ⟨none, 0, hv, Nat.le_refl _, RowK.none⟩
  · refine ⟨some ⟨g, 0, none⟩, cap, hv, hnc, rfl, h.2.1, fun _ => ⟨g, 0, rfl, fun j i cs u hj hi => ?_⟩⟩
    have hik : i < k := by rw [← h.2.1 cs (List.mem_of_getElem? hj)]; exact (List.getElem?_eq_some_iff.1 hi).1
    have hc := h.1.cells (g := g) (by rw [hv]; rfl) (j * k + i) u (by rw [flat_at h.2.1 hj hik]; exact hi)
    rw [plain_add] at hc
    rw [Nat.zero_add] at hc ⊢
    exact hc
theorem OwnK.block (h : OwnK e k w0 w v css) : ∀ b, v.ownBlock = some b → w0.heap.size ≤ b := fun b hb => (h.1.lt b hb).1
end

section
variable {P : Program} {w0 w : World} {e : TypeId} {k : Nat} {v : Value} {olds : List (List Value)}

theorem run_append_rowK (t ty : TypeId) (i : TypeInfo) (z : Value) (bytes : Nat) (ht : P.underlying t = some (.slice e)) (hi : P.info? e = some i) (hz : i.zero = some z) (hsize : i.size = k) (hby : i.bytes = bytes) (hzs : z.cells.size = k) (hk : 0 < k)
    (hown : OwnK e k w0 w v olds) (A : Option Addr) (m c : Nat) (news : List (List Value)) (hr : RowK k w A m news) (hone : ∀ cs ∈ news, ∀ u ∈ cs, u.oneCell' = true) (hb : olds.length + m ≤ 1000000) (hbb : bytes ≤ 1000) :
    ∃ v' w', (Builtin.append_ #[t, t] ty #[v, .slice A m c]).run P w = .ok v' w' ∧ OwnK e k w0 w' v' (olds ++ news) ∧ w.grownBy w' v.ownBlock := by
  have hl := hr.len
  have hbig : (olds.length + m) * bytes ≤ 140737488355328 := Nat.le_trans (Nat.mul_le_mul hb hbb) (by omega)
  rcases Nat.eq_zero_or_pos m with h0 | h0
  · subst h0
    have hn : news = [] := List.eq_nil_of_length_eq_zero hl
    subst hn
    rw [List.append_nil]
    rcases A with _ | ad
    · refine ⟨v, w, ?_, hown, ⟨rfl, rfl, rfl, Nat.le_refl _, fun _ _ _ => rfl⟩⟩
      rcases hown.1.2 with ⟨rfl, _⟩ | ⟨g, cap, cur, rfl, _, _, hnc, _⟩
      · simp [Builtin.append_, run_underlying ht, sizeOf, typeInfo, hi, Builtin.lenOf, Builtin.firstCells]
      · simp [Builtin.append_, run_underlying ht, sizeOf, typeInfo, hi, Builtin.lenOf, Builtin.firstCells, hnc, storeCells]
    · obtain ⟨v', w', hrun, h2, h3, _, _⟩ := run_append_own_at (P := P) w w0.heap.size t ty e i z k bytes ht hi hz hsize hby hzs hk v olds.length olds.flatten hown.1 ad 0 c [] (by simp)
        (fun j u hu => by simp at hu) (fun u hu => by simp at hu) (by simp only [maxLen]; omega) hbig hown.2.2.size
      refine ⟨v', w', hrun, ⟨by simpa using h2, hown.2.1, Below.grown hown.2.2 h3 hown.2.2.size hown.block⟩, h3⟩
  · obtain ⟨b, o, rfl, hc⟩ := hr.2.2 h0
    obtain ⟨v', w', hrun, h2, h3, _, _⟩ := run_append_own_at (P := P) w w0.heap.size t ty e i z k bytes ht hi hz hsize hby hzs hk v olds.length olds.flatten hown.1 ⟨b, o, none⟩ m c news.flatten
      (by rw [flat_length hr.2.1, hl])
      (fun j u hu => by
        have hjl := (List.getElem?_eq_some_iff.1 hu).1
        rw [flat_length hr.2.1] at hjl
        have hq : j / k < news.length := (Nat.div_lt_iff_lt_mul hk).2 hjl
        have hjk : j / k * k + j % k = j := by rw [Nat.mul_comm]; exact Nat.div_add_mod j k
        have hat := flat_at (i := j % k) hr.2.1 (List.getElem?_eq_getElem hq) (Nat.mod_lt _ hk)
        rw [hjk, hu] at hat
        have := hc (j / k) (j % k) _ u (List.getElem?_eq_getElem hq) hat.symm
        rw [plain_add, ← hjk, ← Nat.add_assoc]
        exact this)
      (fun u hu => by
        obtain ⟨cs, hcs, hu⟩ := List.mem_flatten.1 hu
        exact hone cs hcs u hu)
      (by simp only [maxLen]; omega) hbig hown.2.2.size
    refine ⟨v', w', hrun, ⟨?_, fun cs hcs => ?_, Below.grown hown.2.2 h3 hown.2.2.size hown.block⟩, h3⟩
    · rw [List.length_append, List.flatten_append, hl]
      exact h2
    · rcases List.mem_append.1 hcs with h | h
      · exact hown.2.1 cs h
      · exact hr.2.1 cs h

/-- append onto a row of the call's own, whatever the source. -/
theorem wpList_append_rowK {ops : Array Oper} {rest : List Oper} {o : Oper} {a : Act} {Q : Exit → Act → World → Prop} (hgd : o.guard = none) (s x : Operand) (t : TypeId)
    (ho : o.op = .call { callee := .builtin .append, args := #[s, x], argTypes := #[t, t] }) (i : TypeInfo) (z : Value) (bytes : Nat)
    (ht : P.underlying t = some (.slice e)) (hi : P.info? e = some i) (hz : i.zero = some z) (hsize : i.size = k) (hby : i.bytes = bytes) (hzs : z.cells.size = k) (hk : 0 < k)
    (hown : OwnK e k w0 w v olds) (hs : a.eval s = v) (A : Option Addr) (m c : Nat) (news : List (List Value)) (hx : a.eval x = .slice A m c) (hr : RowK k w A m news) (hone : ∀ cs ∈ news, ∀ u ∈ cs, u.oneCell' = true) (hb : olds.length + m ≤ 1000000) (hbb : bytes ≤ 1000)
    (h : ∀ v' w', OwnK e k w0 w' v' (olds ++ news) → w.grownBy w' v.ownBlock → wpList P ops Q rest (a.put o.dst v') w') : wpList P ops Q (o :: rest) a w := by
  refine wpList_plain hgd fun K hK => ?_
  obtain ⟨v', w', hrun, h2, h3⟩ := run_append_rowK (P := P) t o.type i z bytes ht hi hz hsize hby hzs hk hown A m c news hr hone hb hbb
  unfold Oper.wp execOp
  simp only [ho, resolve, invoke, builtin, Sem.run_bind, Sem.run_pure, Result.andThen_ok, List.map_toArray, List.map_cons, List.map_nil, hs, hx, hrun]
  exact hK _ _ (h v' w' h2 h3)
end

/-- A new row of one element. -/
theorem RowK.one (w : World) (cs : List Value) (t : TypeId) : RowK cs.length (w.alloc (.cells cs.toArray t)) (some ⟨w.heap.size, 0, .none⟩) 1 [cs] := by
  refine ⟨rfl, fun c hc => by simp at hc; rw [hc], fun _ => ⟨_, _, rfl, fun j i c v hj hi => ?_⟩⟩
  match j, hj with
  | 0, hj =>
    simp at hj; subst hj
    have hb : (w.alloc (.cells cs.toArray t)).heap[w.heap.size]? = some (.cells cs.toArray t (0, 0)) := heap_alloc_new w _
    simp only [World.cell?, hb, Nat.zero_mul, Nat.zero_add]
    simpa using hi

end Go.Proofs.YtnhhdjcbifmfgaaDoor

/-
  Prims in memory: a structure of six cells, two of them rows of lines.
-/
namespace Go.Proofs.YtnhhdjcbifmfgaaDoor
open Go.RowKit

theorem list_ne {s : ByteArray} (h : s ≠ ByteArray.empty) : ¬ s.toList = [] := by
  rw [ByteArray.toList_eq]
  intro e
  exact h (ByteArray.ext (Array.ext' e))

/-- A prim, and where its rows stand. -/
structure PrC where
  v : Pr
  A : Option Addr
  n : Nat
  c : Nat
  B : Option Addr
  m : Nat
  d : Nat

/-- The cells of a prim, and its value. -/
def prL (x : PrC) : List Value := [.int .i64 x.v.kind, .string x.v.name, .string x.v.to, .int .i64 x.v.place, .slice x.A x.n x.c, .slice x.B x.m x.d]
def prV (x : PrC) : Value := .agg #[.int .i64 x.v.kind, .string x.v.name, .string x.v.to, .int .i64 x.v.place, .slice x.A x.n x.c, .slice x.B x.m x.d]

/-- The rows stand there, and nothing is too great. -/
structure PrOk (w : World) (x : PrC) : Prop where
  old : Row w x.A x.n x.v.old
  new : Row w x.B x.m x.v.new
  oroom : x.n ≤ x.c
  nroom : x.m ≤ x.d
  omost : x.n ≤ 65536
  nmost : x.m ≤ 65536
  name : x.v.name.size ≤ maxLen
  to : x.v.to.size ≤ maxLen
  lo : -9223372036854775808 ≤ x.v.place
  hi : x.v.place ≤ 9223372036854775807
  olds : ∀ s ∈ x.v.old, s.size ≤ maxLen
  news : ∀ s ∈ x.v.new, s.size ≤ maxLen
theorem PrOk.later {w w' : World} {x : PrC} (h : PrOk w x) (hl : Later w w') : PrOk w' x :=
  ⟨h.old.later hl, h.new.later hl, h.oroom, h.nroom, h.omost, h.nmost, h.name, h.to, h.lo, h.hi, h.olds, h.news⟩

/-- A prim that stands in new memory: its rows are of its own, and apart. -/
structure IsPr (p : Pr) (w w' : World) (u v : Value) : Prop where
  old : Own 9 w w' u p.old
  new : Own 9 w w' v p.new
  apart : ∀ b, u.ownBlock = some b → v.ownBlock ≠ some b
def GivesPr (p : Pr) (w : World) (e : Ending) (w' : World) : Prop :=
  ∃ u v, e = .returned (.agg #[.int .i64 p.kind, .string p.name, .string p.to, .int .i64 p.place, u, v]) ∧ IsPr p w w' u v

theorem IsPr.swap {p q : Pr} {w w' : World} {u v : Value} (h : IsPr p w w' u v) (h1 : q.old = p.new) (h2 : q.new = p.old) : IsPr q w w' v u :=
  ⟨by rw [h1]; exact h.new, by rw [h2]; exact h.old, fun b h3 h4 => h.apart b h4 h3⟩
theorem IsPr.as {p q : Pr} {w w' : World} {u v : Value} (h : IsPr p w w' u v) (h1 : q.old = p.old) (h2 : q.new = p.new) : IsPr q w w' u v :=
  ⟨by rw [h1]; exact h.old, by rw [h2]; exact h.new, h.apart⟩
theorem IsPr.later {p : Pr} {w w' : World} {u v : Value} (h : IsPr p w w' u v) : Later w w' := h.old.later
theorem IsPr.on {p : Pr} {w w' w'' : World} {u v : Value} (h : IsPr p w w' u v) (hl : Later w' w'') : IsPr p w w'' u v := ⟨h.old.on hl, h.new.on hl, h.apart⟩
theorem IsPr.base {p : Pr} {w0 w w' : World} {u v : Value} (h : IsPr p w w' u v) (hl : Later w0 w) : IsPr p w0 w' u v := ⟨h.old.base hl, h.new.base hl, h.apart⟩
theorem Own.lt {e : TypeId} {w0 w : World} {v : Value} {ss : List ByteArray} (h : Own e w0 w v ss) {b : Nat} (hb : v.ownBlock = some b) : b < w.heap.size := (h.1.lt b hb).2
theorem IsPr.of {p : Pr} {w w1 w' : World} {u v : Value} (h1 : Own 9 w w1 u p.old) (h2 : Own 9 w1 w' v p.new) : IsPr p w w' u v :=
  ⟨h1.on h2.later, h2.base h1.later, fun b hu hv => by
    have a1 := h1.lt hu
    have a2 := h2.block b hv
    omega⟩
/-- The value of such a prim, and that its rows stand there. -/
theorem IsPr.ok {p : Pr} {w w' : World} {u v : Value} (h : IsPr p w w' u v) (h1 : p.old.length ≤ 65536) (h2 : p.new.length ≤ 65536) (h3 : p.name.size ≤ maxLen) (h4 : p.to.size ≤ maxLen) (h5 : -9223372036854775808 ≤ p.place) (h6 : p.place ≤ 9223372036854775807)
    (h7 : ∀ s ∈ p.old, s.size ≤ maxLen) (h8 : ∀ s ∈ p.new, s.size ≤ maxLen) : ∃ x : PrC, x.v = p ∧ .agg #[.int .i64 p.kind, .string p.name, .string p.to, .int .i64 p.place, u, v] = prV x ∧ PrOk w' x := by
  obtain ⟨A, c, rfl, hc, hr⟩ := h.old.row
  obtain ⟨B, d, rfl, hd, hs⟩ := h.new.row
  exact ⟨⟨p, A, _, c, B, _, d⟩, rfl, rfl, hr, hs, hc, hd, h1, h2, h3, h4, h5, h6, h7, h8⟩

/-- What a prim weighs. -/
def weightP (p : Pr) : Nat := p.name.size + p.to.size + p.old.length + p.new.length + (p.old.map ByteArray.size).sum + (p.new.map ByteArray.size).sum
def weightPs (xs : List PrC) : Nat := (xs.map fun x => weightP x.v).sum

theorem sizesP_mem {l : List ByteArray} {s : ByteArray} (h : s ∈ l) : s.size ≤ (l.map ByteArray.size).sum := by
  induction l with
  | nil => cases h
  | cons x l ih =>
    simp only [List.map_cons, List.sum_cons]
    rcases List.mem_cons.1 h with rfl | h
    · omega
    · have := ih h; omega

/-- What is asked of a prim that comes in. -/
structure CameP (w : World) (x : PrC) : Prop where
  old : Row w x.A x.n x.v.old
  new : Row w x.B x.m x.v.new
  oroom : x.n ≤ x.c
  nroom : x.m ≤ x.d
  lo : -9223372036854775808 ≤ x.v.place
  hi : x.v.place ≤ 9223372036854775807
  weigh : weightP x.v ≤ 1048576
theorem CameP.later {w w' : World} {x : PrC} (h : CameP w x) (hl : Later w w') : CameP w' x := ⟨h.old.later hl, h.new.later hl, h.oroom, h.nroom, h.lo, h.hi, h.weigh⟩
theorem CameP.ok {w : World} {x : PrC} (h : CameP w x) (hw : weightP x.v ≤ 60000) : PrOk w x := by
  have h1 := h.old.len
  have h2 := h.new.len
  unfold weightP at hw
  refine ⟨h.old, h.new, h.oroom, h.nroom, by omega, by omega, by simp only [maxLen]; omega, by simp only [maxLen]; omega, h.lo, h.hi, fun s hs => ?_, fun s hs => ?_⟩
  · have := sizesP_mem hs; simp only [maxLen]; omega
  · have := sizesP_mem hs; simp only [maxLen]; omega

/-- The slice reads as these prims. -/
structure Prims (w : World) (A : Option Addr) (n : Nat) (xs : List PrC) : Prop where
  row : RowK 6 w A n (xs.map prL)
  each : ∀ x ∈ xs, CameP w x
section
variable {w w' : World} {A : Option Addr} {n : Nat} {xs : List PrC}
theorem Prims.len (h : Prims w A n xs) : xs.length = n := by have := h.row.len; simpa using this
theorem Prims.later (h : Prims w A n xs) (hl : Later w w') : Prims w' A n xs := ⟨h.row.later hl, fun x hx => (h.each x hx).later hl⟩
theorem Prims.get (h : Prims w A n xs) {j : Nat} (hj : j < n) : ∃ b o x, A = some ⟨b, o, .none⟩ ∧ xs[j]? = some x ∧ w.cell? ⟨b, o + j * 6, .none⟩ = some (.int .i64 x.v.kind) ∧ w.cell? ⟨b, o + j * 6 + 1, .none⟩ = some (.string x.v.name) ∧ w.cell? ⟨b, o + j * 6 + 2, .none⟩ = some (.string x.v.to) ∧ w.cell? ⟨b, o + j * 6 + 3, .none⟩ = some (.int .i64 x.v.place) ∧ w.cell? ⟨b, o + j * 6 + 4, .none⟩ = some (.slice x.A x.n x.c) ∧ w.cell? ⟨b, o + j * 6 + 5, .none⟩ = some (.slice x.B x.m x.d) := by
  obtain ⟨b, o, e, cs, hcs, _, hc⟩ := h.row.get hj
  have hl : j < xs.length := by rw [h.len]; exact hj
  have hz := List.getElem?_eq_getElem hl
  simp only [List.getElem?_map, hz, Option.map_some, Option.some.injEq] at hcs
  subst hcs
  exact ⟨b, o, xs[j], e, hz, hc 0 _ rfl, hc 1 _ rfl, hc 2 _ rfl, hc 3 _ rfl, hc 4 _ rfl, hc 5 _ rfl⟩
end
theorem weightPs_take {xs : List PrC} {k : Nat} {x : PrC} (h : xs[k]? = some x) : weightPs (xs.take (k + 1)) = weightPs (xs.take k) + weightP x.v := by
  obtain ⟨hk, rfl⟩ := List.getElem?_eq_some_iff.1 h
  unfold weightPs
  rw [List.take_succ_eq_append_getElem hk, List.map_append, List.sum_append]
  simp
theorem weightPs_take_le (xs : List PrC) (k : Nat) : weightPs (xs.take k) ≤ weightPs xs := by
  have : weightPs xs = weightPs (xs.take k) + weightPs (xs.drop k) := by
    unfold weightPs
    rw [← List.sum_append, ← List.map_append, List.take_append_drop]
  omega
theorem weightPs_mem {xs : List PrC} {x : PrC} (h : x ∈ xs) : weightP x.v ≤ weightPs xs := by
  induction xs with
  | nil => cases h
  | cons y xs ih =>
    simp only [weightPs, List.map_cons, List.sum_cons] at ih ⊢
    rcases List.mem_cons.1 h with rfl | h
    · omega
    · have := ih h; omega

end Go.Proofs.YtnhhdjcbifmfgaaDoor

/-
  Prims that come in: from what is read as data to what the laws ask.
-/
namespace Go.Proofs.YtnhhdjcbifmfgaaDoor
open Go.ChangeShapes Go.WideShapes Go.ChangeAt Go.RowKit Go.Deep

def primFields : Array Field := #[{ name := "Kind", type := 3, offset := 0, embedded := false, tag := "", pkgPath := "", byteOffset := 0 }, { name := "Name", type := 9, offset := 1, embedded := false, tag := "", pkgPath := "", byteOffset := 8 }, { name := "To", type := 9, offset := 2, embedded := false, tag := "", pkgPath := "", byteOffset := 24 }, { name := "At", type := 3, offset := 3, embedded := false, tag := "", pkgPath := "", byteOffset := 40 }, { name := "Old", type := 22, offset := 4, embedded := false, tag := "", pkgPath := "", byteOffset := 48 }, { name := "New", type := 22, offset := 5, embedded := false, tag := "", pkgPath := "", byteOffset := 72 }]
theorem Tryd.primOne : oneCellFields Tryd.prog primFields = true := by kernel_rfl
theorem Tryd.primCells6 : Tryd.prog.cellsOf 24 = primFields.size := by kernel_rfl

/-- Six fields make a prim. -/
theorem prim_of {H : Type} {enc : TypeId × Value → H} {W : World} {fuel : Nat} {ys : List (DataW H × List MemPlace)} {Q : Nat → Value → Prop} (hyl : ys.length = 6)
    (hfld : ∀ (j : Nat) (f : Field), primFields[j]? = some f → ∃ (v : Value) (y : DataW H × List MemPlace), Q j v ∧ ys[j]? = some y ∧ DataW.trod enc Tryd.prog W 0 (fun _ => true) true fuel f.type [v] = some y) :
    ∃ x : PrC, (∀ (j : Nat) u, (prL x)[j]? = some u → Q j u) ∧ Row W x.A x.n x.v.old ∧ Row W x.B x.m x.v.new ∧ x.n ≤ x.c ∧ x.m ≤ x.d ∧ -9223372036854775808 ≤ x.v.place ∧ x.v.place ≤ 9223372036854775807 ∧ weightP x.v + 1 ≤ Rows.uptoBulk (.agg (ys.map (·.1))) := by
  obtain ⟨v0, y0, c0, e0, t0⟩ := hfld 0 _ rfl
  obtain ⟨v1, y1, c1, e1, t1⟩ := hfld 1 _ rfl
  obtain ⟨v2, y2, c2, e2, t2⟩ := hfld 2 _ rfl
  obtain ⟨v3, y3, c3, e3, t3⟩ := hfld 3 _ rfl
  obtain ⟨v4, y4, c4, e4, t4⟩ := hfld 4 _ rfl
  obtain ⟨v5, y5, c5, e5, t5⟩ := hfld 5 _ rfl
  obtain ⟨kd, hk, _, _⟩ := DataW.trod_int Tryd.underlying3 t0
  obtain ⟨s1, hs1, hy1, _⟩ := DataW.trod_string Tryd.underlying9 t1
  obtain ⟨s2, hs2, hy2, _⟩ := DataW.trod_string Tryd.underlying9 t2
  obtain ⟨pl, hp, _, hwf⟩ := DataW.trod_int Tryd.underlying3 t3
  obtain ⟨Al, nl, cl, l, hv4, hnc, hrow, hwl⟩ := came_lines t4
  obtain ⟨Bl, ml, dl, r, hv5, hmd, hrow2, hwr⟩ := came_lines t5
  simp only [List.cons.injEq, and_true] at hk hs1 hs2 hp
  subst hk hs1 hs2 hp hv4 hv5
  have hwf' : -9223372036854775808 ≤ pl ∧ pl ≤ 9223372036854775807 := by
    simp only [Lit.wf, Bool.and_eq_true, decide_eq_true_eq] at hwf
    exact hwf
  refine ⟨⟨⟨kd, s1, s2, pl, l, r⟩, Al, nl, cl, Bl, ml, dl⟩, fun j u hj => ?_, hrow, hrow2, hnc, hmd, hwf'.1, hwf'.2, ?_⟩
  · simp only [prL] at hj
    match j, hj with
    | 0, hj => simp at hj; subst hj; exact c0
    | 1, hj => simp at hj; subst hj; exact c1
    | 2, hj => simp at hj; subst hj; exact c2
    | 3, hj => simp at hj; subst hj; exact c3
    | 4, hj => simp at hj; subst hj; exact c4
    | 5, hj => simp at hj; subst hj; exact c5
    | j + 6, hj => simp at hj
  · match ys, hyl, e0, e1, e2, e3, e4, e5 with
    | [z0, z1, z2, z3, z4, z5], _, e0, e1, e2, e3, e4, e5 =>
      simp only [List.getElem?_cons_zero, List.getElem?_cons_succ, Option.some.injEq] at e0 e1 e2 e3 e4 e5
      subst e0 e1 e2 e3 e4 e5
      simp only [List.map_cons, List.map_nil, Rows.uptoBulk, Rows.uptoBulkAll]
      rw [hy1, hy2]
      simp only [Rows.uptoBulk, weightP]
      have l1 : s1.data.toList.length = s1.size := by rw [Array.length_toList]; rfl
      have l2 : s2.data.toList.length = s2.size := by rw [Array.length_toList]; rfl
      omega

/-- A prim that came in. -/
theorem came_prim {H : Type} {enc : TypeId × Value → H} {W : World} {cs : Array Value} {fuel : Nat} {x : DataW H × List MemPlace}
    (hf : DataW.trod enc Tryd.prog W 0 (fun _ => true) true fuel 24 (Value.agg cs).cells.toList = some x) (hb : Rows.uptoBulk x.1 ≤ 1048576) : ∃ y, Value.agg cs = prV y ∧ CameP W y := by
  obtain ⟨ys, n', _, hy, hcl, hyl, hfl⟩ := DataW.trod_struct (fs := primFields) Tryd.underlying24 hf
  rw [Tryd.primCells6] at hcl
  have hsz : primFields.size = 6 := rfl
  rw [hsz] at hcl hyl
  have hcs : (Value.agg cs).cells.toList = cs.toList := rfl
  rw [hcs] at hcl hfl
  obtain ⟨y, h1, h2, h3, h4, h5, h6, h7, h8⟩ := prim_of (W := W) (enc := enc) (fuel := n') (Q := fun j v => cs.toList[j]? = some v) hyl fun j f hj => by
    obtain ⟨ho, hk⟩ := hone_of Tryd.primOne j f hj
    have hjl : j < 6 := (Array.getElem?_eq_some_iff.1 hj).1
    have hv : cs.toList[j]? = some (cs.toList[j]'(by omega)) := List.getElem?_eq_getElem (by omega)
    have h1 := hfl j f hj
    rw [ho, hk] at h1
    have hone' : (cs.toList.drop j).take 1 = [cs.toList[j]'(by omega)] := by
      rw [List.drop_eq_getElem_cons (by omega)]
      rfl
    rw [hone'] at h1
    have hys : ys[j]? = some (ys[j]'(by omega)) := List.getElem?_eq_getElem (by omega)
    exact ⟨_, _, hv, hys, h1.trans hys⟩
  subst hy
  dsimp only at hb
  refine ⟨y, ?_, h2, h3, h4, h5, h6, h7, by omega⟩
  have : cs.toList = prL y := by
    refine List.ext_getElem? fun j => ?_
    by_cases hj : j < 6
    · have hjl : (prL y)[j]? = some ((prL y)[j]'hj) := List.getElem?_eq_getElem hj
      rw [hjl, h1 j _ hjl]
    · rw [List.getElem?_eq_none (by omega), List.getElem?_eq_none (by show 6 ≤ j; omega)]
  unfold prV
  congr 1
  exact Array.ext' this

theorem bulkP_range {H : Type} (D : Nat → DataW H) : ∀ (n : Nat) (xs : List PrC), xs.length = n → (∀ (i : Nat) x, xs[i]? = some x → weightP x.v + 1 ≤ Rows.uptoBulk (D i)) → weightPs xs + n ≤ Rows.uptoBulkAll ((List.range n).map D)
  | 0, xs, h, _ => by
    have : xs = [] := List.eq_nil_of_length_eq_zero h
    subst this; simp [weightPs]
  | n + 1, xs, h, hw => by
    have key : ∀ (l r : List (DataW H)), Rows.uptoBulkAll (l ++ r) = Rows.uptoBulkAll l + Rows.uptoBulkAll r := fun l r => by
      induction l with
      | nil => simp [Rows.uptoBulkAll]
      | cons x l ih => simp only [List.cons_append, Rows.uptoBulkAll, ih]; omega
    have ih := bulkP_range D n (xs.take n) (by rw [List.length_take]; omega) (fun i x hx => hw i x (by
      have hi : i < n := by have := (List.getElem?_eq_some_iff.1 hx).1; rw [List.length_take] at this; omega
      rwa [List.getElem?_take_of_lt hi] at hx))
    have hz : xs[n]? = some (xs[n]'(by omega)) := List.getElem?_eq_getElem (by omega)
    have h1 := hw n _ hz
    have h2 := weightPs_take hz
    rw [show xs.take (n + 1) = xs from List.take_of_length_le (by omega)] at h2
    rw [List.range_succ, List.map_append, key]
    simp only [List.map_cons, List.map_nil, Rows.uptoBulkAll]
    omega

end Go.Proofs.YtnhhdjcbifmfgaaDoor

/-
  A cell that is written: what stands, and what has turned.
-/
namespace Go.Proofs.YtnhhdjcbifmfgaaDoor
open Go.RowKit Go.Maps

/-- The first line of an own row: its cell may be written. -/
theorem Own.first {w0 w : World} {v : Value} {l : List ByteArray} (h : Own 9 w0 w v l) (h1 : 1 ≤ l.length) :
    ∃ g cap cur, v = .slice (some ⟨g, 0, none⟩) l.length cap ∧ l.length ≤ cap ∧ w0.heap.size ≤ g ∧ w.heap[g]? = some (.cells cur 9 (0, 0)) ∧ w.cell? ⟨g, 0, none⟩ = some (.string (l.getD 0 ByteArray.empty)) := by
  rcases h.1.2 with ⟨_, h0⟩ | ⟨g, cap, cur, hv, hg, hh, hnc, hm, hs, ht⟩
  · omega
  · refine ⟨g, cap, cur, hv, hnc, hg, hh, ?_⟩
    obtain ⟨A, c, hv2, _, hr⟩ := h.row
    rw [hv] at hv2
    simp only [Value.slice.injEq] at hv2
    obtain ⟨rfl, -, -⟩ := hv2
    obtain ⟨b, o, e, hc⟩ := hr.get (k := 0) (by omega)
    simp only [Option.some.injEq, Addr.mk.injEq] at e
    obtain ⟨rfl, rfl, -⟩ := e
    exact hc
theorem frozen_no {w : World} {g : Nat} {cur : Array Value} {t : TypeId} (h : w.heap[g]? = some (.cells cur t (0, 0))) (i : Nat) : w.frozen? ⟨g, i, none⟩ = false := by
  simp [World.frozen?, h]
theorem turned_set (w : World) (g i : Nat) (u : Value) : Turned g w (w.setCell ⟨g, i, none⟩ u) :=
  ⟨rfl, rfl, rfl, by simp, fun k _ hne => RowKit.Below.heap_setCell _ _ _ _ (fun e => hne (by rw [e]))⟩
/-- A block that was not there has turned, behind block B. -/
theorem Turned.more {B g : Nat} {w w' w'' : World} (h : Turned B w w') (k : Turned g w' w'') (hg : w.heap.size ≤ g) : Turned B w w'' :=
  ⟨k.os.trans h.os, k.tape.trans h.tape, k.output.trans h.output, Nat.le_trans h.size k.size, fun i hi hne => (k.block i (Nat.lt_of_lt_of_le hi h.size) (fun e => by cases e; omega)).trans (h.block i hi hne)⟩
theorem right_size {l : List ByteArray} (h : allB l = true) {s : ByteArray} (hs : s ∈ l) : s.size ≤ 60 := by
  have := List.all_eq_true.1 h s hs
  simp only [rightB, Bool.and_eq_true, decide_eq_true_eq] at this
  exact this.1
theorem reads_lt {w : World} {v : Value} {l : List ByteArray} (h : Reads w v l) (h1 : l ≠ []) : ∀ k, v.ownBlock = some k → k < w.heap.size := by
  obtain ⟨A, n, c, rfl, _, hr⟩ := h
  intro k hk
  have hn : 0 < n := by
    rcases Nat.eq_zero_or_pos n with h0 | h0
    · exact absurd (List.eq_nil_of_length_eq_zero (hr.len.trans h0)) h1
    · exact h0
  obtain ⟨b, o, rfl, hc⟩ := hr.get hn
  simp only [Value.ownBlock, Option.some.injEq] at hk
  rw [← hk]
  exact lt_of_cell hc

/-- Another block has turned: an own row stands. -/
theorem Own.other {e : TypeId} {w0 w w' : World} {v : Value} {ss : List ByteArray} {g : Nat} (h : Own e w0 w v ss) (hg : Turned g w w') (hv : v.ownBlock ≠ some g) (hl : Later w0 w') : Own e w0 w' v ss :=
  ⟨h.1.kept hg (.inr hv), hl⟩

end Go.Proofs.YtnhhdjcbifmfgaaDoor
