/-
  Prims by the tree's own calls, and how great trees become behind them. Nothing of any program.
-/
import Derived.Test.YtalgapoigkbiaaaPrPlain
namespace Go.Proofs.Ytalgapoigkbiaaa
open Go.RowKit

/-- At most k files, each of a name, with at most h lines that are right. -/
structure Sized (k h : Nat) (t : Tr) : Prop where
  many : t.length ≤ k
  each : ∀ f ∈ t, namedB f.1 = true ∧ allB f.2 = true ∧ f.2.length ≤ h

theorem allB_mem {l : List ByteArray} : allB l = true ↔ ∀ s ∈ l, rightB s = true := by simp [allB]
theorem allB_none : allB [] = true := by simp [allB]
theorem allB_spliced {l new : List ByteArray} (h1 : allB l = true) (h2 : allB new = true) (k m : Nat) : allB (spliced l k m new) = true := by
  rw [allB_mem] at *
  intro s hs
  simp only [spliced, List.mem_append] at hs
  rcases hs with (hs | hs) | hs
  · exact h1 s (List.mem_of_mem_take hs)
  · exact h2 s hs
  · exact h1 s (List.mem_of_mem_drop hs)
theorem spliced_le (l new : List ByteArray) (k m : Nat) : (spliced l k m new).length ≤ l.length + new.length := by
  simp only [spliced, List.length_append, List.length_take, List.length_drop]
  omega

section
variable {k h : Nat} {t : Tr}
theorem Sized.nil : Sized 0 0 [] := ⟨Nat.le_refl _, fun f hf => by cases hf⟩
theorem Sized.mono {j i : Nat} (hs : Sized k h t) (hj : k ≤ j) (hi : h ≤ i) : Sized j i t := ⟨Nat.le_trans hs.many hj, fun f hf => ⟨(hs.each f hf).1, (hs.each f hf).2.1, Nat.le_trans (hs.each f hf).2.2 hi⟩⟩
theorem Sized.with_ (hs : Sized k h t) {n : ByteArray} {l : List ByteArray} (h1 : namedB n = true) (h2 : allB l = true) (h3 : l.length ≤ h) : Sized (k + 1) h (withT t n l) :=
  ⟨Nat.le_trans (with_length n l) (Nat.succ_le_succ hs.many), fun f hf => by
    rcases mem_with.1 hf with rfl | hf
    · exact ⟨h1, h2, h3⟩
    · exact hs.each f hf.1⟩
theorem Sized.without (hs : Sized k h t) (n : ByteArray) : Sized k h (withoutT t n) := ⟨Nat.le_trans (without_length t n) hs.many, fun f hf => hs.each f (mem_without.1 hf).1⟩
theorem Sized.get (hs : Sized k h t) {n : ByteArray} {l : List ByteArray} (hg : getT t n = some l) : namedB n = true ∧ allB l = true ∧ l.length ≤ h := hs.each _ (getT_mem hg)

theorem right_parts {p : Pr} (hr : rightP p = true) : namedB p.name = true ∧ (p.kind = 0 ∨ p.kind = 1 ∨ p.kind = 2 ∨ p.kind = 3) ∧ allB p.old = true ∧ allB p.new = true ∧ (p.kind = 0 → 0 ≤ p.place ∧ p.place ≤ 1048576) ∧ (p.kind = 3 → namedB p.to = true ∧ p.to ≠ p.name) := by
  obtain ⟨kd, nm, to, at_, old, new⟩ := p
  simp only [rightP, Bool.and_eq_true] at hr ⊢
  obtain ⟨h1, h2⟩ := hr
  refine ⟨h1, ?_⟩
  by_cases h0 : kd = 0
  · subst h0
    simp only [if_true, Bool.and_eq_true, decide_eq_true_eq] at h2
    obtain ⟨⟨⟨⟨_, h4⟩, h5⟩, h6⟩, _⟩ := h2
    exact ⟨.inl rfl, h5, h6, fun _ => h4, fun e => by cases e⟩
  · rw [if_neg h0] at h2
    simp only [Bool.and_eq_true, decide_eq_true_eq] at h2
    obtain ⟨⟨⟨_, rfl⟩, rfl⟩, h4⟩ := h2
    by_cases h3 : kd = 3
    · subst h3
      simp only [if_true, Bool.and_eq_true, decide_eq_true_eq] at h4
      exact ⟨.inr (.inr (.inr rfl)), allB_none, allB_none, (fun e => by cases e), fun _ => h4⟩
    · rw [if_neg h3] at h4
      simp only [Bool.and_eq_true, decide_eq_true_eq] at h4
      exact ⟨h4.1.elim (fun e => .inr (.inl e)) (fun e => .inr (.inr (.inl e))), allB_none, allB_none, fun e => absurd e h0, fun e => absurd e h3⟩

/-- Behind a prim. -/
theorem Sized.apply (hs : Sized k h t) (p : Pr) : Sized (k + 1) (h + p.new.length) (applyP t p).1 := by
  have h0 : Sized (k + 1) (h + p.new.length) t := hs.mono (Nat.le_succ _) (Nat.le_add_right _ _)
  cases hr : rightP p
  · simp only [applyP, hr, if_true]; exact h0
  obtain ⟨hn, hk, _, hnew, _, hmv⟩ := right_parts hr
  simp only [applyP, hr, Bool.true_eq_false, if_false]
  rcases hk with e | e | e | e
  · simp only [e, if_true, hunkT]
    cases hg : getT t p.name with
    | none => exact h0
    | some l =>
      have hl := hs.get hg
      dsimp only
      split
      · exact (hs.mono (Nat.le_refl _) (Nat.le_add_right _ _)).with_ hn (allB_spliced hl.2.1 hnew _ _) (Nat.le_trans (spliced_le _ _ _ _) (Nat.add_le_add_right hl.2.2 _))
      · exact h0
  · simp only [e, Int.reduceEq, if_false, if_true]
    split
    · exact h0
    · exact (hs.mono (Nat.le_refl _) (Nat.le_add_right _ _)).with_ hn allB_none (Nat.zero_le _)
  · simp only [e, Int.reduceEq, if_false, if_true]
    cases hg : getT t p.name with
    | none => exact h0
    | some l =>
      dsimp only
      split
      · exact h0
      · exact h0.without _
  · simp only [e, Int.reduceEq, if_false]
    cases hg : getT t p.name with
    | none => exact h0
    | some l =>
      have hl := hs.get hg
      dsimp only
      split
      · exact h0
      · exact ((hs.mono (Nat.le_refl _) (Nat.le_add_right _ _)).without _).with_ (hmv e).1 hl.2.1 (Nat.le_trans hl.2.2 (Nat.le_add_right _ _))
theorem rising_apply (ht : Rising t) (p : Pr) : Rising (applyP t p).1 := by
  simp only [applyP]
  split
  · exact ht
  split
  · simp only [hunkT]
    split
    · exact ht
    · split
      · exact rising_with ht _ _
      · exact ht
  split
  · split
    · exact ht
    · exact rising_with ht _ _
  split
  · split
    · exact ht
    · split
      · exact ht
      · exact rising_without ht _
  · split
    · exact ht
    · split
      · exact ht
      · exact rising_with (rising_without ht _) _ _

/-- Each kind by the tree's own calls. -/
theorem apply_wrong {p : Pr} (hr : rightP p = false) : applyP t p = (t, 30) := by simp [applyP, hr]
theorem apply_add {p : Pr} (hr : rightP p = true) (e : p.kind = 1) : applyP t p = ((addT t p.name).1, if (addT t p.name).2 = 0 then 0 else 31) := by
  have hn := (right_parts hr).1
  simp only [applyP, hr, e, addT, hn, Bool.true_eq_false, if_false, Int.reduceEq, if_true]
  cases hasT t p.name <;> simp
theorem apply_rm {p : Pr} (hr : rightP p = true) (e : p.kind = 2) : applyP t p = ((removeT t p.name).1, if (removeT t p.name).2 = 0 then 0 else 31) := by
  have key : ∀ r : Tr × Int, removeT t p.name = r → applyP t p = (r.1, if r.2 = 0 then 0 else 31) := by
    intro r hq
    simp only [applyP, hr, e, Bool.true_eq_false, if_false, Int.reduceEq, if_true]
    unfold removeT at hq
    split at hq <;> rename_i hg <;> rw [hg]
    · subst hq; simp
    · dsimp only
      split at hq <;> rename_i h1
      · subst hq; simp [h1]
      · subst hq; simp [h1]
  exact key _ rfl
theorem apply_move {p : Pr} (hr : rightP p = true) (e : p.kind = 3) : applyP t p = ((moveT t p.name p.to).1, if (moveT t p.name p.to).2 = 0 then 0 else 31) := by
  have hn := ((right_parts hr).2.2.2.2.2 e).1
  have key : ∀ r : Tr × Int, moveT t p.name p.to = r → applyP t p = (r.1, if r.2 = 0 then 0 else 31) := by
    intro r hq
    simp only [applyP, hr, e, Bool.true_eq_false, if_false, Int.reduceEq]
    simp only [moveT, hn, Bool.true_eq_false, if_false] at hq
    split at hq <;> rename_i hg <;> rw [hg]
    · subst hq; simp
    · dsimp only
      split at hq <;> rename_i h1
      · subst hq; simp [h1]
      · subst hq; simp [h1]
  exact key _ rfl
theorem apply_hunk {p : Pr} (hr : rightP p = true) (e : p.kind = 0) : applyP t p = hunkT t p := by simp [applyP, hr, e]
theorem put_spliced {p : Pr} {l : List ByteArray} (hs : Sized k h t) (hr : rightP p = true) (hg : getT t p.name = some l) (i m : Nat) : putT t p.name (spliced l i m p.new) = (withT t p.name (spliced l i m p.new), 0) := by
  simp only [putT, getT_has hg, allB_spliced (hs.get hg).2.1 (right_parts hr).2.2.2.1, Bool.true_eq_false, if_false]
end

end Go.Proofs.Ytalgapoigkbiaaa
