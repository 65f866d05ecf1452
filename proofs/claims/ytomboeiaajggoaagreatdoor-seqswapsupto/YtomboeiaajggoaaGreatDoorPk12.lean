import Derived.Test.YtomboeiaajggoaaGreatDoorPk6
import Derived.Test.YtomboeiaajggoaaGreatDoorPk11

/-
  What follows of two prims in the other order: swapped again they are as they were; what undoes them is swapped, too. Nothing of any program.
-/
namespace Go.Proofs.YtomboeiaajggoaaGreatDoor
open Go.RowKit

theorem placed_placed (p : Pr) (a b : Int) : placed (placed p a) b = placed p b := rfl
theorem placed_self (p : Pr) : placed p p.place = p := rfl
theorem inFile_inFile (p : Pr) (a b : ByteArray) : inFile (inFile p a) b = inFile p b := rfl
theorem inFile_self (p : Pr) : inFile p p.name = p := rfl
theorem placed_to {p : Pr} {k : Int} (h : k = p.place) : placed p k = p := by subst h; rfl

section
variable {p q a b : Pr}
theorem inv_kind0 : (invertP p).kind = 0 ↔ p.kind = 0 := by
  unfold invertP
  by_cases h0 : p.kind = 0
  · simp [h0]
  by_cases h1 : p.kind = 1
  · simp [h1]
  by_cases h2 : p.kind = 2
  · simp [h2]
  by_cases h3 : p.kind = 3
  · simp [h3]
  simp [h0, h1, h2, h3]
theorem inv_kind3 : (invertP p).kind = 3 ↔ p.kind = 3 := by
  unfold invertP
  by_cases h0 : p.kind = 0
  · simp [h0]
  by_cases h1 : p.kind = 1
  · simp [h1]
  by_cases h2 : p.kind = 2
  · simp [h2]
  by_cases h3 : p.kind = 3
  · simp [h3]
  simp [h0, h1, h2, h3]
theorem inv_hunk (h : p.kind = 0) : invertP p = { p with old := p.new, new := p.old } := by simp [invertP, h]
theorem inv_move (h : p.kind = 3) : invertP p = { p with name := p.to, to := p.name } := by simp [invertP, h]
theorem inv_name (h : p.kind ≠ 3) : (invertP p).name = p.name := by
  unfold invertP
  by_cases h0 : p.kind = 0
  · simp [h0]
  by_cases h1 : p.kind = 1
  · simp [h1]
  by_cases h2 : p.kind = 2
  · simp [h2]
  simp [h0, h1, h2, h]
theorem inv_placed (h : p.kind = 0) (k : Int) : invertP (placed p k) = placed (invertP p) k := by simp [invertP, placed, h]
theorem inv_inFile (h : p.kind = 0) (n : ByteArray) : invertP (inFile p n) = inFile (invertP p) n := by simp [invertP, inFile, h]
theorem inv_names {n : ByteArray} : n ∈ namesP (invertP p) ↔ n ∈ namesP p := by
  rw [mem_names, mem_names, inv_kind3]
  by_cases h : p.kind = 3
  · rw [inv_move h]; simp only [h, true_and]; exact or_comm
  · rw [inv_name h]; simp [h]
theorem inv_common : commonP (invertP p) (invertP q) = commonP p q := by
  rw [Bool.eq_iff_iff, common_iff, common_iff]; simp only [inv_names]
theorem inv_common_left : commonP (invertP p) q = commonP p q := by
  rw [Bool.eq_iff_iff, common_iff, common_iff]; simp only [inv_names]
theorem bwd_inv (n : ByteArray) : bwdN (invertP p) n = fwdN p n := by
  unfold bwdN fwdN
  by_cases h : p.kind = 3
  · rw [if_pos (inv_kind3.2 h), if_pos h, inv_move h]
  · rw [if_neg (fun e => h (inv_kind3.1 e)), if_neg h, inv_name h]
theorem fwd_inv (n : ByteArray) : fwdN (invertP p) n = bwdN p n := by
  unfold bwdN fwdN
  by_cases h : p.kind = 3
  · rw [if_pos (inv_kind3.2 h), if_pos h, inv_move h]
  · rw [if_neg (fun e => h (inv_kind3.1 e)), if_neg h, inv_name h]

/-- Two Hunks that are swapped. -/
theorem swapHH_cases (h : swapHH p q = some (a, b)) :
    (p.name ≠ q.name ∧ a = q ∧ b = p) ∨
    (p.name = q.name ∧ q.place > p.place + p.new.length ∧ q.place - p.new.length + p.old.length ≤ 1048576 ∧ a = placed q (q.place - p.new.length + p.old.length) ∧ b = p) ∨
    (p.name = q.name ∧ q.place + q.old.length < p.place ∧ p.place + q.new.length - q.old.length ≤ 1048576 ∧ a = q ∧ b = placed p (p.place + q.new.length - q.old.length)) := by
  unfold swapHH at h
  split at h
  · rename_i e
    split at h
    · rename_i h1
      split at h
      · rename_i h2; cases h; exact .inr (.inl ⟨e, h1, h2, rfl, rfl⟩)
      · cases h
    · split at h
      · rename_i h1
        split at h
        · rename_i h2; cases h; exact .inr (.inr ⟨e, h1, h2, rfl, rfl⟩)
        · cases h
      · cases h
  · rename_i e; cases h; exact .inl ⟨e, rfl, rfl⟩
theorem swapHH_apart (e : p.name ≠ q.name) : swapHH p q = some (q, p) := by simp [swapHH, e]
theorem swapHH_behind (e : p.name = q.name) (h : q.place > p.place + p.new.length) (k : q.place - p.new.length + p.old.length ≤ 1048576) : swapHH p q = some (placed q (q.place - p.new.length + p.old.length), p) := by
  simp [swapHH, e, h, k]
theorem swapHH_ahead (e : p.name = q.name) (h : q.place + q.old.length < p.place) (k : p.place + q.new.length - q.old.length ≤ 1048576) : swapHH p q = some (q, placed p (p.place + q.new.length - q.old.length)) := by
  have h1 : ¬ q.place > p.place + p.new.length := by omega
  simp only [swapHH, e, h, k, h1, if_true, if_false]

/-- P4.3: swapped again, both are as they were. -/
theorem swap_back (h : swapP p q = some (a, b)) : swapP a b = some (p, q) := by
  obtain ⟨hp, hq, ha, hb⟩ := swap_right h
  by_cases kp : p.kind = 0
  · by_cases kq : q.kind = 0
    · rw [swap_HH hp hq kp kq] at h
      have pp := place_in hp kp
      have qq := place_in hq kq
      rcases swapHH_cases h with ⟨e, rfl, rfl⟩ | ⟨e, h1, h2, rfl, rfl⟩ | ⟨e, h1, h2, rfl, rfl⟩
      · rw [swap_HH ha hb kq kp, swapHH_apart (fun x => e x.symm)]
      · rw [swap_HH ha hb kq kp]
        have := swapHH_ahead (p := placed q (q.place - b.new.length + b.old.length)) (q := b) e.symm (by simp only [placed]; omega) (by simp only [placed]; omega)
        rw [this, placed_placed, placed_to (by simp only [placed]; omega)]
      · rw [swap_HH ha hb kq kp]
        have := swapHH_behind (p := a) (q := placed p (p.place + a.new.length - a.old.length)) e.symm (by simp only [placed]; omega) (by simp only [placed]; omega)
        rw [this, placed_placed, placed_to (by simp only [placed]; omega)]
    · rw [swap_HN hp hq kp kq] at h
      cases hf : fwdN q p.name with
      | none => rw [hf] at h; cases h
      | some n =>
        rw [hf] at h
        cases h
        rw [swap_NH ha hb kq kp]
        have : bwdN q (inFile p n).name = some p.name := (fwd_bwd hq).1 hf
        rw [this]; rfl
  · by_cases kq : q.kind = 0
    · rw [swap_NH hp hq kp kq] at h
      cases hf : bwdN p q.name with
      | none => rw [hf] at h; cases h
      | some n =>
        rw [hf] at h
        cases h
        rw [swap_HN ha hb kq kp]
        have : fwdN p (inFile q n).name = some q.name := (fwd_bwd hp).2 hf
        rw [this]; rfl
    · rw [swap_NN hp hq kp kq] at h
      split at h
      · cases h
      · rename_i hc
        cases h
        rw [swap_NN ha hb kq kp, common_comm, if_neg hc]

/-- P4.3: what undoes p, and first. -/
theorem swap_square (h : swapP p q = some (a, b)) : swapP (invertP p) a = some (q, invertP b) := by
  obtain ⟨hp, hq, ha, hb⟩ := swap_right h
  have hi : rightP (invertP p) = true := by rw [right_invert]; exact hp
  by_cases kp : p.kind = 0
  · have ki : (invertP p).kind = 0 := inv_kind0.2 kp
    by_cases kq : q.kind = 0
    · rw [swap_HH hp hq kp kq] at h
      have pp := place_in hp kp
      have qq := place_in hq kq
      rcases swapHH_cases h with ⟨e, rfl, rfl⟩ | ⟨e, h1, h2, rfl, rfl⟩ | ⟨e, h1, h2, rfl, rfl⟩
      · rw [swap_HH hi ha ki kq, inv_hunk kp]; exact swapHH_apart e
      · rw [swap_HH hi ha ki kq, inv_hunk kp]
        have := swapHH_behind (p := { b with old := b.new, new := b.old }) (q := placed q (q.place - b.new.length + b.old.length)) e (by simp only [placed]; omega) (by simp only [placed]; omega)
        rw [this, placed_placed, placed_to (by simp only [placed]; omega)]
      · rw [swap_HH hi ha ki kq, inv_placed kp, inv_hunk kp]
        exact swapHH_ahead (p := { p with old := p.new, new := p.old }) (q := a) e h1 h2
    · rw [swap_HN hp hq kp kq] at h
      cases hf : fwdN q p.name with
      | none => rw [hf] at h; cases h
      | some n =>
        rw [hf] at h
        cases h
        rw [swap_HN hi ha ki kq, inv_name (by omega), hf, inv_inFile kp]; rfl
  · have ki : (invertP p).kind ≠ 0 := fun e => kp (inv_kind0.1 e)
    by_cases kq : q.kind = 0
    · rw [swap_NH hp hq kp kq] at h
      cases hf : bwdN p q.name with
      | none => rw [hf] at h; cases h
      | some n =>
        rw [hf] at h
        cases h
        rw [swap_NH hi ha ki kq, bwd_inv]
        have : fwdN p (inFile q n).name = some q.name := (fwd_bwd hp).2 hf
        rw [this]; rfl
    · rw [swap_NN hp hq kp kq] at h
      split at h
      · cases h
      · rename_i hc
        cases h
        rw [swap_NN hi ha ki kq, inv_common_left, if_neg hc]

theorem swap_inverts_some (h : swapP p q = some (a, b)) : swapP (invertP q) (invertP p) = some (invertP b, invertP a) := by
  obtain ⟨hp, hq, ha, hb⟩ := swap_right h
  have hi : rightP (invertP p) = true := by rw [right_invert]; exact hp
  have hj : rightP (invertP q) = true := by rw [right_invert]; exact hq
  by_cases kp : p.kind = 0
  · have ki : (invertP p).kind = 0 := inv_kind0.2 kp
    by_cases kq : q.kind = 0
    · have kj : (invertP q).kind = 0 := inv_kind0.2 kq
      rw [swap_HH hp hq kp kq] at h
      have pp := place_in hp kp
      have qq := place_in hq kq
      rw [swap_HH hj hi kj ki]
      rcases swapHH_cases h with ⟨e, rfl, rfl⟩ | ⟨e, h1, h2, rfl, rfl⟩ | ⟨e, h1, h2, rfl, rfl⟩
      · rw [inv_hunk kp, inv_hunk kq]; exact swapHH_apart (fun x => e x.symm)
      · rw [inv_placed kq, inv_hunk kp, inv_hunk kq]
        have := swapHH_ahead (p := { q with old := q.new, new := q.old }) (q := { b with old := b.new, new := b.old }) e.symm (by simp only; omega) (by simp only; omega)
        rw [this]
        congr 3
        simp only; omega
      · rw [inv_placed kp, inv_hunk kp, inv_hunk kq]
        have := swapHH_behind (p := { a with old := a.new, new := a.old }) (q := { p with old := p.new, new := p.old }) e.symm (by simp only; omega) (by simp only; omega)
        rw [this]
        congr 3
        simp only; omega
    · have kj : (invertP q).kind ≠ 0 := fun e => kq (inv_kind0.1 e)
      rw [swap_HN hp hq kp kq] at h
      cases hf : fwdN q p.name with
      | none => rw [hf] at h; cases h
      | some n =>
        rw [hf] at h
        cases h
        rw [swap_NH hj hi kj ki, bwd_inv, inv_name (by omega), hf, inv_inFile kp]; rfl
  · have ki : (invertP p).kind ≠ 0 := fun e => kp (inv_kind0.1 e)
    by_cases kq : q.kind = 0
    · have kj : (invertP q).kind = 0 := inv_kind0.2 kq
      rw [swap_NH hp hq kp kq] at h
      cases hf : bwdN p q.name with
      | none => rw [hf] at h; cases h
      | some n =>
        rw [hf] at h
        cases h
        rw [swap_HN hj hi kj ki, fwd_inv, inv_name (by omega), hf, inv_inFile kq]; rfl
    · have kj : (invertP q).kind ≠ 0 := fun e => kq (inv_kind0.1 e)
      rw [swap_NN hp hq kp kq] at h
      split at h
      · cases h
      · rename_i hc
        cases h
        rw [swap_NN hj hi kj ki, inv_common, common_comm, if_neg hc]
/-- P4.3: what undoes q, and what undoes p. -/
theorem swap_inverts (p q : Pr) : swapP (invertP q) (invertP p) = (swapP p q).map fun x => (invertP x.2, invertP x.1) := by
  cases h : swapP p q with
  | some x => exact swap_inverts_some h
  | none =>
    cases k : swapP (invertP q) (invertP p) with
    | none => rfl
    | some x =>
      have := swap_inverts_some k
      rw [invert_twice, invert_twice, h] at this
      cases this

/-- P4.1: kinds, and how many lines, are as they were; one that is no Hunk is as it was. -/
theorem swap_keeps (h : swapP p q = some (a, b)) : a.kind = q.kind ∧ a.old = q.old ∧ a.new = q.new ∧ (q.kind ≠ 0 → a = q) ∧ b.kind = p.kind ∧ b.old = p.old ∧ b.new = p.new ∧ (p.kind ≠ 0 → b = p) := by
  obtain ⟨hp, hq, ha, hb⟩ := swap_right h
  by_cases kp : p.kind = 0
  · by_cases kq : q.kind = 0
    · rw [swap_HH hp hq kp kq] at h
      rcases swapHH_cases h with ⟨_, rfl, rfl⟩ | ⟨_, _, _, rfl, rfl⟩ | ⟨_, _, _, rfl, rfl⟩ <;> simp [placed, kp, kq]
    · rw [swap_HN hp hq kp kq] at h
      obtain ⟨n, _, h1⟩ := Option.map_eq_some_iff.1 h
      cases h1
      simp [inFile, kp]
  · by_cases kq : q.kind = 0
    · rw [swap_NH hp hq kp kq] at h
      obtain ⟨n, _, h1⟩ := Option.map_eq_some_iff.1 h
      cases h1
      simp [inFile, kq]
    · rw [swap_NN hp hq kp kq] at h
      split at h
      · cases h
      · cases h; simp
end

end Go.Proofs.YtomboeiaajggoaaGreatDoor

/-
  Two prims in the other order make the same tree. Nothing of any program.
-/
namespace Go.Proofs.YtomboeiaajggoaaGreatDoor
open Go.RowKit

/-- Trees that have the same files are one. -/
theorem tree_ext {a b : Tr} (ha : Rising a) (hb : Rising b) (h : ∀ n, getT a n = getT b n) : a = b :=
  rising_ext ha hb fun f => by
    obtain ⟨n, l⟩ := f
    rw [← getT_iff ha, ← getT_iff hb, h]
theorem get_with {t : Tr} (ht : Rising t) (n m : ByteArray) (l : List ByteArray) : getT (withT t n l) m = if m = n then some l else getT t m := by
  by_cases e : m = n
  · subst e; rw [if_pos rfl, get_with_same ht]
  · rw [if_neg e, get_with_other ht l e]
theorem get_without {t : Tr} (ht : Rising t) (n m : ByteArray) : getT (withoutT t n) m = if m = n then none else getT t m := by
  by_cases e : m = n
  · subst e; rw [if_pos rfl, get_without_same]
  · rw [if_neg e]
    cases hg : getT t m with
    | none => exact getT_none.2 fun f hf => getT_none.1 hg f (mem_without.1 hf).1
    | some l => exact (getT_iff (rising_without ht n)).2 (mem_without.2 ⟨getT_mem hg, e⟩)
theorem has_none {t : Tr} {n : ByteArray} (h : getT t n = none) : hasT t n = false := by simp [hasT, h]

/-- A tree as what each name has. -/
abbrev Look := ByteArray → Option (List ByteArray)
def putL (g : Look) (n : ByteArray) (o : Option (List ByteArray)) : Look := fun m => if m = n then o else g m

/-- What a prim asks of a tree, and what it makes of it. -/
structure Makes (p : Pr) (g g' : Look) : Prop where
  hunk : p.kind = 0 → ∃ l, g p.name = some l ∧ standsB l p.place p.old = true ∧ g' = putL g p.name (some (spliced l p.place.toNat p.old.length p.new))
  add : p.kind = 1 → g p.name = none ∧ g' = putL g p.name (some [])
  rm : p.kind = 2 → g p.name = some [] ∧ g' = putL g p.name none
  move : p.kind = 3 → ∃ l, g p.name = some l ∧ g p.to = none ∧ g' = putL (putL g p.name none) p.to (some l)

theorem getT_with {t : Tr} (ht : Rising t) (n : ByteArray) (l : List ByteArray) : getT (withT t n l) = putL (getT t) n (some l) := funext fun m => get_with ht n m l
theorem getT_without {t : Tr} (ht : Rising t) (n : ByteArray) : getT (withoutT t n) = putL (getT t) n none := funext fun m => get_without ht n m

theorem apply_makes {t u : Tr} {p : Pr} (ht : Rising t) (h : applyP t p = (u, 0)) : rightP p = true ∧ Rising u ∧ Makes p (getT t) (getT u) := by
  have hr : rightP p = true := by
    cases e : rightP p
    · simp [applyP, e] at h
    · rfl
  refine ⟨hr, by have := rising_apply ht p; rwa [h] at this, ?_⟩
  simp only [applyP, hr, Bool.true_eq_false, if_false] at h
  rcases (right_parts hr).2.1 with e | e | e | e
  · simp only [e, if_true, hunkT] at h
    cases hg : getT t p.name with
    | none => simp [hg] at h
    | some l =>
      simp only [hg] at h
      by_cases hs : standsB l p.place p.old = true
      · simp only [hs, if_true, Prod.mk.injEq, and_true] at h
        subst h
        exact ⟨fun _ => ⟨l, hg, hs, getT_with ht _ _⟩, fun x => by omega, fun x => by omega, fun x => by omega⟩
      · simp [hs] at h
  · simp only [e, Int.reduceEq, if_false, if_true] at h
    cases hg : getT t p.name with
    | some l => simp [getT_has hg] at h
    | none =>
      simp only [has_none hg, Bool.false_eq_true, if_false, Prod.mk.injEq, and_true] at h
      subst h
      exact ⟨fun x => by omega, fun _ => ⟨hg, getT_with ht _ _⟩, fun x => by omega, fun x => by omega⟩
  · simp only [e, Int.reduceEq, if_false, if_true] at h
    cases hg : getT t p.name with
    | none => simp [hg] at h
    | some l =>
      simp only [hg] at h
      cases l with
      | cons x l => simp at h
      | nil =>
        simp only [List.length_nil, Nat.lt_irrefl, if_false, Prod.mk.injEq, and_true] at h
        subst h
        exact ⟨fun x => by omega, fun x => by omega, fun _ => ⟨hg, getT_without ht _⟩, fun x => by omega⟩
  · simp only [e, Int.reduceEq, if_false] at h
    cases hg : getT t p.name with
    | none => simp [hg] at h
    | some l =>
      simp only [hg] at h
      cases hh : getT t p.to with
      | some l' => simp [getT_has hh] at h
      | none =>
        simp only [has_none hh, Bool.false_eq_true, if_false, Prod.mk.injEq, and_true] at h
        subst h
        exact ⟨fun x => by omega, fun x => by omega, fun x => by omega, fun _ => ⟨l, hg, hh, by rw [getT_with (rising_without ht _), getT_without ht]⟩⟩

theorem makes_apply {t : Tr} {p : Pr} {g : Look} (ht : Rising t) (hr : rightP p = true) (h : Makes p (getT t) g) : ∃ u, applyP t p = (u, 0) ∧ Rising u ∧ getT u = g := by
  simp only [applyP, hr, Bool.true_eq_false, if_false]
  rcases (right_parts hr).2.1 with e | e | e | e
  · obtain ⟨l, hg, hs, rfl⟩ := h.hunk e
    exact ⟨_, by simp only [e, if_true, hunkT, hg, hs], rising_with ht _ _, getT_with ht _ _⟩
  · obtain ⟨hg, rfl⟩ := h.add e
    exact ⟨_, by simp only [e, Int.reduceEq, if_false, if_true, has_none hg, Bool.false_eq_true], rising_with ht _ _, getT_with ht _ _⟩
  · obtain ⟨hg, rfl⟩ := h.rm e
    exact ⟨_, by simp only [e, Int.reduceEq, if_false, if_true, hg, List.length_nil, Nat.lt_irrefl], rising_without ht _, getT_without ht _⟩
  · obtain ⟨l, hg, hh, rfl⟩ := h.move e
    exact ⟨withT (withoutT t p.name) p.to l, by simp only [e, Int.reduceEq, if_false, hg, has_none hh, Bool.false_eq_true], rising_with (rising_without ht _) _ _, by rw [getT_with (rising_without ht _), getT_without ht]⟩

section
variable {p q a b : Pr} {g g' : Look}
theorem putL_same (g : Look) (n : ByteArray) (o) : putL g n o n = o := by simp [putL]
theorem putL_other (g : Look) {n m : ByteArray} (o) (h : m ≠ n) : putL g n o m = g m := by simp [putL, h]
theorem putL_putL (g : Look) (n : ByteArray) (o o') : putL (putL g n o) n o' = putL g n o' := by
  funext m; by_cases h : m = n <;> simp [putL, h]
theorem putL_comm (g : Look) {n m : ByteArray} (o o') (h : n ≠ m) : putL (putL g n o) m o' = putL (putL g m o') n o := by
  funext k
  by_cases h1 : k = n
  · subst h1; simp [putL, h]
  · by_cases h2 : k = m
    · subst h2; simp [putL, h1]
    · simp [putL, h1, h2]

/-- It changes nothing else. -/
theorem Makes.other (h : Makes p g g') (hk : p.kind = 0 ∨ p.kind = 1 ∨ p.kind = 2 ∨ p.kind = 3) {n : ByteArray} (hn : n ∉ namesP p) : g' n = g n := by
  rw [mem_names] at hn
  have hn1 : n ≠ p.name := fun e => hn (.inl e)
  rcases hk with e | e | e | e
  · obtain ⟨l, _, _, rfl⟩ := h.hunk e; exact putL_other _ _ hn1
  · obtain ⟨_, rfl⟩ := h.add e; exact putL_other _ _ hn1
  · obtain ⟨_, rfl⟩ := h.rm e; exact putL_other _ _ hn1
  · obtain ⟨l, _, _, rfl⟩ := h.move e
    rw [putL_other _ _ (fun x => hn (.inr ⟨e, x⟩)), putL_other _ _ hn1]
/-- It looks at nothing else. -/
theorem Makes.local_ (h : Makes p g g') (hk : p.kind = 0 ∨ p.kind = 1 ∨ p.kind = 2 ∨ p.kind = 3) {k : Look} (hg : ∀ n ∈ namesP p, k n = g n) : ∃ k', Makes p k k' ∧ ∀ n ∈ namesP p, k' n = g' n := by
  have h1 : k p.name = g p.name := hg _ (mem_names.2 (.inl rfl))
  rcases hk with e | e | e | e
  · obtain ⟨l, a1, a2, rfl⟩ := h.hunk e
    refine ⟨_, ⟨fun _ => ⟨l, h1.trans a1, a2, rfl⟩, fun x => by omega, fun x => by omega, fun x => by omega⟩, fun n hn => ?_⟩
    by_cases en : n = p.name
    · subst en; rw [putL_same, putL_same]
    · rw [putL_other _ _ en, putL_other _ _ en, hg n hn]
  · obtain ⟨a1, rfl⟩ := h.add e
    refine ⟨_, ⟨fun x => by omega, fun _ => ⟨h1.trans a1, rfl⟩, fun x => by omega, fun x => by omega⟩, fun n hn => ?_⟩
    by_cases en : n = p.name
    · subst en; rw [putL_same, putL_same]
    · rw [putL_other _ _ en, putL_other _ _ en, hg n hn]
  · obtain ⟨a1, rfl⟩ := h.rm e
    refine ⟨_, ⟨fun x => by omega, fun x => by omega, fun _ => ⟨h1.trans a1, rfl⟩, fun x => by omega⟩, fun n hn => ?_⟩
    by_cases en : n = p.name
    · subst en; rw [putL_same, putL_same]
    · rw [putL_other _ _ en, putL_other _ _ en, hg n hn]
  · obtain ⟨l, a1, a2, rfl⟩ := h.move e
    have h2 : k p.to = g p.to := hg _ (mem_names.2 (.inr ⟨e, rfl⟩))
    refine ⟨_, ⟨fun x => by omega, fun x => by omega, fun x => by omega, fun _ => ⟨l, h1.trans a1, h2.trans a2, rfl⟩⟩, fun n hn => ?_⟩
    by_cases et : n = p.to
    · subst et; rw [putL_same, putL_same]
    · rw [putL_other _ _ et, putL_other _ _ et]
      by_cases en : n = p.name
      · subst en; rw [putL_same, putL_same]
      · rw [putL_other _ _ en, putL_other _ _ en, hg n hn]

/-- Two that name no common file. -/
theorem apart_fits {t u v : Tr} (ht : Rising t) (hc : commonP p q = false) (h1 : applyP t p = (u, 0)) (h2 : applyP u q = (v, 0)) : ∃ u', applyP t q = (u', 0) ∧ applyP u' p = (v, 0) := by
  obtain ⟨hp, hu, m1⟩ := apply_makes ht h1
  obtain ⟨hq, hv, m2⟩ := apply_makes hu h2
  have kp := (right_parts hp).2.1
  have kq := (right_parts hq).2.1
  have dis := common_no.1 hc
  obtain ⟨k1, n1, e1⟩ := m2.local_ kq (k := getT t) fun n hn => (m1.other kp (fun h => dis n h hn)).symm
  obtain ⟨u', hu', ru', gu'⟩ := makes_apply ht hq n1
  subst gu'
  obtain ⟨k2, n2, e2⟩ := m1.local_ kp (k := getT u') fun n hn => n1.other kq (dis n hn)
  obtain ⟨v', hv', rv', gv'⟩ := makes_apply ru' hp n2
  subst gv'
  have : v' = v := tree_ext rv' hv fun n => by
    by_cases hnp : n ∈ namesP p
    · rw [e2 n hnp, m2.other kq (dis n hnp)]
    · rw [n2.other kp hnp]
      by_cases hnq : n ∈ namesP q
      · exact e1 n hnq
      · rw [n1.other kq hnq, m2.other kq hnq, m1.other kp hnp]
  subst this
  exact ⟨u', hu', hv'⟩
end

theorem stands_parts {l part : List ByteArray} {k : Nat} (h : standsB l k part = true) : ∃ A B, l = A ++ (part ++ B) ∧ A.length = k := by
  obtain ⟨h1, h2⟩ := stands_eq h
  refine ⟨l.take k, l.drop (k + part.length), ?_, by rw [List.length_take]; omega⟩
  rw [← List.drop_drop]
  conv => lhs; rw [← List.take_append_drop k l, ← List.take_append_drop part.length (l.drop k), h2]
theorem parts_stands (A part B : List ByteArray) : standsB (A ++ (part ++ B)) (A.length : Nat) part = true := by
  rw [standsB_in (by simp only [List.length_append]; omega)]
  exact sameB_yes (by rw [List.drop_left, List.take_left])
theorem parts_spliced (A part B w : List ByteArray) : spliced (A ++ (part ++ B)) A.length part.length w = A ++ (w ++ B) := by
  unfold spliced
  rw [← List.drop_drop, List.drop_left, List.drop_left, List.take_left, List.append_assoc]

/-- Two Hunks of one file, the second one behind the first. -/
theorem behind_lines {l po pn qo qn : List ByteArray} {i j : Nat} (h1 : standsB l i po = true) (h2 : standsB (spliced l i po.length pn) j qo = true) (hj : i + pn.length < j) :
    standsB l (j - pn.length + po.length : Nat) qo = true ∧ standsB (spliced l (j - pn.length + po.length) qo.length qn) i po = true ∧
    spliced (spliced l (j - pn.length + po.length) qo.length qn) i po.length pn = spliced (spliced l i po.length pn) j qo.length qn := by
  obtain ⟨A, B, rfl, rfl⟩ := stands_parts h1
  rw [parts_spliced] at h2
  obtain ⟨C, D, e, rfl⟩ := stands_parts h2
  have hC : ∃ E, C = A ++ (pn ++ E) := by
    refine ⟨C.drop (A.length + pn.length), ?_⟩
    have h3 : (A ++ (pn ++ B)).take (A.length + pn.length) = A ++ pn := by rw [← List.append_assoc]; exact List.take_left' (by simp)
    have h4 : (C ++ (qo ++ D)).take (A.length + pn.length) = C.take (A.length + pn.length) := List.take_append_of_le_length (by omega)
    rw [e, h4] at h3
    rw [← List.append_assoc, ← h3, List.take_append_drop]
  obtain ⟨E, rfl⟩ := hC
  have hB : B = E ++ (qo ++ D) := by
    have : A ++ (pn ++ B) = A ++ (pn ++ (E ++ (qo ++ D))) := by rw [e]; simp only [List.append_assoc]
    exact List.append_cancel_left (List.append_cancel_left this)
  subst hB
  have el : (A ++ (pn ++ E)).length - pn.length + po.length = (A ++ (po ++ E)).length := by simp only [List.length_append]; omega
  have ea : A ++ (po ++ (E ++ (qo ++ D))) = (A ++ (po ++ E)) ++ (qo ++ D) := by simp only [List.append_assoc]
  have eb : A ++ (pn ++ (E ++ (qo ++ D))) = (A ++ (pn ++ E)) ++ (qo ++ D) := by simp only [List.append_assoc]
  rw [el]
  refine ⟨by rw [ea]; exact parts_stands _ _ _, ?_, ?_⟩
  · rw [ea, parts_spliced]
    have : A ++ (po ++ E) ++ (qn ++ D) = A ++ (po ++ (E ++ (qn ++ D))) := by simp only [List.append_assoc]
    rw [this]; exact parts_stands _ _ _
  · rw [parts_spliced, eb, parts_spliced]
    have : spliced (A ++ (po ++ (E ++ (qo ++ D)))) (A ++ (po ++ E)).length qo.length qn = A ++ (po ++ (E ++ (qn ++ D))) := by
      rw [ea, parts_spliced]; simp only [List.append_assoc]
    rw [this, parts_spliced]; simp only [List.append_assoc]

section
variable {p q a b : Pr} {t u v : Tr}
theorem behind_fits (ht : Rising t) (kp : p.kind = 0) (kq : q.kind = 0) (e : p.name = q.name) (hb : q.place > p.place + p.new.length)
    (hr : rightP (placed q (q.place - p.new.length + p.old.length)) = true) (h1 : applyP t p = (u, 0)) (h2 : applyP u q = (v, 0)) :
    ∃ u', applyP t (placed q (q.place - p.new.length + p.old.length)) = (u', 0) ∧ applyP u' p = (v, 0) := by
  obtain ⟨hp, hu, m1⟩ := apply_makes ht h1
  obtain ⟨hq, hv, m2⟩ := apply_makes hu h2
  obtain ⟨l, g1, s1, e1⟩ := m1.hunk kp
  obtain ⟨l', g2, s2, e2⟩ := m2.hunk kq
  rw [e1, ← e, putL_same] at g2
  cases g2
  have pp := place_in hp kp
  have qq := place_in hq kq
  obtain ⟨i, hi⟩ := Int.eq_ofNat_of_zero_le pp.1
  obtain ⟨j, hj⟩ := Int.eq_ofNat_of_zero_le qq.1
  rw [hi] at s1
  rw [hj, hi, Int.toNat_natCast] at s2
  obtain ⟨c1, c2, c3⟩ := behind_lines (qn := q.new) s1 s2 (by omega)
  have ej : q.place - p.new.length + p.old.length = ((j - p.new.length + p.old.length : Nat) : Int) := by omega
  have n1 : Makes (placed q (q.place - p.new.length + p.old.length)) (getT t) (putL (getT t) q.name (some (spliced l (j - p.new.length + p.old.length) q.old.length q.new))) :=
    ⟨fun _ => ⟨l, by rw [← g1, e]; rfl, by rw [ej]; exact c1, by rw [ej]; rfl⟩, fun x => by have : q.kind = 1 := x; omega, fun x => by have : q.kind = 2 := x; omega, fun x => by have : q.kind = 3 := x; omega⟩
  obtain ⟨u', hu', ru', gu'⟩ := makes_apply ht hr n1
  have n2 : Makes p (getT u') (putL (getT u') p.name (some (spliced (spliced l (j - p.new.length + p.old.length) q.old.length q.new) i p.old.length p.new))) :=
    ⟨fun _ => ⟨_, by rw [gu', e, putL_same], by rw [hi]; exact c2, by rw [hi]; rfl⟩, fun x => by omega, fun x => by omega, fun x => by omega⟩
  obtain ⟨v', hv', rv', gv'⟩ := makes_apply ru' hp n2
  have : v' = v := tree_ext rv' hv fun n => by
    rw [gv', gu', e2, e1, e, putL_putL, putL_putL, c3, hj, hi]; rfl
  subst this
  exact ⟨u', hu', hv'⟩

/-- A Hunk in a file that is moved behind it. -/
theorem moved_fits (ht : Rising t) (kp : p.kind = 0) (kq : q.kind = 3) (e : p.name = q.name) (hr : rightP (inFile p q.to) = true) (h1 : applyP t p = (u, 0)) (h2 : applyP u q = (v, 0)) :
    ∃ u', applyP t q = (u', 0) ∧ applyP u' (inFile p q.to) = (v, 0) := by
  obtain ⟨hp, hu, m1⟩ := apply_makes ht h1
  obtain ⟨hq, hv, m2⟩ := apply_makes hu h2
  obtain ⟨l, g1, s1, e1⟩ := m1.hunk kp
  obtain ⟨l', g2, g3, e2⟩ := m2.move kq
  have hne := move_else hq kq
  rw [e1, ← e, putL_same] at g2
  cases g2
  rw [e1, e, putL_other _ _ hne] at g3
  have n1 : Makes q (getT t) (putL (putL (getT t) q.name none) q.to (some l)) :=
    ⟨fun x => by omega, fun x => by omega, fun x => by omega, fun _ => ⟨l, by rw [← e]; exact g1, g3, rfl⟩⟩
  obtain ⟨u', hu', ru', gu'⟩ := makes_apply ht hq n1
  have n2 : Makes (inFile p q.to) (getT u') (putL (getT u') q.to (some (spliced l p.place.toNat p.old.length p.new))) :=
    ⟨fun _ => ⟨l, by rw [gu']; exact putL_same _ _ _, s1, rfl⟩, fun x => by have : p.kind = 1 := x; omega, fun x => by have : p.kind = 2 := x; omega, fun x => by have : p.kind = 3 := x; omega⟩
  obtain ⟨v', hv', rv', gv'⟩ := makes_apply ru' hr n2
  have : v' = v := tree_ext rv' hv fun n => by
    rw [gv', gu', e2, e1, e, putL_putL, putL_putL]
  subst this
  exact ⟨u', hu', hv'⟩

/-- P4.3, where p is a Hunk, or neither is, and q does not stand ahead of p in its file. -/
theorem swap_fits_first (ht : Rising t) (h1 : applyP t p = (u, 0)) (h2 : applyP u q = (v, 0)) (h : swapP p q = some (a, b)) (hk : p.kind = 0 ∨ q.kind ≠ 0) (ho : p.kind = 0 → q.kind = 0 → p.name = q.name → ¬ q.place + q.old.length < p.place) :
    ∃ u', applyP t a = (u', 0) ∧ applyP u' b = (v, 0) := by
  obtain ⟨hp, hq, ha, hb⟩ := swap_right h
  have apart : commonP p q = false → a = q → b = p → ∃ u', applyP t a = (u', 0) ∧ applyP u' b = (v, 0) := by
    rintro hc rfl rfl; exact apart_fits ht hc h1 h2
  by_cases kp : p.kind = 0
  · by_cases kq : q.kind = 0
    · rw [swap_HH hp hq kp kq] at h
      rcases swapHH_cases h with ⟨e, ea, eb⟩ | ⟨e, g1, g2, rfl, rfl⟩ | ⟨e, g1, _, _, _⟩
      · refine apart (common_no.2 fun n x y => ?_) ea eb
        rw [mem_names] at x y
        simp only [kp, kq, Int.reduceEq, false_and, or_false] at x y
        exact e (x.symm.trans y)
      · exact behind_fits ht kp kq e g1 ha h1 h2
      · exact absurd g1 (ho kp kq e)
    · rw [swap_HN hp hq kp kq] at h
      by_cases k3 : q.kind = 3 ∧ p.name = q.name
      · simp only [fwdN, k3.1, k3.2, if_true, Option.map_some, Option.some.injEq, Prod.mk.injEq] at h
        obtain ⟨rfl, rfl⟩ := h
        exact moved_fits ht kp k3.1 k3.2 hb h1 h2
      · obtain ⟨n, hf, hab⟩ := Option.map_eq_some_iff.1 h
        have hne : p.name ≠ q.name ∧ (q.kind = 3 → p.name ≠ q.to) ∧ n = p.name := by
          unfold fwdN at hf
          split at hf
          · rename_i e3
            rw [if_neg (fun x => k3 ⟨e3, x⟩)] at hf
            split at hf
            · cases hf
            · rename_i e4; cases hf; exact ⟨fun x => k3 ⟨e3, x⟩, fun _ => e4, rfl⟩
          · rename_i e3
            split at hf
            · cases hf
            · rename_i e4; cases hf; exact ⟨e4, fun x => absurd x e3, rfl⟩
        obtain ⟨x1, x2, rfl⟩ := hne
        cases hab
        refine apart (common_no.2 fun n x y => ?_) rfl rfl
        rw [mem_names] at x y
        simp only [kp, Int.reduceEq, false_and, or_false] at x
        subst x
        rcases y with y | y
        · exact x1 y
        · exact x2 y.1 y.2
  · have kq : q.kind ≠ 0 := hk.resolve_left kp
    rw [swap_NN hp hq kp kq] at h
    split at h
    · cases h
    · rename_i hc
      cases h
      exact apart (by simpa using hc) rfl rfl

/-- P4.3: of a tree that p fits, and then q, first fits it, and then second, and the tree is the same one. -/
theorem swap_fits (ht : Rising t) (h1 : applyP t p = (u, 0)) (h2 : applyP u q = (v, 0)) (h : swapP p q = some (a, b)) : ∃ u', applyP t a = (u', 0) ∧ applyP u' b = (v, 0) := by
  by_cases hc : (p.kind = 0 ∨ q.kind ≠ 0) ∧ (p.kind = 0 → q.kind = 0 → p.name = q.name → ¬ q.place + q.old.length < p.place)
  · exact swap_fits_first ht h1 h2 h hc.1 hc.2
  · obtain ⟨_, hu, _⟩ := apply_makes ht h1
    obtain ⟨_, hv, _⟩ := apply_makes hu h2
    have i1 := apply_back hu h2
    have i2 := apply_back ht h1
    have hi := swap_inverts_some h
    have : (invertP q).kind = 0 ∧ ((invertP q).kind = 0 → (invertP p).kind = 0 → (invertP q).name = (invertP p).name → ¬ (invertP p).place + (invertP p).old.length < (invertP q).place) := by
      rw [inv_kind0, inv_kind0]
      by_cases kq : q.kind = 0
      · refine ⟨kq, fun _ kp e => ?_⟩
        have e' : p.name = q.name := by rw [inv_name (by omega), inv_name (by omega)] at e; exact e.symm
        rw [inv_hunk kp, inv_hunk kq]
        simp only
        have : q.place + q.old.length < p.place := by
          rcases Int.lt_or_le (q.place + q.old.length) p.place with x | x
          · exact x
          · exact absurd ⟨.inl kp, fun _ _ _ => by omega⟩ hc
        omega
      · exact absurd ⟨.inr kq, fun _ x => absurd x kq⟩ hc
    obtain ⟨w, w1, w2⟩ := swap_fits_first hv i1 i2 hi (.inl this.1) this.2
    obtain ⟨_, hw, _⟩ := apply_makes hv w1
    refine ⟨w, ?_, ?_⟩
    · have := apply_back hw w2; rwa [invert_twice] at this
    · have := apply_back hv w1; rwa [invert_twice] at this
end

end Go.Proofs.YtomboeiaajggoaaGreatDoor
