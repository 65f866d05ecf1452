/-
  What follows of two prims in the other order: swapped again they are as they were; what undoes them is swapped, too. Nothing of any program.
-/
import Derived.Test.YtalgapoigkbiaaaSwPlain
namespace Go.Proofs.Ytalgapoigkbiaaa
open Go.RowKit

theorem placed_placed (p : Pr) (a b : Int) : placed (placed p a) b = placed p b := rfl
theorem placed_self (p : Pr) : placed p p.place = p := rfl
theorem inFile_inFile (p : Pr) (a b : ByteArray) : inFile (inFile p a) b = inFile p b := rfl
theorem inFile_self (p : Pr) : inFile p p.name = p := rfl
theorem placed_to {p : Pr} {k : Int} (h : k = p.place) : placed p k = p := by subst h; rfl

section
variable {p q a b : Pr}
theorem inv_kind0 : (invertP p).kind = 0 ↔ p.kind = 0 := by
  unfold invertP
  by_cases h0 : p.kind = 0
  · simp [h0]
  by_cases h1 : p.kind = 1
  · simp [h1]
  by_cases h2 : p.kind = 2
  · simp [h2]
  by_cases h3 : p.kind = 3
  · simp [h3]
  simp [h0, h1, h2, h3]
theorem inv_kind3 : (invertP p).kind = 3 ↔ p.kind = 3 := by
  unfold invertP
  by_cases h0 : p.kind = 0
  · simp [h0]
  by_cases h1 : p.kind = 1
  · simp [h1]
  by_cases h2 : p.kind = 2
  · simp [h2]
  by_cases h3 : p.kind = 3
  · simp [h3]
  simp [h0, h1, h2, h3]
theorem inv_hunk (h : p.kind = 0) : invertP p = { p with old := p.new, new := p.old } := by simp [invertP, h]
theorem inv_move (h : p.kind = 3) : invertP p = { p with name := p.to, to := p.name } := by simp [invertP, h]
theorem inv_name (h : p.kind ≠ 3) : (invertP p).name = p.name := by
  unfold invertP
  by_cases h0 : p.kind = 0
  · simp [h0]
  by_cases h1 : p.kind = 1
  · simp [h1]
  by_cases h2 : p.kind = 2
  · simp [h2]
  simp [h0, h1, h2, h]
theorem inv_placed (h : p.kind = 0) (k : Int) : invertP (placed p k) = placed (invertP p) k := by simp [invertP, placed, h]
theorem inv_inFile (h : p.kind = 0) (n : ByteArray) : invertP (inFile p n) = inFile (invertP p) n := by simp [invertP, inFile, h]
theorem inv_names {n : ByteArray} : n ∈ namesP (invertP p) ↔ n ∈ namesP p := by
  rw [mem_names, mem_names, inv_kind3]
  by_cases h : p.kind = 3
  · rw [inv_move h]; simp only [h, true_and]; exact or_comm
  · rw [inv_name h]; simp [h]
theorem inv_common : commonP (invertP p) (invertP q) = commonP p q := by
  rw [Bool.eq_iff_iff, common_iff, common_iff]; simp only [inv_names]
theorem inv_common_left : commonP (invertP p) q = commonP p q := by
  rw [Bool.eq_iff_iff, common_iff, common_iff]; simp only [inv_names]
theorem bwd_inv (n : ByteArray) : bwdN (invertP p) n = fwdN p n := by
  unfold bwdN fwdN
  by_cases h : p.kind = 3
  · rw [if_pos (inv_kind3.2 h), if_pos h, inv_move h]
  · rw [if_neg (fun e => h (inv_kind3.1 e)), if_neg h, inv_name h]
theorem fwd_inv (n : ByteArray) : fwdN (invertP p) n = bwdN p n := by
  unfold bwdN fwdN
  by_cases h : p.kind = 3
  · rw [if_pos (inv_kind3.2 h), if_pos h, inv_move h]
  · rw [if_neg (fun e => h (inv_kind3.1 e)), if_neg h, inv_name h]

/-- Two Hunks that are swapped. -/
theorem swapHH_cases (h : swapHH p q = some (a, b)) :
    (p.name ≠ q.name ∧ a = q ∧ b = p) ∨
    (p.name = q.name ∧ q.place > p.place + p.new.length ∧ q.place - p.new.length + p.old.length ≤ 1048576 ∧ a = placed q (q.place - p.new.length + p.old.length) ∧ b = p) ∨
    (p.name = q.name ∧ q.place + q.old.length < p.place ∧ p.place + q.new.length - q.old.length ≤ 1048576 ∧ a = q ∧ b = placed p (p.place + q.new.length - q.old.length)) := by
  unfold swapHH at h
  split at h
  · rename_i e
    split at h
    · rename_i h1
      split at h
      · rename_i h2; cases h; exact .inr (.inl ⟨e, h1, h2, rfl, rfl⟩)
      · cases h
    · split at h
      · rename_i h1
        split at h
        · rename_i h2; cases h; exact .inr (.inr ⟨e, h1, h2, rfl, rfl⟩)
        · cases h
      · cases h
  · rename_i e; cases h; exact .inl ⟨e, rfl, rfl⟩
theorem swapHH_apart (e : p.name ≠ q.name) : swapHH p q = some (q, p) := by simp [swapHH, e]
theorem swapHH_behind (e : p.name = q.name) (h : q.place > p.place + p.new.length) (k : q.place - p.new.length + p.old.length ≤ 1048576) : swapHH p q = some (placed q (q.place - p.new.length + p.old.length), p) := by
  simp [swapHH, e, h, k]
theorem swapHH_ahead (e : p.name = q.name) (h : q.place + q.old.length < p.place) (k : p.place + q.new.length - q.old.length ≤ 1048576) : swapHH p q = some (q, placed p (p.place + q.new.length - q.old.length)) := by
  have h1 : ¬ q.place > p.place + p.new.length := by omega
  simp only [swapHH, e, h, k, h1, if_true, if_false]

/-- P4.3: swapped again, both are as they were. -/
theorem swap_back (h : swapP p q = some (a, b)) : swapP a b = some (p, q) := by
  obtain ⟨hp, hq, ha, hb⟩ := swap_right h
  by_cases kp : p.kind = 0
  · by_cases kq : q.kind = 0
    · rw [swap_HH hp hq kp kq] at h
      have pp := place_in hp kp
      have qq := place_in hq kq
      rcases swapHH_cases h with ⟨e, rfl, rfl⟩ | ⟨e, h1, h2, rfl, rfl⟩ | ⟨e, h1, h2, rfl, rfl⟩
      · rw [swap_HH ha hb kq kp, swapHH_apart (fun x => e x.symm)]
      · rw [swap_HH ha hb kq kp]
        have := swapHH_ahead (p := placed q (q.place - b.new.length + b.old.length)) (q := b) e.symm (by simp only [placed]; omega) (by simp only [placed]; omega)
        rw [this, placed_placed, placed_to (by simp only [placed]; omega)]
      · rw [swap_HH ha hb kq kp]
        have := swapHH_behind (p := a) (q := placed p (p.place + a.new.length - a.old.length)) e.symm (by simp only [placed]; omega) (by simp only [placed]; omega)
        rw [this, placed_placed, placed_to (by simp only [placed]; omega)]
    · rw [swap_HN hp hq kp kq] at h
      cases hf : fwdN q p.name with
      | none => rw [hf] at h; cases h
      | some n =>
        rw [hf] at h
        cases h
        rw [swap_NH ha hb kq kp]
        have : bwdN q (inFile p n).name = some p.name := (fwd_bwd hq).1 hf
        rw [this]; rfl
  · by_cases kq : q.kind = 0
    · rw [swap_NH hp hq kp kq] at h
      cases hf : bwdN p q.name with
      | none => rw [hf] at h; cases h
      | some n =>
        rw [hf] at h
        cases h
        rw [swap_HN ha hb kq kp]
        have : fwdN p (inFile q n).name = some q.name := (fwd_bwd hp).2 hf
        rw [this]; rfl
    · rw [swap_NN hp hq kp kq] at h
      split at h
      · cases h
      · rename_i hc
        cases h
        rw [swap_NN ha hb kq kp, common_comm, if_neg hc]

/-- P4.3: what undoes p, and first. -/
theorem swap_square (h : swapP p q = some (a, b)) : swapP (invertP p) a = some (q, invertP b) := by
  obtain ⟨hp, hq, ha, hb⟩ := swap_right h
  have hi : rightP (invertP p) = true := by rw [right_invert]; exact hp
  by_cases kp : p.kind = 0
  · have ki : (invertP p).kind = 0 := inv_kind0.2 kp
    by_cases kq : q.kind = 0
    · rw [swap_HH hp hq kp kq] at h
      have pp := place_in hp kp
      have qq := place_in hq kq
      rcases swapHH_cases h with ⟨e, rfl, rfl⟩ | ⟨e, h1, h2, rfl, rfl⟩ | ⟨e, h1, h2, rfl, rfl⟩
      · rw [swap_HH hi ha ki kq, inv_hunk kp]; exact swapHH_apart e
      · rw [swap_HH hi ha ki kq, inv_hunk kp]
        have := swapHH_behind (p := { b with old := b.new, new := b.old }) (q := placed q (q.place - b.new.length + b.old.length)) e (by simp only [placed]; omega) (by simp only [placed]; omega)
        rw [this, placed_placed, placed_to (by simp only [placed]; omega)]
      · rw [swap_HH hi ha ki kq, inv_placed kp, inv_hunk kp]
        exact swapHH_ahead (p := { p with old := p.new, new := p.old }) (q := a) e h1 h2
    · rw [swap_HN hp hq kp kq] at h
      cases hf : fwdN q p.name with
      | none => rw [hf] at h; cases h
      | some n =>
        rw [hf] at h
        cases h
        rw [swap_HN hi ha ki kq, inv_name (by omega), hf, inv_inFile kp]; rfl
  · have ki : (invertP p).kind ≠ 0 := fun e => kp (inv_kind0.1 e)
    by_cases kq : q.kind = 0
    · rw [swap_NH hp hq kp kq] at h
      cases hf : bwdN p q.name with
      | none => rw [hf] at h; cases h
      | some n =>
        rw [hf] at h
        cases h
        rw [swap_NH hi ha ki kq, bwd_inv]
        have : fwdN p (inFile q n).name = some q.name := (fwd_bwd hp).2 hf
        rw [this]; rfl
    · rw [swap_NN hp hq kp kq] at h
      split at h
      · cases h
      · rename_i hc
        cases h
        rw [swap_NN hi ha ki kq, inv_common_left, if_neg hc]

theorem swap_inverts_some (h : swapP p q = some (a, b)) : swapP (invertP q) (invertP p) = some (invertP b, invertP a) := by
  obtain ⟨hp, hq, ha, hb⟩ := swap_right h
  have hi : rightP (invertP p) = true := by rw [right_invert]; exact hp
  have hj : rightP (invertP q) = true := by rw [right_invert]; exact hq
  by_cases kp : p.kind = 0
  · have ki : (invertP p).kind = 0 := inv_kind0.2 kp
    by_cases kq : q.kind = 0
    · have kj : (invertP q).kind = 0 := inv_kind0.2 kq
      rw [swap_HH hp hq kp kq] at h
      have pp := place_in hp kp
      have qq := place_in hq kq
      rw [swap_HH hj hi kj ki]
      rcases swapHH_cases h with ⟨e, rfl, rfl⟩ | ⟨e, h1, h2, rfl, rfl⟩ | ⟨e, h1, h2, rfl, rfl⟩
      · rw [inv_hunk kp, inv_hunk kq]; exact swapHH_apart (fun x => e x.symm)
      · rw [inv_placed kq, inv_hunk kp, inv_hunk kq]
        have := swapHH_ahead (p := { q with old := q.new, new := q.old }) (q := { b with old := b.new, new := b.old }) e.symm (by simp only; omega) (by simp only; omega)
        rw [this]
        congr 3
        simp only; omega
      · rw [inv_placed kp, inv_hunk kp, inv_hunk kq]
        have := swapHH_behind (p := { a with old := a.new, new := a.old }) (q := { p with old := p.new, new := p.old }) e.symm (by simp only; omega) (by simp only; omega)
        rw [this]
        congr 3
        simp only; omega
    · have kj : (invertP q).kind ≠ 0 := fun e => kq (inv_kind0.1 e)
      rw [swap_HN hp hq kp kq] at h
      cases hf : fwdN q p.name with
      | none => rw [hf] at h; cases h
      | some n =>
        rw [hf] at h
        cases h
        rw [swap_NH hj hi kj ki, bwd_inv, inv_name (by omega), hf, inv_inFile kp]; rfl
  · have ki : (invertP p).kind ≠ 0 := fun e => kp (inv_kind0.1 e)
    by_cases kq : q.kind = 0
    · have kj : (invertP q).kind = 0 := inv_kind0.2 kq
      rw [swap_NH hp hq kp kq] at h
      cases hf : bwdN p q.name with
      | none => rw [hf] at h; cases h
      | some n =>
        rw [hf] at h
        cases h
        rw [swap_HN hj hi kj ki, fwd_inv, inv_name (by omega), hf, inv_inFile kq]; rfl
    · have kj : (invertP q).kind ≠ 0 := fun e => kq (inv_kind0.1 e)
      rw [swap_NN hp hq kp kq] at h
      split at h
      · cases h
      · rename_i hc
        cases h
        rw [swap_NN hj hi kj ki, inv_common, common_comm, if_neg hc]
/-- P4.3: what undoes q, and what undoes p. -/
theorem swap_inverts (p q : Pr) : swapP (invertP q) (invertP p) = (swapP p q).map fun x => (invertP x.2, invertP x.1) := by
  cases h : swapP p q with
  | some x => exact swap_inverts_some h
  | none =>
    cases k : swapP (invertP q) (invertP p) with
    | none => rfl
    | some x =>
      have := swap_inverts_some k
      rw [invert_twice, invert_twice, h] at this
      cases this

/-- P4.1: kinds, and how many lines, are as they were; one that is no Hunk is as it was. -/
theorem swap_keeps (h : swapP p q = some (a, b)) : a.kind = q.kind ∧ a.old = q.old ∧ a.new = q.new ∧ (q.kind ≠ 0 → a = q) ∧ b.kind = p.kind ∧ b.old = p.old ∧ b.new = p.new ∧ (p.kind ≠ 0 → b = p) := by
  obtain ⟨hp, hq, ha, hb⟩ := swap_right h
  by_cases kp : p.kind = 0
  · by_cases kq : q.kind = 0
    · rw [swap_HH hp hq kp kq] at h
      rcases swapHH_cases h with ⟨_, rfl, rfl⟩ | ⟨_, _, _, rfl, rfl⟩ | ⟨_, _, _, rfl, rfl⟩ <;> simp [placed, kp, kq]
    · rw [swap_HN hp hq kp kq] at h
      obtain ⟨n, _, h1⟩ := Option.map_eq_some_iff.1 h
      cases h1
      simp [inFile, kp]
  · by_cases kq : q.kind = 0
    · rw [swap_NH hp hq kp kq] at h
      obtain ⟨n, _, h1⟩ := Option.map_eq_some_iff.1 h
      cases h1
      simp [inFile, kq]
    · rw [swap_NN hp hq kp kq] at h
      split at h
      · cases h
      · cases h; simp
end

end Go.Proofs.Ytalgapoigkbiaaa
