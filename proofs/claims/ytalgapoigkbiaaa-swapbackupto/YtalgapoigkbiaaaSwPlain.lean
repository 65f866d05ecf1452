/-
  Two prims in the other order, as plain values: when they have one, and what follows of it. Nothing of any program.
-/
import Derived.Test.YtalgapoigkbiaaaPrSize
namespace Go.Proofs.Ytalgapoigkbiaaa
open Go.RowKit

def placed (p : Pr) (k : Int) : Pr := { p with place := k }
def inFile (p : Pr) (n : ByteArray) : Pr := { p with name := n }
/-- Do two name one file? -/
def commonP (p q : Pr) : Bool := (namesP p).any fun a => (namesP q).any fun b => decide (a = b)

/-- P4.1, of two that are right. -/
def twoP (p q : Pr) : Pr × Pr × Bool :=
  if p.kind = 0 ∧ q.kind = 0 ∧ p.name = q.name then
    (if q.place > p.place + p.new.length then (placed q (q.place - p.new.length + p.old.length), p, true)
    else if q.place + q.old.length < p.place then (q, placed p (p.place + q.new.length - q.old.length), true)
    else (p, q, false))
  else if p.kind = 0 ∧ q.kind = 3 ∧ p.name = q.name then (q, inFile p q.to, true)
  else if p.kind = 3 ∧ q.kind = 0 ∧ p.to = q.name then (inFile q p.name, p, true)
  else if p.kind = 0 ∧ q.kind = 0 then (q, p, true)
  else (q, p, !commonP p q)

/-- P4.1: first and second, or none. -/
def swapP (p q : Pr) : Option (Pr × Pr) :=
  if rightP p = true ∧ rightP q = true ∧ (twoP p q).2.2 = true ∧ rightP (twoP p q).1 = true ∧ rightP (twoP p q).2.1 = true then some ((twoP p q).1, (twoP p q).2.1) else none

/-- The name behind x of a file; the name ahead of x. -/
def fwdN (x : Pr) (n : ByteArray) : Option ByteArray := if x.kind = 3 then (if n = x.name then some x.to else if n = x.to then none else some n) else if n = x.name then none else some n
def bwdN (x : Pr) (n : ByteArray) : Option ByteArray := if x.kind = 3 then (if n = x.to then some x.name else if n = x.name then none else some n) else if n = x.name then none else some n

theorem mem_names {p : Pr} {n : ByteArray} : n ∈ namesP p ↔ n = p.name ∨ p.kind = 3 ∧ n = p.to := by
  unfold namesP
  by_cases h : p.kind = 3
  · simp only [h, ne_eq, not_true, if_false, true_and]
    split
    · simp
    · simp [or_comm]
  · simp [h]
theorem common_iff {p q : Pr} : commonP p q = true ↔ ∃ n, n ∈ namesP p ∧ n ∈ namesP q := by
  simp only [commonP, List.any_eq_true, decide_eq_true_eq]
  constructor
  · rintro ⟨a, ha, b, hb, rfl⟩; exact ⟨a, ha, hb⟩
  · rintro ⟨a, ha, hb⟩; exact ⟨a, ha, a, hb, rfl⟩
theorem common_comm (p q : Pr) : commonP p q = commonP q p := by
  rw [Bool.eq_iff_iff, common_iff, common_iff]
  exact ⟨fun ⟨n, a, b⟩ => ⟨n, b, a⟩, fun ⟨n, a, b⟩ => ⟨n, b, a⟩⟩
theorem common_no {p q : Pr} : commonP p q = false ↔ ∀ n, n ∈ namesP p → n ∉ namesP q := by
  rw [← Bool.not_eq_true, common_iff]
  exact ⟨fun h n a b => h ⟨n, a, b⟩, fun h ⟨n, a, b⟩ => h n a b⟩

/-- A right Move goes elsewhere. -/
theorem move_else {x : Pr} (hr : rightP x = true) (e : x.kind = 3) : x.to ≠ x.name := ((right_parts hr).2.2.2.2.2 e).2
theorem fwd_bwd {x : Pr} (hr : rightP x = true) {n m : ByteArray} : fwdN x n = some m ↔ bwdN x m = some n := by
  unfold fwdN bwdN
  by_cases h : x.kind = 3
  · have hne := move_else hr h
    simp only [h, if_true]
    constructor
    · split
      · rintro ⟨⟩; rename_i e; subst e; simp
      · split
        · rintro ⟨⟩
        · rintro ⟨⟩; rename_i h1 h2; rw [if_neg h2, if_neg h1]
    · split
      · rintro ⟨⟩; rename_i e; subst e; simp
      · split
        · rintro ⟨⟩
        · rintro ⟨⟩; rename_i h1 h2; rw [if_neg h2, if_neg h1]
  · simp only [h, if_false]
    constructor
    · split
      · rintro ⟨⟩
      · rintro ⟨⟩; rename_i h1; rw [if_neg h1]
    · split
      · rintro ⟨⟩
      · rintro ⟨⟩; rename_i h1; rw [if_neg h1]

theorem named_fwd {x : Pr} (hr : rightP x = true) {n m : ByteArray} (hn : namedB n = true) (h : fwdN x n = some m) : namedB m = true := by
  unfold fwdN at h
  split at h
  · rename_i e
    split at h
    · cases h; exact ((right_parts hr).2.2.2.2.2 e).1
    · split at h
      · cases h
      · cases h; exact hn
  · split at h
    · cases h
    · cases h; exact hn
theorem named_bwd {x : Pr} (hr : rightP x = true) {n m : ByteArray} (hn : namedB n = true) (h : bwdN x n = some m) : namedB m = true := by
  unfold bwdN at h
  split at h
  · split at h
    · cases h; exact (right_parts hr).1
    · split at h
      · cases h
      · cases h; exact hn
  · split at h
    · cases h
    · cases h; exact hn

/-- A Hunk in another file, or at another place, is right just if the name, or the place, is. -/
theorem right_inFile {p : Pr} (h0 : p.kind = 0) (hr : rightP p = true) {n : ByteArray} (hn : namedB n = true) : rightP (inFile p n) = true := by
  simp only [rightP, inFile, h0, if_true, Bool.and_eq_true] at hr ⊢
  exact ⟨hn, hr.2⟩
theorem right_placed {p : Pr} (h0 : p.kind = 0) (hr : rightP p = true) {k : Int} (hk : 0 ≤ k) : rightP (placed p k) = decide (k ≤ 1048576) := by
  simp only [rightP, placed, h0, if_true, Bool.and_eq_true] at hr ⊢
  obtain ⟨h1, ⟨⟨⟨h2, h3⟩, h4⟩, h5⟩, h6⟩ := hr
  rw [h1, h2, h4, h5, h6]
  simp [hk]
theorem place_in {p : Pr} (hr : rightP p = true) (h0 : p.kind = 0) : 0 ≤ p.place ∧ p.place ≤ 1048576 := (right_parts hr).2.2.2.2.1 h0

section
variable {p q : Pr}
/-- Two Hunks. -/
def swapHH (p q : Pr) : Option (Pr × Pr) :=
  if p.name = q.name then
    (if q.place > p.place + p.new.length then (if q.place - p.new.length + p.old.length ≤ 1048576 then some (placed q (q.place - p.new.length + p.old.length), p) else none)
    else if q.place + q.old.length < p.place then (if p.place + q.new.length - q.old.length ≤ 1048576 then some (q, placed p (p.place + q.new.length - q.old.length)) else none)
    else none)
  else some (q, p)
theorem swap_HH (hp : rightP p = true) (hq : rightP q = true) (h : p.kind = 0) (k : q.kind = 0) : swapP p q = swapHH p q := by
  have pp := place_in hp h
  have qq := place_in hq k
  simp only [swapP, twoP, swapHH, h, k, true_and, hp, hq]
  by_cases e : p.name = q.name
  · simp only [e, if_true]
    by_cases h1 : q.place > p.place + p.new.length
    · have hk : 0 ≤ q.place - p.new.length + p.old.length := by omega
      simp only [h1, if_true, hp, right_placed k hq hk, decide_eq_true_eq, and_true, true_and]
    · simp only [h1, if_false]
      by_cases h2 : q.place + q.old.length < p.place
      · have hk : 0 ≤ p.place + q.new.length - q.old.length := by omega
        simp only [h2, if_true, hq, right_placed h hp hk, decide_eq_true_eq, true_and]
      · simp [h2]
  · simp [e, hp, hq]
/-- A Hunk, and none. -/
theorem swap_HN (hp : rightP p = true) (hq : rightP q = true) (h : p.kind = 0) (k : q.kind ≠ 0) : swapP p q = (fwdN q p.name).map fun n => (q, inFile p n) := by
  have hn := (right_parts hp).1
  simp only [swapP, twoP, h, k, true_and, false_and, and_false, if_false, hp, hq, Int.reduceEq]
  by_cases k3 : q.kind = 3
  · simp only [k3, true_and, fwdN, if_true]
    by_cases e : p.name = q.name
    · have ht := right_inFile h hp ((right_parts hq).2.2.2.2.2 k3).1
      simp [e, hq, ht]
    · simp only [e, if_false]
      by_cases e2 : p.name = q.to
      · have : commonP p q = true := common_iff.2 ⟨p.name, mem_names.2 (.inl rfl), mem_names.2 (.inr ⟨k3, e2⟩)⟩
        simp [this, e2]
      · have : commonP p q = false := common_no.2 fun n a b => by
          rw [mem_names] at a b
          simp only [h, Int.reduceEq, false_and, or_false] at a
          subst a
          rcases b with b | b
          · exact e b
          · exact e2 b.2
        simp [this, e2, hp, hq, inFile]
  · simp only [k3, false_and, if_false, fwdN]
    by_cases e : p.name = q.name
    · have : commonP p q = true := common_iff.2 ⟨p.name, mem_names.2 (.inl rfl), mem_names.2 (.inl e)⟩
      simp [this, e]
    · have : commonP p q = false := common_no.2 fun n a b => by
        rw [mem_names] at a b
        simp only [h, k3, Int.reduceEq, false_and, or_false] at a b
        exact e (a.symm.trans b)
      simp [this, e, hp, hq, inFile]
/-- None, and a Hunk. -/
theorem swap_NH (hp : rightP p = true) (hq : rightP q = true) (h : p.kind ≠ 0) (k : q.kind = 0) : swapP p q = (bwdN p q.name).map fun n => (inFile q n, p) := by
  simp only [swapP, twoP, h, k, true_and, false_and, if_false, hp, hq]
  by_cases k3 : p.kind = 3
  · simp only [k3, true_and, bwdN, if_true]
    by_cases e : p.to = q.name
    · have ht := right_inFile k hq (right_parts hp).1
      simp [e, hp, ht]
    · have e' : q.name ≠ p.to := fun x => e x.symm
      simp only [e, e', if_false]
      by_cases e2 : q.name = p.name
      · have : commonP p q = true := common_iff.2 ⟨p.name, mem_names.2 (.inl rfl), mem_names.2 (.inl e2.symm)⟩
        simp [this, e2]
      · have : commonP p q = false := common_no.2 fun n a b => by
          rw [mem_names] at a b
          simp only [k, Int.reduceEq, false_and, or_false] at b
          subst b
          rcases a with a | a
          · exact e2 a
          · exact e' a.2
        simp [this, e2, hp, hq, inFile]
  · simp only [k3, false_and, if_false, bwdN]
    by_cases e : q.name = p.name
    · have : commonP p q = true := common_iff.2 ⟨p.name, mem_names.2 (.inl rfl), mem_names.2 (.inl e.symm)⟩
      simp [this, e]
    · have : commonP p q = false := common_no.2 fun n a b => by
        rw [mem_names] at a b
        simp only [k, k3, Int.reduceEq, false_and, or_false] at a b
        exact e (b.symm.trans a)
      simp [this, e, hp, hq, inFile]
/-- No Hunk of both. -/
theorem swap_NN (hp : rightP p = true) (hq : rightP q = true) (h : p.kind ≠ 0) (k : q.kind ≠ 0) : swapP p q = if commonP p q = true then none else some (q, p) := by
  simp only [swapP, twoP, h, k, and_false, false_and, if_false, hp, hq, true_and, and_true]
  cases commonP p q <;> simp
theorem swap_right {a b : Pr} (h : swapP p q = some (a, b)) : rightP p = true ∧ rightP q = true ∧ rightP a = true ∧ rightP b = true := by
  simp only [swapP] at h
  split at h
  · rename_i hc
    cases h
    exact ⟨hc.1, hc.2.1, hc.2.2.2.1, hc.2.2.2.2⟩
  · cases h
end

end Go.Proofs.Ytalgapoigkbiaaa
