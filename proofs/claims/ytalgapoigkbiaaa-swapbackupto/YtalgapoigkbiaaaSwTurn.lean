/-
  Two prims in the other order, by the program's own cases, as plain values: they are the document's. Nothing of any program.
-/
import Derived.Test.YtalgapoigkbiaaaSwPlain
namespace Go.Proofs.Ytalgapoigkbiaaa
open Go.RowKit

def zeroPr : Pr := ⟨0, ByteArray.empty, ByteArray.empty, 0, [], []⟩
def noneP : Pr × Pr × Bool := (zeroPr, zeroPr, false)
def turnHH (p q : Pr) : Pr × Pr × Bool :=
  if p.name ≠ q.name then (q, p, true)
  else if q.place > p.place + p.new.length then (placed q (q.place - (p.new.length - p.old.length)), p, true)
  else if q.place + q.old.length < p.place then (q, placed p (p.place + (q.new.length - q.old.length)), true)
  else noneP
def turnHM (p q : Pr) : Pr × Pr × Bool := if p.name = q.to then noneP else if p.name = q.name then (q, inFile p q.to, true) else (q, p, true)
def turnMH (p q : Pr) : Pr × Pr × Bool := if q.name = p.name then noneP else if q.name = p.to then (inFile q p.name, p, true) else (q, p, true)
def turnP (p q : Pr) : Pr × Pr × Bool :=
  if p.kind = 0 ∧ q.kind = 0 then turnHH p q
  else if p.kind = 0 ∧ q.kind = 3 then turnHM p q
  else if p.kind = 3 ∧ q.kind = 0 then turnMH p q
  else (q, p, !commonP p q)
/-- What comes of three that were told, if both are right. -/
def heedP (r : Pr × Pr × Bool) : Option (Pr × Pr) := if r.2.2 = true ∧ rightP r.1 = true ∧ rightP r.2.1 = true then some (r.1, r.2.1) else none
theorem swapP_two (p q : Pr) (hp : rightP p = true) (hq : rightP q = true) : swapP p q = heedP (twoP p q) := by
  simp only [swapP, heedP, hp, hq, true_and]
theorem swapP_not (p q : Pr) (h : ¬ (rightP p = true ∧ rightP q = true)) : swapP p q = none := by
  unfold swapP
  rw [if_neg]
  exact fun k => h ⟨k.1, k.2.1⟩
theorem heed_none : heedP noneP = none := rfl
theorem heed_false (a b : Pr) : heedP (a, b, false) = none := by simp [heedP]

theorem swapP_turn (p q : Pr) (hp : rightP p = true) (hq : rightP q = true) : swapP p q = heedP (turnP p q) := by
  rw [swapP_two p q hp hq]
  unfold turnP twoP
  by_cases kp : p.kind = 0
  · by_cases kq : q.kind = 0
    · simp only [kp, kq, true_and, and_self, if_true, turnHH]
      by_cases e : p.name = q.name
      · simp only [e, if_true, ne_eq, not_true, if_false]
        by_cases h1 : q.place > p.place + p.new.length
        · simp only [h1, if_true]
          rw [show q.place - (p.new.length : Int) + p.old.length = q.place - ((p.new.length : Int) - p.old.length) from by omega]
        · simp only [h1, if_false]
          by_cases h2 : q.place + q.old.length < p.place
          · simp only [h2, if_true]
            rw [show p.place + (q.new.length : Int) - q.old.length = p.place + ((q.new.length : Int) - q.old.length) from by omega]
          · simp only [h2, if_false, heed_false, heed_none]
      · simp [e]
    · by_cases k3 : q.kind = 3
      · simp only [kp, k3, true_and, false_and, and_false, if_true, if_false, turnHM, Int.reduceEq]
        by_cases e : p.name = q.name
        · have hne : ¬ q.name = q.to := fun x => move_else hq k3 x.symm
          simp only [e, if_true, hne, if_false]
        · simp only [e, if_false]
          by_cases e2 : p.name = q.to
          · have : commonP p q = true := common_iff.2 ⟨p.name, mem_names.2 (.inl rfl), mem_names.2 (.inr ⟨k3, e2⟩)⟩
            simp only [this, Bool.not_true, e2, if_true, heed_false, heed_none]
          · have : commonP p q = false := common_no.2 fun n a b => by
              rw [mem_names] at a b
              simp only [kp, Int.reduceEq, false_and, or_false] at a
              subst a
              rcases b with b | b
              · exact e b
              · exact e2 b.2
            simp only [this, Bool.not_false, e2, if_false]
      · simp [kp, kq, k3]
  · by_cases kq : q.kind = 0
    · by_cases k3 : p.kind = 3
      · simp only [kq, k3, true_and, false_and, and_true, if_true, if_false, turnMH, Int.reduceEq]
        by_cases e : p.to = q.name
        · have hne : ¬ q.name = p.name := fun x => move_else hp k3 (e.trans x)
          simp only [e, if_true, hne, if_false]
        · have e' : ¬ q.name = p.to := fun x => e x.symm
          simp only [e, e', if_false]
          by_cases e2 : q.name = p.name
          · have : commonP p q = true := common_iff.2 ⟨p.name, mem_names.2 (.inl rfl), mem_names.2 (.inl e2.symm)⟩
            simp only [this, Bool.not_true, e2, if_true, heed_false, heed_none]
          · have : commonP p q = false := common_no.2 fun n a b => by
              rw [mem_names] at a b
              simp only [kq, Int.reduceEq, false_and, or_false] at b
              subst b
              rcases a with a | a
              · exact e2 a
              · exact e' a.2
            simp only [this, Bool.not_false, e2, if_false]
      · simp [kp, kq, k3]
    · simp [kp, kq]

end Go.Proofs.Ytalgapoigkbiaaa
