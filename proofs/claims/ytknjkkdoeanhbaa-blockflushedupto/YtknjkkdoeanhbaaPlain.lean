/-
  Rows of lines as lists: with how many lines two rows begin and end alike; the first place at which lines stand. Nothing of any program.
-/
import Derived.Below
namespace Go.Proofs.Ytknjkkdoeanhbaa
open Go.RowKit

theorem take_same {xs ys : List ByteArray} {k : Nat} (hx : k < xs.length) (hy : k < ys.length) (h : xs.take k = ys.take k) (e : xs.getD k ByteArray.empty = ys.getD k ByteArray.empty) :
    Hid (xs.take (k + 1) = ys.take (k + 1)) := by
  show _ = _
  rw [List.take_succ_eq_append_getElem hx, List.take_succ_eq_append_getElem hy, h]
  simp [List.getD, List.getElem?_eq_getElem hx, List.getElem?_eq_getElem hy] at e
  rw [e]

/-- Are both rows the same? -/
def sameB (xs ys : List ByteArray) : Bool := decide (xs = ys)
theorem sameB_yes {xs ys : List ByteArray} (h : xs = ys) : sameB xs ys = true := by simp [sameB, h]
theorem sameB_no {xs ys : List ByteArray} (h : xs ≠ ys) : sameB xs ys = false := by simp [sameB, h]
theorem sameB_self (xs : List ByteArray) : sameB xs xs = true := sameB_yes rfl
theorem eq_of_sameB {xs ys : List ByteArray} (h : sameB xs ys = true) : xs = ys := by simpa [sameB] using h
theorem beq_of_other {xs ys : List ByteArray} {k : Nat} (h : xs.getD k ByteArray.empty ≠ ys.getD k ByteArray.empty) : sameB xs ys = false :=
  sameB_no fun e => h (by rw [e])

/-- Does part stand in l from place k on? -/
def standsB (l : List ByteArray) (k : Int) (part : List ByteArray) : Bool := decide (0 ≤ k ∧ k + part.length ≤ l.length) && sameB ((l.drop k.toNat).take part.length) part

theorem standsB_out {l : List ByteArray} {k : Int} {part : List ByteArray} (h : ¬ (0 ≤ k ∧ k + part.length ≤ l.length)) : standsB l k part = false := by
  unfold standsB; rw [decide_eq_false h]; rfl
theorem standsB_in {l : List ByteArray} {k : Nat} {part : List ByteArray} (h : k + part.length ≤ l.length) : standsB l k part = sameB ((l.drop k).take part.length) part := by
  unfold standsB; rw [decide_eq_true (by omega)]; simp
/-- The lines of l with those of with_ in the place of the m lines from k on. -/
def spliced (l : List ByteArray) (k m : Nat) (with_ : List ByteArray) : List ByteArray := l.take k ++ with_ ++ l.drop (k + m)

theorem stands_eq {l part : List ByteArray} {k : Nat} (h : standsB l k part = true) : k + part.length ≤ l.length ∧ (l.drop k).take part.length = part := by
  have h1 := h
  simp only [standsB, Bool.and_eq_true, decide_eq_true_eq] at h1
  refine ⟨by omega, ?_⟩
  have := eq_of_sameB h1.2
  simpa using this
/-- What was spliced can be spliced back. -/
theorem stands_back {l old with_ : List ByteArray} {k : Nat} (h : standsB l k old = true) : standsB (spliced l k old.length with_) k with_ = true := by
  have h1 := stands_eq h
  have hk : (l.take k).length = k := by rw [List.length_take]; omega
  rw [standsB_in (by unfold spliced; rw [List.length_append, List.length_append, hk]; omega)]
  refine sameB_yes ?_
  unfold spliced
  rw [List.append_assoc, List.drop_append_of_le_length (by omega), List.drop_of_length_le (l := l.take k) (by omega), List.nil_append]
  exact List.take_left
theorem spliced_back {l old with_ : List ByteArray} {k : Nat} (h : standsB l k old = true) : spliced (spliced l k old.length with_) k with_.length old = l := by
  have h1 := stands_eq h
  have hk : (l.take k).length = k := by rw [List.length_take]; omega
  have e1 : (spliced l k old.length with_).take k = l.take k := by
    unfold spliced
    rw [List.append_assoc]
    rw [List.take_append_of_le_length (by omega), List.take_of_length_le (by omega)]
  have e2 : (spliced l k old.length with_).drop (k + with_.length) = l.drop (k + old.length) := by
    unfold spliced
    have hl : (l.take k ++ with_).length = k + with_.length := by rw [List.length_append, hk]
    rw [← hl]
    exact List.drop_left
  have e3 : l.drop k = old ++ l.drop (k + old.length) := by
    conv => lhs; rw [← List.take_append_drop old.length (l.drop k)]
    rw [h1.2, List.drop_drop]
  show (spliced l k old.length with_).take k ++ old ++ (spliced l k old.length with_).drop (k + with_.length) = l
  rw [e1, e2, List.append_assoc, ← e3, List.take_append_drop]
theorem spliced_length {l old with_ : List ByteArray} {k : Nat} (h : standsB l k old = true) : (spliced l k old.length with_).length + old.length = l.length + with_.length := by
  have h1 := stands_eq h
  unfold spliced
  rw [List.length_append, List.length_append, List.length_take, List.length_drop]; omega

/-- With how many lines do both begin alike? -/
def headN : List ByteArray → List ByteArray → Nat
  | x :: xs, y :: ys => if x = y then headN xs ys + 1 else 0
  | _, _ => 0

theorem headN_left : ∀ xs ys : List ByteArray, headN xs ys ≤ xs.length
  | [], _ => by simp [headN]
  | x :: xs, [] => by simp [headN]
  | x :: xs, y :: ys => by
    have := headN_left xs ys
    simp only [headN]; split <;> simp <;> omega
theorem headN_right : ∀ xs ys : List ByteArray, headN xs ys ≤ ys.length
  | [], _ => by simp [headN]
  | x :: xs, [] => by simp [headN]
  | x :: xs, y :: ys => by
    have := headN_right xs ys
    simp only [headN]; split <;> simp <;> omega
theorem le_headN : ∀ (k : Nat) (xs ys : List ByteArray), k ≤ xs.length → k ≤ ys.length → (xs.take k = ys.take k ↔ k ≤ headN xs ys)
  | 0, xs, ys, _, _ => by simp
  | k + 1, [], ys, h, _ => by simp at h
  | k + 1, x :: xs, [], _, h => by simp at h
  | k + 1, x :: xs, y :: ys, h1, h2 => by
    have ih := le_headN k xs ys (by simpa using h1) (by simpa using h2)
    simp only [List.take_succ_cons, List.cons.injEq, headN]
    by_cases e : x = y
    · simp only [e, true_and, if_pos]; rw [ih]; omega
    · simp [e]
theorem headN_stop {xs ys : List ByteArray} {k : Nat} (hx : k ≤ xs.length) (hy : k ≤ ys.length) (h : xs.take k = ys.take k) (hs : k = xs.length ∨ k = ys.length ∨ xs.getD k ByteArray.empty ≠ ys.getD k ByteArray.empty) : headN xs ys = k := by
  have h1 := (le_headN k xs ys hx hy).1 h
  have h2 := headN_left xs ys
  have h3 := headN_right xs ys
  rcases hs with hs | hs | hs
  · omega
  · omega
  · rcases Nat.lt_or_ge k (headN xs ys) with hlt | hge
    · have h4 := (le_headN (k + 1) xs ys (by omega) (by omega)).2 (by omega)
      rw [List.take_succ_eq_append_getElem (by omega), List.take_succ_eq_append_getElem (by omega), h] at h4
      have h5 : [xs[k]'(by omega)] = [ys[k]'(by omega)] := List.append_cancel_left h4
      exfalso; apply hs
      simp at h5
      simp [List.getD, List.getElem?_eq_getElem (show k < xs.length by omega), List.getElem?_eq_getElem (show k < ys.length by omega), h5]
    · omega

/-- With how many lines do both end alike? -/
def tailN (xs ys : List ByteArray) : Nat := headN xs.reverse ys.reverse
theorem getD_reverse {xs : List ByteArray} {k : Nat} (h : k < xs.length) : xs.reverse.getD k ByteArray.empty = xs.getD (xs.length - 1 - k) ByteArray.empty := by
  simp [List.getD, List.getElem?_reverse h]
theorem tail_same {xs ys : List ByteArray} {k : Nat} (hx : k < xs.length) (hy : k < ys.length) (h : xs.reverse.take k = ys.reverse.take k) (e : xs.getD (xs.length - 1 - k) ByteArray.empty = ys.getD (ys.length - 1 - k) ByteArray.empty) :
    Hid (xs.reverse.take (k + 1) = ys.reverse.take (k + 1)) :=
  take_same (by simpa using hx) (by simpa using hy) h (by rw [getD_reverse hx, getD_reverse hy]; exact e)
theorem tailN_stop {xs ys : List ByteArray} {k : Nat} (hx : k ≤ xs.length) (hy : k ≤ ys.length) (h : xs.reverse.take k = ys.reverse.take k)
    (hs : k = xs.length ∨ k = ys.length ∨ (k < xs.length ∧ k < ys.length ∧ xs.getD (xs.length - 1 - k) ByteArray.empty ≠ ys.getD (ys.length - 1 - k) ByteArray.empty)) : tailN xs ys = k := by
  refine headN_stop (by simpa using hx) (by simpa using hy) h ?_
  rcases hs with hs | hs | ⟨h1, h2, hs⟩
  · left; simpa using hs
  · right; left; simpa using hs
  · right; right; rw [getD_reverse h1, getD_reverse h2]; exact hs
theorem tailN_left (xs ys : List ByteArray) : tailN xs ys ≤ xs.length := by have := headN_left xs.reverse ys.reverse; simpa [tailN] using this
theorem tailN_right (xs ys : List ByteArray) : tailN xs ys ≤ ys.length := by have := headN_right xs.reverse ys.reverse; simpa [tailN] using this

theorem le_tailN {k : Nat} {xs ys : List ByteArray} (hx : k ≤ xs.length) (hy : k ≤ ys.length) : xs.drop (xs.length - k) = ys.drop (ys.length - k) ↔ k ≤ tailN xs ys := by
  unfold tailN
  rw [← le_headN k xs.reverse ys.reverse (by simpa using hx) (by simpa using hy), List.take_reverse, List.take_reverse]
  constructor
  · intro h; rw [h]
  · intro h; exact List.reverse_inj.1 h

theorem headN_next {xs ys : List ByteArray} {k : Nat} (hk : headN xs ys = k) (hx : k < xs.length) (hy : k < ys.length) : xs.getD k ByteArray.empty ≠ ys.getD k ByteArray.empty := by
  intro e
  have h1 := (le_headN k xs ys (by omega) (by omega)).2 (by omega)
  have h2 := (le_headN (k + 1) xs ys (by omega) (by omega)).1 (take_same hx hy h1 e)
  omega
theorem tailN_next {xs ys : List ByteArray} {k : Nat} (hk : tailN xs ys = k) (hx : k < xs.length) (hy : k < ys.length) : xs.getD (xs.length - 1 - k) ByteArray.empty ≠ ys.getD (ys.length - 1 - k) ByteArray.empty := by
  have := headN_next (xs := xs.reverse) (ys := ys.reverse) hk (by simpa using hx) (by simpa using hy)
  rwa [getD_reverse hx, getD_reverse hy] at this

/-- The first place, from f on, at which part stands. -/
def findO (l part : List ByteArray) (f : Int) : Option Nat := (List.range (l.length + 1)).find? fun k => decide (f ≤ (k : Int)) && standsB l k part
def findZ (l part : List ByteArray) (f : Int) : Int := match findO l part f with | some k => k | none => -1
theorem standsB_le {l part : List ByteArray} {k : Int} (h : standsB l k part = true) : 0 ≤ k ∧ k + part.length ≤ l.length := by
  simp only [standsB, Bool.and_eq_true, decide_eq_true_eq] at h; exact h.1
theorem findZ_at {l part : List ByteArray} {f : Int} {k : Nat} (hk : f ≤ k) (hs : standsB l k part = true) (hb : ∀ j : Nat, j < k → f ≤ (j : Int) → standsB l j part = false) : findZ l part f = k := by
  have hle := standsB_le hs
  have : findO l part f = some k := by
    unfold findO
    rw [List.find?_range_eq_some]
    refine ⟨by simp [hs, hk], by rw [List.mem_range]; omega, fun j hj => ?_⟩
    by_cases hf : f ≤ (j : Int)
    · simp [hb j hj hf]
    · simp [hf]
  simp [findZ, this]
theorem findZ_none {l part : List ByteArray} {f : Int} (hb : ∀ j : Nat, f ≤ (j : Int) → standsB l j part = false) : findZ l part f = -1 := by
  have : findO l part f = none := by
    unfold findO
    rw [List.find?_range_eq_none]
    intro j _
    by_cases hf : f ≤ (j : Int)
    · simp [hb j hf]
    · simp [hf]
  simp [findZ, this]
end Go.Proofs.Ytknjkkdoeanhbaa
