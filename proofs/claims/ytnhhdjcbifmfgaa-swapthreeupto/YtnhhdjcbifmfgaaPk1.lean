import Derived.WalkKit
import Derived.WalkSpells
import Derived.Deep.Draws
import Derived.Below
import Derived.Maps.AppendAt
import Derived.Laws.MakeOwn
import Derived.Test.YtnhhdjcbifmfgaaRows
import Derived.Test.YtnhhdjcbifmfgaaChecked
import Derived.ProofKit
import Derived.OpenShut
import Derived.SizedLaws
import Derived.SliceStrings
import Derived.Deep.Slices
import Derived.Deep.Fields
import Derived.ChangeSame
import Derived.Deep.DeepHandedRow
import Derived.Lib.LaidTab
import Derived.LaidSub

/-
  Rows of lines in memory: what it means that a slice reads as a list of texts, and how that is kept while memory grows.
-/
namespace Go.Proofs.Ytnhhdjcbifmfgaa
open Go.RowKit

/-- The slice at A of n elements reads as the texts ss. Of no elements nothing is asked. -/
def Row (w : World) (A : Option Addr) (n : Nat) (ss : List ByteArray) : Prop :=
  ss.length = n ∧ (0 < n → ∃ b o, A = some ⟨b, o, none⟩ ∧ ∀ j s, ss[j]? = some s → w.cell? ⟨b, o + j, none⟩ = some (.string s))

/-- Nothing that lay in memory at w has turned at w'. -/
def Later (w w' : World) : Prop := Below w.heap.size w w'

theorem Later.refl (w : World) : Later w w := Below.refl _ _
theorem Later.trans {a b c : World} (h : Later a b) (k : Later b c) : Later a c := Below.trans h (Below.mono k h.size)
theorem Later.alloc {a w : World} (h : Later a w) (o : Obj) : Later a (w.alloc o) := Below.alloc h h.size o
theorem Later.drew {a w : World} (h : Later a w) : Later a w.drew := Below.drew h
theorem Later.drewN {a w : World} (h : Later a w) (n : Nat) : Later a (w.drewN n) := ⟨h.os, h.tape, h.output, h.size, h.block⟩
theorem Later.le {a w : World} (h : Later a w) : a.heap.size ≤ w.heap.size := h.size

theorem lt_of_cell {w : World} {p : Addr} {v : Value} (h : w.cell? p = some v) : p.block < w.heap.size := by
  rcases Nat.lt_or_ge p.block w.heap.size with hlt | hge
  · exact hlt
  · simp [World.cell?, Array.getElem?_eq_none hge] at h

theorem Later.cell {w w' : World} (h : Later w w') {p : Addr} {v : Value} (hc : w.cell? p = some v) : w'.cell? p = some v :=
  (Below.cell h (lt_of_cell hc)).trans hc

/-- Only answers have been drawn. -/
def Drew (w w' : World) : Prop := ∃ q, w' = w.drewN q
theorem Drew.refl (w : World) : Drew w w := ⟨0, rfl⟩
theorem Drew.more {w w' : World} (h : Drew w w') (n : Nat) : Drew w (w'.drewN n) := by
  obtain ⟨q, rfl⟩ := h; exact ⟨q + n, World.drewN_drewN _ _ _⟩
theorem Drew.one {w w' : World} (h : Drew w w') : Drew w w'.drew := by
  obtain ⟨q, rfl⟩ := h; exact ⟨q + 1, rfl⟩
theorem Drew.later {w w' : World} (h : Drew w w') : Later w w' := by
  obtain ⟨q, rfl⟩ := h; exact (Later.refl w).drewN q

theorem later_of_drew {w w' : World} (h : ∃ q, w' = w.drewN q) : Later w w' := Drew.later h

section
variable {w w' : World} {A : Option Addr} {n : Nat} {ss : List ByteArray}

theorem Row.len (h : Row w A n ss) : ss.length = n := h.1

theorem Row.none : Row w A 0 [] := ⟨rfl, fun h => absurd h (by omega)⟩

theorem Row.later (h : Row w A n ss) (hl : Later w w') : Row w' A n ss :=
  ⟨h.1, fun hn => by
    obtain ⟨b, o, e, hc⟩ := h.2 hn
    exact ⟨b, o, e, fun j s hs => hl.cell (hc j s hs)⟩⟩

theorem Row.get (h : Row w A n ss) {k : Nat} (hk : k < n) :
    ∃ b o, A = some ⟨b, o, .none⟩ ∧ w.cell? ⟨b, o + k, .none⟩ = some (.string (ss.getD k ByteArray.empty)) := by
  obtain ⟨b, o, e, hc⟩ := h.2 (by omega)
  have hl : k < ss.length := by rw [h.1]; exact hk
  refine ⟨b, o, e, ?_⟩
  rw [hc k ss[k] (List.getElem?_eq_getElem hl)]
  simp [List.getD, List.getElem?_eq_getElem hl]

/-- The addresses of a row, whatever its length, as one place from which all cells are read. -/
theorem Row.open_ (h : Row w A n ss) (hn : 0 < n) :
    ∃ b o, A = some ⟨b, o, .none⟩ ∧ ∀ j, j < ss.length → w.cell? ⟨b, o + j, .none⟩ = some (.string (ss.getD j ByteArray.empty)) := by
  obtain ⟨b, o, e, hc⟩ := h.2 hn
  refine ⟨b, o, e, fun j hj => ?_⟩
  rw [hc j ss[j] (List.getElem?_eq_getElem hj)]
  simp [List.getD, List.getElem?_eq_getElem hj]

/-- The first t elements. -/
theorem Row.take (h : Row w A n ss) {t : Nat} (ht : t ≤ n) : Row w A t (ss.take t) := by
  refine ⟨by rw [List.length_take, h.1]; omega, fun hn => ?_⟩
  obtain ⟨b, o, rfl, hc⟩ := h.2 (by omega)
  refine ⟨b, o, rfl, fun j s hs => ?_⟩
  rw [List.getElem?_take] at hs
  split at hs
  · exact hc _ s hs
  · cases hs

/-- All from place f on, f not behind the last. -/
theorem Row.drop (h : Row w A n ss) {f : Nat} (hf : f < n) : Row w (A.map (·.add f)) (n - f) (ss.drop f) := by
  refine ⟨by rw [List.length_drop, h.1], fun hn => ?_⟩
  obtain ⟨b, o, rfl, hc⟩ := h.2 (by omega)
  refine ⟨b, o + f, ?_, fun j s hs => ?_⟩
  · simp only [Option.map_some, Addr.add]
    by_cases hf : f = 0 <;> simp [hf]
  · rw [List.getElem?_drop] at hs
    rw [Nat.add_assoc]
    exact hc _ s hs

theorem Row.cut (h : Row w A n ss) {f c : Nat} (hf : f ≤ n) (hc : n ≤ c) : Row w (if c = f then A else A.map (·.add f)) (n - f) (ss.drop f) := by
  by_cases e : f = n
  · subst e
    rw [List.drop_of_length_le (by rw [h.1]; omega), Nat.sub_self]
    exact Row.none
  · rw [if_neg (by omega)]
    exact h.drop (by omega)

/-- A piece of a row: from f up to t, the room ending at m. -/
theorem Row.piece (h : Row w A n ss) {f t m : Nat} (hft : f ≤ t) (ht : t ≤ n) (hm : t ≤ m) :
    Row w (if m = f then A else A.map (·.add (f * 1))) (t - f) ((ss.drop f).take (t - f)) := by
  refine ⟨by rw [List.length_take, List.length_drop, h.1]; omega, fun hn => ?_⟩
  obtain ⟨b, o, rfl, hc⟩ := h.2 (by omega)
  rw [if_neg (by omega)]
  refine ⟨b, o + f, ?_, fun j s hs => ?_⟩
  · simp only [Option.map_some, Nat.mul_one, Addr.add]
    by_cases hf : f = 0 <;> simp [hf]
  · rw [List.getElem?_take] at hs
    split at hs
    · rw [List.getElem?_drop] at hs
      rw [Nat.add_assoc]
      exact hc _ s hs
    · cases hs
end

/-- Texts are told apart by their bytes. -/
theorem text_ne {x y : ByteArray} (h : x ≠ y) : (x.toList == y.toList) = false := by
  rw [beq_eq_false_iff_ne]
  intro e
  rw [ByteArray.toList_eq, ByteArray.toList_eq] at e
  exact h (ByteArray.ext (Array.ext' e))
theorem text_beq (x y : ByteArray) : (x.toList == y.toList) = decide (x = y) := by
  by_cases h : x = y
  · subst h; simp
  · rw [text_ne h]; simp [h]

theorem ret_bool {a b : Bool} (h : a = b) : Ending.returned (.bool a) = .returned (.bool b) := by rw [h]
theorem ret_int {a b : Int} (h : a = b) : Ending.returned (.int .i64 a) = .returned (.int .i64 b) := by rw [h]

/-- The byte at a place, as the walk tells it and as the list has it. -/
theorem byte_at {s : ByteArray} {k : Nat} (h : k < s.size) : s.data.toList[k]? = some s[k] := by
  rw [List.getElem?_eq_getElem (by simpa using h)]; rfl
theorem byte_is {c : UInt8} (h : ((c.toNat : Int) == 10) = true) : c = 10 := by
  have : c.toNat = 10 := by simp at h; omega
  exact UInt8.toNat.inj this
theorem byte_isnt {c : UInt8} (h : ((c.toNat : Int) == 10) = false) : c ≠ 10 := by
  rintro rfl; simp at h
end Go.Proofs.Ytnhhdjcbifmfgaa

/-
  Rows of lines as lists: with how many lines two rows begin and end alike; the first place at which lines stand. Nothing of any program.
-/
namespace Go.Proofs.Ytnhhdjcbifmfgaa
open Go.RowKit

theorem take_same {xs ys : List ByteArray} {k : Nat} (hx : k < xs.length) (hy : k < ys.length) (h : xs.take k = ys.take k) (e : xs.getD k ByteArray.empty = ys.getD k ByteArray.empty) :
    Hid (xs.take (k + 1) = ys.take (k + 1)) := by
  show _ = _
  rw [List.take_succ_eq_append_getElem hx, List.take_succ_eq_append_getElem hy, h]
  simp [List.getD, List.getElem?_eq_getElem hx, List.getElem?_eq_getElem hy] at e
  rw [e]

/-- Are both rows the same? -/
def sameB (xs ys : List ByteArray) : Bool := decide (xs = ys)
theorem sameB_yes {xs ys : List ByteArray} (h : xs = ys) : sameB xs ys = true := by simp [sameB, h]
theorem sameB_no {xs ys : List ByteArray} (h : xs ≠ ys) : sameB xs ys = false := by simp [sameB, h]
theorem sameB_self (xs : List ByteArray) : sameB xs xs = true := sameB_yes rfl
theorem eq_of_sameB {xs ys : List ByteArray} (h : sameB xs ys = true) : xs = ys := by simpa [sameB] using h
theorem beq_of_other {xs ys : List ByteArray} {k : Nat} (h : xs.getD k ByteArray.empty ≠ ys.getD k ByteArray.empty) : sameB xs ys = false :=
  sameB_no fun e => h (by rw [e])

/-- Does part stand in l from place k on? -/
def standsB (l : List ByteArray) (k : Int) (part : List ByteArray) : Bool := decide (0 ≤ k ∧ k + part.length ≤ l.length) && sameB ((l.drop k.toNat).take part.length) part

theorem standsB_out {l : List ByteArray} {k : Int} {part : List ByteArray} (h : ¬ (0 ≤ k ∧ k + part.length ≤ l.length)) : standsB l k part = false := by
  unfold standsB; rw [decide_eq_false h]; rfl
theorem standsB_in {l : List ByteArray} {k : Nat} {part : List ByteArray} (h : k + part.length ≤ l.length) : standsB l k part = sameB ((l.drop k).take part.length) part := by
  unfold standsB; rw [decide_eq_true (by omega)]; simp
/-- The lines of l with those of with_ in the place of the m lines from k on. -/
def spliced (l : List ByteArray) (k m : Nat) (with_ : List ByteArray) : List ByteArray := l.take k ++ with_ ++ l.drop (k + m)

theorem stands_eq {l part : List ByteArray} {k : Nat} (h : standsB l k part = true) : k + part.length ≤ l.length ∧ (l.drop k).take part.length = part := by
  have h1 := h
  simp only [standsB, Bool.and_eq_true, decide_eq_true_eq] at h1
  refine ⟨by omega, ?_⟩
  have := eq_of_sameB h1.2
  simpa using this
/-- What was spliced can be spliced back. -/
theorem stands_back {l old with_ : List ByteArray} {k : Nat} (h : standsB l k old = true) : standsB (spliced l k old.length with_) k with_ = true := by
  have h1 := stands_eq h
  have hk : (l.take k).length = k := by rw [List.length_take]; omega
  rw [standsB_in (by unfold spliced; rw [List.length_append, List.length_append, hk]; omega)]
  refine sameB_yes ?_
  unfold spliced
  rw [List.append_assoc, List.drop_append_of_le_length (by omega), List.drop_of_length_le (l := l.take k) (by omega), List.nil_append]
  exact List.take_left
theorem spliced_back {l old with_ : List ByteArray} {k : Nat} (h : standsB l k old = true) : spliced (spliced l k old.length with_) k with_.length old = l := by
  have h1 := stands_eq h
  have hk : (l.take k).length = k := by rw [List.length_take]; omega
  have e1 : (spliced l k old.length with_).take k = l.take k := by
    unfold spliced
    rw [List.append_assoc]
    rw [List.take_append_of_le_length (by omega), List.take_of_length_le (by omega)]
  have e2 : (spliced l k old.length with_).drop (k + with_.length) = l.drop (k + old.length) := by
    unfold spliced
    have hl : (l.take k ++ with_).length = k + with_.length := by rw [List.length_append, hk]
    rw [← hl]
    exact List.drop_left
  have e3 : l.drop k = old ++ l.drop (k + old.length) := by
    conv => lhs; rw [← List.take_append_drop old.length (l.drop k)]
    rw [h1.2, List.drop_drop]
  show (spliced l k old.length with_).take k ++ old ++ (spliced l k old.length with_).drop (k + with_.length) = l
  rw [e1, e2, List.append_assoc, ← e3, List.take_append_drop]
theorem spliced_length {l old with_ : List ByteArray} {k : Nat} (h : standsB l k old = true) : (spliced l k old.length with_).length + old.length = l.length + with_.length := by
  have h1 := stands_eq h
  unfold spliced
  rw [List.length_append, List.length_append, List.length_take, List.length_drop]; omega

/-- With how many lines do both begin alike? -/
def headN : List ByteArray → List ByteArray → Nat
  | x :: xs, y :: ys => if x = y then headN xs ys + 1 else 0
  | _, _ => 0

theorem headN_left : ∀ xs ys : List ByteArray, headN xs ys ≤ xs.length
  | [], _ => by simp [headN]
  | x :: xs, [] => by simp [headN]
  | x :: xs, y :: ys => by
    have := headN_left xs ys
    simp only [headN]; split <;> simp <;> omega
theorem headN_right : ∀ xs ys : List ByteArray, headN xs ys ≤ ys.length
  | [], _ => by simp [headN]
  | x :: xs, [] => by simp [headN]
  | x :: xs, y :: ys => by
    have := headN_right xs ys
    simp only [headN]; split <;> simp <;> omega
theorem le_headN : ∀ (k : Nat) (xs ys : List ByteArray), k ≤ xs.length → k ≤ ys.length → (xs.take k = ys.take k ↔ k ≤ headN xs ys)
  | 0, xs, ys, _, _ => by simp
  | k + 1, [], ys, h, _ => by simp at h
  | k + 1, x :: xs, [], _, h => by simp at h
  | k + 1, x :: xs, y :: ys, h1, h2 => by
    have ih := le_headN k xs ys (by simpa using h1) (by simpa using h2)
    simp only [List.take_succ_cons, List.cons.injEq, headN]
    by_cases e : x = y
    · simp only [e, true_and, if_pos]; rw [ih]; omega
    · simp [e]
theorem headN_stop {xs ys : List ByteArray} {k : Nat} (hx : k ≤ xs.length) (hy : k ≤ ys.length) (h : xs.take k = ys.take k) (hs : k = xs.length ∨ k = ys.length ∨ xs.getD k ByteArray.empty ≠ ys.getD k ByteArray.empty) : headN xs ys = k := by
  have h1 := (le_headN k xs ys hx hy).1 h
  have h2 := headN_left xs ys
  have h3 := headN_right xs ys
  rcases hs with hs | hs | hs
  · omega
  · omega
  · rcases Nat.lt_or_ge k (headN xs ys) with hlt | hge
    · have h4 := (le_headN (k + 1) xs ys (by omega) (by omega)).2 (by omega)
      rw [List.take_succ_eq_append_getElem (by omega), List.take_succ_eq_append_getElem (by omega), h] at h4
      have h5 : [xs[k]'(by omega)] = [ys[k]'(by omega)] := List.append_cancel_left h4
      exfalso; apply hs
      simp at h5
      simp [List.getD, List.getElem?_eq_getElem (show k < xs.length by omega), List.getElem?_eq_getElem (show k < ys.length by omega), h5]
    · omega

/-- With how many lines do both end alike? -/
def tailN (xs ys : List ByteArray) : Nat := headN xs.reverse ys.reverse
theorem getD_reverse {xs : List ByteArray} {k : Nat} (h : k < xs.length) : xs.reverse.getD k ByteArray.empty = xs.getD (xs.length - 1 - k) ByteArray.empty := by
  simp [List.getD, List.getElem?_reverse h]
theorem tail_same {xs ys : List ByteArray} {k : Nat} (hx : k < xs.length) (hy : k < ys.length) (h : xs.reverse.take k = ys.reverse.take k) (e : xs.getD (xs.length - 1 - k) ByteArray.empty = ys.getD (ys.length - 1 - k) ByteArray.empty) :
    Hid (xs.reverse.take (k + 1) = ys.reverse.take (k + 1)) :=
  take_same (by simpa using hx) (by simpa using hy) h (by rw [getD_reverse hx, getD_reverse hy]; exact e)
theorem tailN_stop {xs ys : List ByteArray} {k : Nat} (hx : k ≤ xs.length) (hy : k ≤ ys.length) (h : xs.reverse.take k = ys.reverse.take k)
    (hs : k = xs.length ∨ k = ys.length ∨ (k < xs.length ∧ k < ys.length ∧ xs.getD (xs.length - 1 - k) ByteArray.empty ≠ ys.getD (ys.length - 1 - k) ByteArray.empty)) : tailN xs ys = k := by
  refine headN_stop (by simpa using hx) (by simpa using hy) h ?_
  rcases hs with hs | hs | ⟨h1, h2, hs⟩
  · left; simpa using hs
  · right; left; simpa using hs
  · right; right; rw [getD_reverse h1, getD_reverse h2]; exact hs
theorem tailN_left (xs ys : List ByteArray) : tailN xs ys ≤ xs.length := by have := headN_left xs.reverse ys.reverse; simpa [tailN] using this
theorem tailN_right (xs ys : List ByteArray) : tailN xs ys ≤ ys.length := by have := headN_right xs.reverse ys.reverse; simpa [tailN] using this

theorem le_tailN {k : Nat} {xs ys : List ByteArray} (hx : k ≤ xs.length) (hy : k ≤ ys.length) : xs.drop (xs.length - k) = ys.drop (ys.length - k) ↔ k ≤ tailN xs ys := by
  unfold tailN
  rw [← le_headN k xs.reverse ys.reverse (by simpa using hx) (by simpa using hy), List.take_reverse, List.take_reverse]
  constructor
  · intro h; rw [h]
  · intro h; exact List.reverse_inj.1 h

theorem headN_next {xs ys : List ByteArray} {k : Nat} (hk : headN xs ys = k) (hx : k < xs.length) (hy : k < ys.length) : xs.getD k ByteArray.empty ≠ ys.getD k ByteArray.empty := by
  intro e
  have h1 := (le_headN k xs ys (by omega) (by omega)).2 (by omega)
  have h2 := (le_headN (k + 1) xs ys (by omega) (by omega)).1 (take_same hx hy h1 e)
  omega
theorem tailN_next {xs ys : List ByteArray} {k : Nat} (hk : tailN xs ys = k) (hx : k < xs.length) (hy : k < ys.length) : xs.getD (xs.length - 1 - k) ByteArray.empty ≠ ys.getD (ys.length - 1 - k) ByteArray.empty := by
  have := headN_next (xs := xs.reverse) (ys := ys.reverse) hk (by simpa using hx) (by simpa using hy)
  rwa [getD_reverse hx, getD_reverse hy] at this

/-- The first place, from f on, at which part stands. -/
def findO (l part : List ByteArray) (f : Int) : Option Nat := (List.range (l.length + 1)).find? fun k => decide (f ≤ (k : Int)) && standsB l k part
def findZ (l part : List ByteArray) (f : Int) : Int := match findO l part f with | some k => k | none => -1
theorem standsB_le {l part : List ByteArray} {k : Int} (h : standsB l k part = true) : 0 ≤ k ∧ k + part.length ≤ l.length := by
  simp only [standsB, Bool.and_eq_true, decide_eq_true_eq] at h; exact h.1
theorem findZ_at {l part : List ByteArray} {f : Int} {k : Nat} (hk : f ≤ k) (hs : standsB l k part = true) (hb : ∀ j : Nat, j < k → f ≤ (j : Int) → standsB l j part = false) : findZ l part f = k := by
  have hle := standsB_le hs
  have : findO l part f = some k := by
    unfold findO
    rw [List.find?_range_eq_some]
    refine ⟨by simp [hs, hk], by rw [List.mem_range]; omega, fun j hj => ?_⟩
    by_cases hf : f ≤ (j : Int)
    · simp [hb j hj hf]
    · simp [hf]
  simp [findZ, this]
theorem findZ_none {l part : List ByteArray} {f : Int} (hb : ∀ j : Nat, f ≤ (j : Int) → standsB l j part = false) : findZ l part f = -1 := by
  have : findO l part f = none := by
    unfold findO
    rw [List.find?_range_eq_none]
    intro j _
    by_cases hf : f ≤ (j : Int)
    · simp [hb j hf]
    · simp [hf]
  simp [findZ, this]
end Go.Proofs.Ytnhhdjcbifmfgaa

/-
  The lines of a text, and the text of lines, as lists of bytes. Nothing of any program.
-/
namespace Go.Proofs.Ytnhhdjcbifmfgaa

def bytes (s : ByteArray) : List UInt8 := s.data.toList
def txt (l : List UInt8) : ByteArray := ⟨l.toArray⟩
theorem txt_bytes (s : ByteArray) : txt (bytes s) = s := by unfold txt bytes; simp
theorem bytes_txt (l : List UInt8) : bytes (txt l) = l := by unfold txt bytes; simp
theorem bytes_length (s : ByteArray) : (bytes s).length = s.size := by unfold bytes; simp
theorem txt_size (l : List UInt8) : (txt l).size = l.length := by unfold txt; simp [ByteArray.size]
theorem txt_inj {a b : List UInt8} (h : txt a = txt b) : a = b := by rw [← bytes_txt a, h, bytes_txt]
theorem extract_txt (s : ByteArray) (a b : Nat) : s.extract a b = txt (((bytes s).drop a).take (b - a)) := by
  have h := txt_bytes (s.extract a b)
  rw [← h]
  congr 1
  unfold bytes
  rw [ByteArray.data_extract, Array.toList_extract, List.extract_eq_take_drop]

/-- The lines of bytes, cur being what has been read of the line at hand. -/
def cutGo : List UInt8 → List UInt8 → List (List UInt8)
  | cur, [] => if cur = [] then [] else [cur]
  | cur, c :: r => if c = 10 then cur :: cutGo [] r else cutGo (cur ++ [c]) r
/-- The lines of a text. -/
def lines (s : ByteArray) : List ByteArray := (cutGo [] (bytes s)).map txt

theorem cutGo_at : ∀ (i : Nat) (cur l : List UInt8), l[i]? = some 10 → (∀ k, k < i → l[k]? ≠ some 10) → cutGo cur l = (cur ++ l.take i) :: cutGo [] (l.drop (i + 1))
  | _, _, [], h, _ => by simp at h
  | 0, cur, c :: r, h, _ => by
    simp at h
    subst h
    simp [cutGo]
  | i + 1, cur, c :: r, h, hno => by
    have hc : c ≠ 10 := by
      have := hno 0 (by omega)
      simpa using this
    have ih := cutGo_at i (cur ++ [c]) r (by simpa using h) (fun k hk => by
      have := hno (k + 1) (by omega)
      simpa using this)
    simp only [cutGo, if_neg hc, ih, List.take_succ_cons, List.drop_succ_cons]
    simp
theorem cutGo_none : ∀ (cur l : List UInt8), (∀ k : Nat, l[k]? ≠ some 10) → cutGo cur l = if cur ++ l = [] then [] else [cur ++ l]
  | cur, [], _ => by simp [cutGo]
  | cur, c :: r, hno => by
    have hc : c ≠ 10 := by
      have := hno 0
      simpa using this
    have ih := cutGo_none (cur ++ [c]) r (fun k => by
      have := hno (k + 1)
      simpa using this)
    simp only [cutGo, if_neg hc, ih]
    simp
theorem cutGo_length : ∀ (cur l : List UInt8), (cutGo cur l).length ≤ cur.length + l.length
  | cur, [] => by
    simp only [cutGo]
    by_cases h : cur = []
    · simp [h]
    · have : 0 < cur.length := List.length_pos_iff.2 h
      simp [h]; omega
  | cur, c :: r => by
    simp only [cutGo]
    split
    · have := cutGo_length [] r; simp at this ⊢; omega
    · have := cutGo_length (cur ++ [c]) r; simp at this ⊢; omega
theorem lines_length (s : ByteArray) : (lines s).length ≤ s.size := by
  have := cutGo_length [] (bytes s)
  simp only [lines, List.length_map]
  rw [bytes_length] at this
  simpa using this

theorem lines_at {s : ByteArray} {i : Nat} (h : (bytes s)[i]? = some 10) (hno : ∀ k, k < i → (bytes s)[k]? ≠ some 10) : lines s = s.extract 0 i :: lines (s.extract (i + 1) s.size) := by
  have hi : i < s.size := by
    rw [← bytes_length]
    rcases Nat.lt_or_ge i (bytes s).length with h' | h'
    · exact h'
    · rw [List.getElem?_eq_none h'] at h; cases h
  unfold lines
  rw [cutGo_at i [] (bytes s) h hno, extract_txt, extract_txt, bytes_txt, List.map_cons]
  simp only [List.nil_append, List.drop_zero, Nat.sub_zero]
  rw [List.take_of_length_le (l := (bytes s).drop (i + 1)) (by rw [List.length_drop, bytes_length]; omega)]
theorem lines_none {s : ByteArray} (h0 : s.size ≠ 0) (hno : ∀ k : Nat, (bytes s)[k]? ≠ some 10) : lines s = [s] := by
  have hne : bytes s ≠ [] := by
    intro e
    have := bytes_length s
    rw [e] at this; simp at this; omega
  unfold lines
  rw [cutGo_none [] (bytes s) hno]
  simp [hne, txt_bytes]
theorem lines_empty {s : ByteArray} (h0 : s.size = 0) : lines s = [] := by
  have hne : bytes s = [] := List.eq_nil_of_length_eq_zero (by rw [bytes_length]; exact h0)
  simp [lines, hne, cutGo]

/-- The text of lines. -/
def textL (l : List ByteArray) : List UInt8 := l.flatMap fun s => bytes s ++ [10]
theorem textL_snoc (l : List ByteArray) (s : ByteArray) : textL (l ++ [s]) = textL l ++ bytes s ++ [10] := by simp [textL]

/-- The text of the lines of a text is that, with a byte 10 at its end. -/
theorem flat_cutGo : ∀ (cur l : List UInt8), (cutGo cur l).flatMap (fun x => x ++ [10]) = cur ++ l ++ (if cur ++ l = [] ∨ (cur ++ l).getLast? = some 10 ∧ l ≠ [] then [] else [10])
  | cur, [] => by
    by_cases h : cur = [] <;> simp [cutGo, h]
  | cur, c :: r => by
    simp only [cutGo]
    split
    · rename_i hc
      subst hc
      rw [List.flatMap_cons, flat_cutGo [] r]
      by_cases hr : r = []
      · simp [hr]
      · simp [hr, List.getLast?_append, List.getLast?_cons]
        cases hl : r.getLast? with
        | none => exact absurd (List.getLast?_eq_none_iff.1 hl) hr
        | some x => simp
    · rename_i hc
      rw [flat_cutGo (cur ++ [c]) r]
      by_cases hr : r = []
      · simp [hr, hc]
      · simp [hr, List.append_assoc]

/-- The text with a byte 10 at its end, if it has any byte. -/
def ended (s : ByteArray) : List UInt8 := bytes s ++ (if bytes s = [] ∨ (bytes s).getLast? = some 10 then [] else [10])
theorem textL_lines (s : ByteArray) : textL (lines s) = ended s := by
  have h := flat_cutGo [] (bytes s)
  simp only [List.nil_append] at h
  have h2 : textL (lines s) = (cutGo [] (bytes s)).flatMap (fun x => x ++ [10]) := by
    simp only [textL, lines, List.flatMap_map, bytes_txt]
  rw [h2, h]
  unfold ended
  by_cases h0 : bytes s = [] <;> simp [h0]
theorem ended_length (s : ByteArray) : (ended s).length ≤ s.size + 1 := by
  unfold ended
  rw [List.length_append, bytes_length]
  split <;> simp

/-- The lines of the text of lines are these, if none has a byte 10. -/
theorem cutGo_line : ∀ (x cur r : List UInt8), (∀ c ∈ x, c ≠ 10) → cutGo cur (x ++ 10 :: r) = (cur ++ x) :: cutGo [] r
  | [], cur, r, _ => by simp [cutGo]
  | c :: x, cur, r, h => by
    have hc : c ≠ 10 := h c (by simp)
    have ih := cutGo_line x (cur ++ [c]) r (fun d hd => h d (by simp [hd]))
    simp only [List.cons_append, cutGo, if_neg hc, ih]
    simp
theorem lines_textL : ∀ (l : List ByteArray), (∀ s ∈ l, ∀ c ∈ bytes s, c ≠ 10) → lines (txt (textL l)) = l
  | [], _ => by simp [lines, textL, bytes_txt, cutGo]
  | s :: l, h => by
    have ih := lines_textL l (fun t ht => h t (by simp [ht]))
    unfold lines at ih ⊢
    rw [bytes_txt] at ih ⊢
    rw [show textL (s :: l) = bytes s ++ 10 :: textL l from by simp [textL], cutGo_line (bytes s) [] _ (h s (by simp)), List.map_cons, ih]
    simp [txt_bytes]

/-- How many lines a text has. -/
theorem cutGo_count : ∀ (cur l : List UInt8), (cutGo cur l).length = l.count 10 + (if cur ++ l = [] ∨ (cur ++ l).getLast? = some 10 ∧ l ≠ [] then 0 else 1)
  | cur, [] => by by_cases h : cur = [] <;> simp [cutGo, h]
  | cur, c :: r => by
    simp only [cutGo]
    split
    · rename_i hc
      subst hc
      rw [List.length_cons, cutGo_count [] r]
      by_cases hr : r = []
      · simp [hr]
      · simp [hr, List.getLast?_append, List.getLast?_cons]
        cases hl : r.getLast? with
        | none => exact absurd (List.getLast?_eq_none_iff.1 hl) hr
        | some x => simp; omega
    · rename_i hc
      rw [cutGo_count (cur ++ [c]) r, List.count_cons]
      by_cases hr : r = []
      · simp [hr, hc]
      · simp [hr, hc, List.append_assoc]
theorem lines_count (s : ByteArray) : (lines s).length = (bytes s).count 10 + (if bytes s = [] ∨ (bytes s).getLast? = some 10 then 0 else 1) := by
  have h := cutGo_count [] (bytes s)
  simp only [List.nil_append] at h
  simp only [lines, List.length_map, h]
  by_cases h0 : bytes s = [] <;> simp [h0]
end Go.Proofs.Ytnhhdjcbifmfgaa

/-
  Rows of lines that a call makes itself: what it owns, how it grows by append, and how it reads behind that.
-/
namespace Go.Proofs.Ytnhhdjcbifmfgaa
open Go.RowKit

theorem plain_add (b o j : Nat) : (⟨b, o, none⟩ : Addr).add j = ⟨b, o + j, none⟩ := by
  unfold Addr.add
  by_cases h : j = 0 <;> simp [h]

/-- The value v is a row of the call's own (what it made since w0) and holds the lines ss; of what lay there at w0 nothing has turned. -/
def Own (e : TypeId) (w0 w : World) (v : Value) (ss : List ByteArray) : Prop :=
  w.ownsRow w0.heap.size e 1 v ss.length (ss.map Value.string) ∧ Later w0 w

section
variable {e : TypeId} {w0 w : World} {v : Value} {ss : List ByteArray}

theorem Own.later (h : Own e w0 w v ss) : Later w0 w := h.2
theorem Own.nil (h : Later w0 w) : Own e w0 w (.slice none 0 0) [] := ⟨World.ownsRow_nil _ _ _ _, h⟩
theorem Own.alloc (h : Own e w0 w v ss) (o : Obj) : Own e w0 (w.alloc o) v ss := ⟨h.1.alloc o, h.2.alloc o⟩
theorem Own.drew (h : Own e w0 w v ss) : Own e w0 w.drew v ss := ⟨h.1, h.2.drew⟩
theorem Own.drewN (h : Own e w0 w v ss) (n : Nat) : Own e w0 (w.drewN n) v ss := ⟨h.1, h.2.drewN n⟩

/-- A new row without room. -/
theorem Own.empty (h : Later w0 w) : Own e w0 (w.alloc (.cells #[] e)) (.slice (some ⟨w.heap.size, 0, none⟩) 0 0) [] :=
  ⟨World.ownsRow_made w #[] 0 h.size (Nat.zero_le _) rfl, h.alloc _⟩

/-- What is owned reads as it holds. -/
theorem Own.row (h : Own e w0 w v ss) : ∃ A c, v = .slice A ss.length c ∧ ss.length ≤ c ∧ Row w A ss.length ss := by
  rcases h.1.2 with ⟨hv, h0⟩ | ⟨g, cap, cur, hv, hg, hh, hnc, hm, hs, ht⟩
  · have : ss = [] := List.eq_nil_of_length_eq_zero h0
    subst this
    exact ⟨none, 0, hv, Nat.le_refl _, Row.none⟩
  · refine ⟨some ⟨g, 0, none⟩, cap, hv, hnc, rfl, fun _ => ⟨g, 0, rfl, fun j s hj => ?_⟩⟩
    have hc := h.1.cells (g := g) (by rw [hv]; rfl) j (.string s) (by rw [List.getElem?_map, hj]; rfl)
    rw [plain_add] at hc
    exact hc

/-- The row of an own value lies behind all that was there. -/
theorem Own.block (h : Own e w0 w v ss) : ∀ k, v.ownBlock = some k → w0.heap.size ≤ k := fun k hk => (h.1.lt k hk).1

theorem oneCells (ss : List ByteArray) : ∀ u ∈ ss.map Value.string, u.oneCell' = true := by
  intro u hu
  obtain ⟨s, _, rfl⟩ := List.mem_map.1 hu
  rfl
end

section
variable {P : Program} {w0 w : World} {e : TypeId} {v : Value} {olds : List ByteArray}

theorem run_append_row (t ty : TypeId) (i : TypeInfo) (ht : P.underlying t = some (.slice e)) (hi : P.info? e = some i) (hz : i.zero = some (.string ByteArray.empty)) (hsize : i.size = 1) (hby : i.bytes = 16)
    (hown : Own e w0 w v olds) (A : Option Addr) (m c : Nat) (news : List ByteArray) (hr : Row w A m news) (hb : olds.length + m ≤ 1000000) :
    ∃ v' w', (Builtin.append_ #[t, t] ty #[v, .slice A m c]).run P w = .ok v' w' ∧ Own e w0 w' v' (olds ++ news) ∧ w.grownBy w' v.ownBlock := by
  have hl := hr.len
  rcases Nat.eq_zero_or_pos m with h0 | h0
  · subst h0
    have hn : news = [] := List.eq_nil_of_length_eq_zero hl
    subst hn
    rw [List.append_nil]
    rcases A with _ | ad
    · refine ⟨v, w, ?_, hown, ⟨rfl, rfl, rfl, Nat.le_refl _, fun _ _ _ => rfl⟩⟩
      rcases hown.1.2 with ⟨rfl, _⟩ | ⟨g, cap, cur, rfl, _, _, hnc, _⟩
      · simp [Builtin.append_, run_underlying ht, sizeOf, typeInfo, hi, Builtin.lenOf, Builtin.firstCells]
      · simp [Builtin.append_, run_underlying ht, sizeOf, typeInfo, hi, Builtin.lenOf, Builtin.firstCells, hnc, storeCells]
    · obtain ⟨v', w', hrun, h2, h3, _, _⟩ := run_append_own_at (P := P) w w0.heap.size t ty e i _ 1 16 ht hi hz hsize hby rfl (by omega) v olds.length (olds.map Value.string) hown.1 ad 0 c [] rfl
        (fun j u hu => by simp at hu) (fun u hu => by simp at hu) (by simp only [maxLen]; omega) (by omega) hown.2.size
      refine ⟨v', w', hrun, ⟨by simpa using h2, Below.grown hown.2 h3 hown.2.size hown.block⟩, h3⟩
  · obtain ⟨b, o, rfl, hc⟩ := hr.2 h0
    obtain ⟨v', w', hrun, h2, h3, _, _⟩ := run_append_own_at (P := P) w w0.heap.size t ty e i _ 1 16 ht hi hz hsize hby rfl (by omega) v olds.length (olds.map Value.string) hown.1 ⟨b, o, none⟩ m c (news.map Value.string)
      (by rw [List.length_map]; omega)
      (fun j u hu => by
        rw [List.getElem?_map] at hu
        obtain ⟨s, hs, rfl⟩ := Option.map_eq_some_iff.1 hu
        rw [plain_add]
        exact hc j s hs)
      (oneCells news) (by simp only [maxLen]; omega) (by omega) hown.2.size
    refine ⟨v', w', hrun, ⟨?_, Below.grown hown.2 h3 hown.2.size hown.block⟩, h3⟩
    rw [List.length_append, List.map_append, hl]
    exact h2

/-- append onto a row of the call's own, whatever the source. -/
theorem wpList_append_row {ops : Array Oper} {rest : List Oper} {o : Oper} {a : Act} {Q : Exit → Act → World → Prop} (hgd : o.guard = none) (s x : Operand) (t : TypeId)
    (ho : o.op = .call { callee := .builtin .append, args := #[s, x], argTypes := #[t, t] }) (i : TypeInfo)
    (ht : P.underlying t = some (.slice e)) (hi : P.info? e = some i) (hz : i.zero = some (.string ByteArray.empty)) (hsize : i.size = 1) (hby : i.bytes = 16)
    (hown : Own e w0 w v olds) (hs : a.eval s = v) (A : Option Addr) (m c : Nat) (news : List ByteArray) (hx : a.eval x = .slice A m c) (hr : Row w A m news) (hb : olds.length + m ≤ 1000000)
    (h : ∀ v' w', Own e w0 w' v' (olds ++ news) → w.grownBy w' v.ownBlock → wpList P ops Q rest (a.put o.dst v') w') : wpList P ops Q (o :: rest) a w := by
  refine wpList_plain hgd fun K hK => ?_
  obtain ⟨v', w', hrun, h2, h3⟩ := run_append_row (P := P) t o.type i ht hi hz hsize hby hown A m c news hr hb
  unfold Oper.wp execOp
  simp only [ho, resolve, invoke, builtin, Sem.run_bind, Sem.run_pure, Result.andThen_ok, List.map_toArray, List.map_cons, List.map_nil, hs, hx, hrun]
  exact hK _ _ (h v' w' h2 h3)

/-- make of a row with room for n. -/
theorem wpList_make_row {ops : Array Oper} {rest : List Oper} {o : Oper} {a : Act} {Q : Exit → Act → World → Prop} (hgd : o.guard = none) (l c : Operand) (t : TypeId) (hop : o.op = Op.makeSlice t l c) (i : TypeInfo)
    (ht : P.underlying t = some (.slice e)) (hi : P.info? e = some i) (hz : i.zero = some (.string ByteArray.empty)) (hsize : i.size = 1) (hby : i.bytes = 16)
    (hl : Later w0 w) (kl kc : IntKind) (C : Int) (he : a.eval l = .int kl 0) (hc : a.eval c = .int kc C) (hC0 : 0 ≤ C) (hC : C ≤ 1000000)
    (h : ∀ w' v', Own e w0 w' v' [] → wpList P ops Q rest (a.put o.dst v') w') : wpList P ops Q (o :: rest) a w := by
  obtain ⟨n, rfl⟩ := Int.eq_ofNat_of_zero_le hC0
  refine wpList_make_own w hgd l c t hop w0.heap.size e i _ 1 ht hi hz hsize kl kc _ n he hc rfl (by rw [hby]; omega) (by simp only [maxLen]; omega) hl.size fun w' h1 h2 => h w' _ ⟨h1, Below.grown hl h2 hl.size (by simp)⟩
end

/-- The one element of a new row that append is handed. -/
theorem Row.one (w : World) (s : ByteArray) (t : TypeId) : Row (w.alloc (.cells #[.string s] t)) (some ⟨w.heap.size, 0, .none⟩) 1 [s] := by
  refine ⟨rfl, fun _ => ⟨_, _, rfl, fun j x hj => ?_⟩⟩
  match j, hj with
  | 0, hj => simp at hj; subst hj; simp

/-- The elements of a new row, written out. -/
theorem Row.lit (w : World) (ss : List ByteArray) (t : TypeId) : Row (w.alloc (.cells (ss.map Value.string).toArray t)) (some ⟨w.heap.size, 0, .none⟩) ss.length ss := by
  refine ⟨rfl, fun _ => ⟨_, _, rfl, fun j x hj => ?_⟩⟩
  have hb : (w.alloc (.cells (ss.map Value.string).toArray t)).heap[w.heap.size]? = some (.cells (ss.map Value.string).toArray t (0, 0)) := heap_alloc_new w _
  simp only [World.cell?, hb, Nat.zero_add]
  simp [hj]
end Go.Proofs.Ytnhhdjcbifmfgaa

/-
  What calls on rows of lines come to, in words: a row, a row and a flag, a bool; what comes in.
-/
namespace Go.Proofs.Ytnhhdjcbifmfgaa
open Go.RowKit

/-- A slice of the call's that reads as these lines. -/
def IsRow (ss : List ByteArray) (w : World) (e : Ending) (w' : World) : Prop :=
  ∃ A, e = .returned (.slice A ss.length ss.length) ∧ Row w A ss.length ss ∧ w = w'

/-- A row, and true. -/
def GivesRow2 (ss : List ByteArray) (w : World) (e : Ending) (w' : World) : Prop :=
  ∃ A c, e = .returned (.tuple #[.slice A ss.length c, .bool true]) ∧ ss.length ≤ c ∧ Row w' A ss.length ss ∧ Later w w'

theorem getD_piece {l : List ByteArray} {k j n : Nat} (h : j < n) : ((l.drop k).take n).getD j ByteArray.empty = l.getD (k + j) ByteArray.empty := by
  simp [List.getD, h, List.getElem?_drop]

/-- Nothing, and false, or the row, and true: as the lines stand there or not. -/
def Spl (l : List ByteArray) (k : Int) (m : Nat) (old with_ : List ByteArray) (w : World) (e : Ending) (w' : World) : Prop :=
  (standsB l k old = false ∧ e = .returned (.tuple #[.slice none 0 0, .bool false]) ∧ Later w w') ∨ (standsB l k old = true ∧ GivesRow2 (spliced l k.toNat m with_) w e w')

/-- A row of new memory. -/
def GivesRow (ss : List ByteArray) (w : World) (e : Ending) (w' : World) : Prop :=
  ∃ A c, e = .returned (.slice A ss.length c) ∧ ss.length ≤ c ∧ Row w' A ss.length ss ∧ Later w w'

theorem wrap64_small {x : Int} (h0 : -9223372036854775808 ≤ x) (h1 : x ≤ 9223372036854775807) : wrap64 x = x := by
  unfold wrap64; omega

/-- A bool; if it is true, p holds; the world is as it was. -/
def Tells (p : Prop) (w : World) (e : Ending) (w' : World) : Prop := ∃ b : Bool, e = .returned (.bool b) ∧ (b = true → p) ∧ w = w'

/-- What is asked of a row that comes in: it reads as these lines, and it is no greater than a machine's memory. -/
structure Came (w : World) (A : Option Addr) (n c : Nat) (ss : List ByteArray) : Prop where
  row : Row w A n ss
  room : n ≤ c
  most : n ≤ 140737488355328
  size : ∀ s ∈ ss, s.size ≤ 140737488355328

theorem Came.later {w w' : World} {A : Option Addr} {n c : Nat} {ss : List ByteArray} (h : Came w A n c ss) (hl : Later w w') : Came w' A n c ss := ⟨h.row.later hl, h.room, h.most, h.size⟩

/-- A bool; nothing old has turned. -/
def Says (b : Bool) (w : World) (e : Ending) (w' : World) : Prop := e = .returned (.bool b) ∧ Later w w'

/-- A struct of two rows, laid in memory: its cells stay. -/
theorem box_stays (w : World) (u v : Value) (t : TypeId) : ∀ W, Later (w.alloc (.cells #[u, v] t)) W → W.cell? ⟨w.heap.size, 0, none⟩ = some u ∧ W.cell? ⟨w.heap.size, 1, none⟩ = some v := fun W hW =>
  ⟨hW.cell (by simp), hW.cell (by simp)⟩

theorem drew_n (w : World) (n : Nat) : Drew w (w.drewN n) := ⟨n, rfl⟩

end Go.Proofs.Ytnhhdjcbifmfgaa

/-
  What comes in, read as data: rows of lines, rows of structures.
-/
namespace Go.Proofs.Ytnhhdjcbifmfgaa
open Go.ChangeShapes Go.WideShapes Go.ChangeAt Go.RowKit Go.Deep

theorem Try.own : ownKnob Try.prog.godebug = none := by kernel_rfl
theorem Try.laidOut : laidOutB Try.prog = true := by kernel_rfl
theorem Try.cells9 : Try.prog.cellsOf 9 = 1 := by kernel_rfl

section
variable {H : Type} {enc : TypeId × Value → H} {P : Program} {w : World} {base : Nat} {spare : Nat → Bool} {held : Bool}
/-- A slice of structures, each field one cell: the cells, and each field's reading. -/
theorem open_slice_fields {t e : TypeId} {fs : Array Field} {fuel : Nat} {cs : List Value} {x : DataW H × List MemPlace} (ht : P.underlying t = some (.slice e)) (he : P.underlying e = some (.struct fs))
    (hone : oneCellFields P fs = true) (hC : P.cellsOf e = fs.size) (h : DataW.trod enc P w base spare held fuel t cs = some x) :
    (cs = [.slice none 0 0] ∧ x = (.nil, [])) ∨
    ∃ (a : Addr) (len cap m : Nat) (D : Nat → DataW H) (Pl : Nat → List MemPlace), cs = [.slice (some a) len cap] ∧ len ≤ cap ∧ m = (if spare a.block then cap else len) ∧
      x = (.slice ((List.range len).map D) ((List.range (m - len)).map fun j => D (len + j)), MemPlace.row a (m * fs.size) ++ (List.range m).flatMap Pl) ∧
      ∀ i, i < m → ∃ (ys : List (DataW H × List MemPlace)) (n : Nat), D i = .agg (ys.map (·.1)) ∧ ys.length = fs.size ∧
        ∀ (j : Nat) (f : Field), fs[j]? = some f → ∃ (v : Value) (y : DataW H × List MemPlace), w.cell? (a.add (i * fs.size + j)) = some v ∧ ys[j]? = some y ∧ DataW.trod enc P w base spare held n f.type [v] = some y := by
  rcases open_slice ht h with h0 | ⟨a, len, cap, m, n, D, Pl, hcs, _, hl, _, hmm, hx, hi⟩
  · exact .inl h0
  · refine .inr ⟨a, len, cap, m, D, Pl, hcs, hl, hmm, by rw [hC] at hx; exact hx, fun i him => ?_⟩
    obtain ⟨cs', hc, ht'⟩ := hi i him
    rw [hC] at hc
    obtain ⟨ys, n', _, hy, _, hyl, hf⟩ := DataW.trod_struct he ht'
    obtain ⟨_, _, hat⟩ := World.cells?_some hc
    simp only [Prod.mk.injEq] at hy
    have hcl : cs'.length = fs.size := by assumption
    refine ⟨ys, n', hy.1, hyl, fun j f hj => ?_⟩
    obtain ⟨ho, hk⟩ := hone_of hone j f hj
    have hjl : j < fs.size := (Array.getElem?_eq_some_iff.1 hj).1
    have hcell := hat j hjl
    have hv : cs'[j]? = some (cs'[j]'(by omega)) := List.getElem?_eq_getElem (by omega)
    have h1 := hf j f hj
    rw [ho, hk] at h1
    have hone' : (cs'.drop j).take 1 = [cs'[j]'(by omega)] := by
      rw [List.drop_eq_getElem_cons (by omega)]
      rfl
    rw [hone'] at h1
    have hys : ys[j]? = some (ys[j]'(by omega)) := List.getElem?_eq_getElem (by omega)
    refine ⟨_, _, ?_, hys, h1.trans hys⟩
    rw [← Go.Deep.add_add, hcell, hv]
end

theorem list_of {α : Type} {Q : Nat → α → Prop} : ∀ n : Nat, (∀ i, i < n → ∃ x, Q i x) → ∃ l : List α, l.length = n ∧ ∀ (i : Nat) x, l[i]? = some x → Q i x
  | 0, _ => ⟨[], rfl, fun i x h => by simp at h⟩
  | n + 1, h => by
    obtain ⟨l, hl, hq⟩ := list_of n fun i hi => h i (by omega)
    obtain ⟨x, hx⟩ := h n (by omega)
    refine ⟨l ++ [x], by simp [hl], fun i y hy => ?_⟩
    rcases Nat.lt_or_ge i n with hi | hi
    · rw [List.getElem?_append_left (by omega)] at hy
      exact hq i y hy
    · rw [List.getElem?_append_right (by omega), hl] at hy
      have hi0 : i - n = 0 := by
        rcases Nat.eq_zero_or_pos (i - n) with h0 | h0
        · exact h0
        · rw [List.getElem?_eq_none (by simp; omega)] at hy; cases hy
      rw [hi0] at hy
      simp at hy
      subst hy
      obtain rfl : i = n := by omega
      exact hx

theorem bulk_strs {H : Type} (ss : List ByteArray) : Rows.uptoBulkAll (strs (H := H) ss) = ss.length + (ss.map ByteArray.size).sum := by
  induction ss with
  | nil => rfl
  | cons s ss ih =>
    simp only [strs, List.map_cons, Rows.uptoBulkAll, Rows.uptoBulk, List.length_cons, List.sum_cons] at ih ⊢
    rw [ih]
    have : s.data.toList.length = s.size := by rw [Array.length_toList]; rfl
    omega

/-- A row of lines that came in, nil or not, and what it weighs. -/
theorem came_lines {H : Type} {enc : TypeId × Value → H} {W : World} {v : Value} {fuel : Nat} {x : DataW H × List MemPlace}
    (hf : DataW.trod enc Try.prog W 0 (fun _ => true) true fuel 22 [v] = some x) : ∃ A n c ss, v = .slice A n c ∧ n ≤ c ∧ Row W A n ss ∧ ss.length + (ss.map ByteArray.size).sum ≤ Rows.uptoBulk x.1 := by
  rcases open_strings Try.underlying22 Try.underlying9 Try.cells9 hf with ⟨hcs, hx⟩ | ⟨a, len, cap, ss, hcs, _, hl, hm, hz, hx, hcell, _⟩
  · simp at hcs
    exact ⟨none, 0, 0, [], hcs, Nat.le_refl _, Row.none, by simp⟩
  · simp at hcs
    subst hx
    simp only [if_true] at hz
    obtain ⟨b, off, spot⟩ := a
    refine ⟨_, len, cap, ss.take len, hcs, hl, ⟨by rw [List.length_take]; omega, fun h0 => ?_⟩, ?_⟩
    · have hspot : spot = none := by simpa [Addr.add] using World.cell?_spot (hcell 0 (by omega))
      subst hspot
      refine ⟨b, off, rfl, fun j s hs => ?_⟩
      have hj : j < len := by
        have := (List.getElem?_eq_some_iff.1 hs).1
        rw [List.length_take] at this; omega
      rw [List.getElem?_take_of_lt hj] at hs
      have := hcell j (by omega)
      rw [plain_add] at this
      rw [this]
      simp [List.getD, hs]
    · simp only [Rows.uptoBulk]
      rw [bulk_strs (ss.take len)]
      omega

end Go.Proofs.Ytnhhdjcbifmfgaa
