/-
  Rows of lines in memory: what it means that a slice reads as a list of texts, and how that is kept while memory grows.
-/
import Derived.WalkKit
import Derived.WalkSpells
import Derived.Deep.Draws
namespace Go.Proofs.Ytknjkkdoeanhbaa
open Go.RowKit

/-- The slice at A of n elements reads as the texts ss. Of no elements nothing is asked. -/
def Row (w : World) (A : Option Addr) (n : Nat) (ss : List ByteArray) : Prop :=
  ss.length = n ∧ (0 < n → ∃ b o, A = some ⟨b, o, none⟩ ∧ ∀ j s, ss[j]? = some s → w.cell? ⟨b, o + j, none⟩ = some (.string s))

/-- Nothing that lay in memory at w has turned at w'. -/
def Later (w w' : World) : Prop := Below w.heap.size w w'

theorem Later.refl (w : World) : Later w w := Below.refl _ _
theorem Later.trans {a b c : World} (h : Later a b) (k : Later b c) : Later a c := Below.trans h (Below.mono k h.size)
theorem Later.alloc {a w : World} (h : Later a w) (o : Obj) : Later a (w.alloc o) := Below.alloc h h.size o
theorem Later.drew {a w : World} (h : Later a w) : Later a w.drew := Below.drew h
theorem Later.drewN {a w : World} (h : Later a w) (n : Nat) : Later a (w.drewN n) := ⟨h.os, h.tape, h.output, h.size, h.block⟩
theorem Later.le {a w : World} (h : Later a w) : a.heap.size ≤ w.heap.size := h.size

theorem lt_of_cell {w : World} {p : Addr} {v : Value} (h : w.cell? p = some v) : p.block < w.heap.size := by
  rcases Nat.lt_or_ge p.block w.heap.size with hlt | hge
  · exact hlt
  · simp [World.cell?, Array.getElem?_eq_none hge] at h

theorem Later.cell {w w' : World} (h : Later w w') {p : Addr} {v : Value} (hc : w.cell? p = some v) : w'.cell? p = some v :=
  (Below.cell h (lt_of_cell hc)).trans hc

/-- Only answers have been drawn. -/
def Drew (w w' : World) : Prop := ∃ q, w' = w.drewN q
theorem Drew.refl (w : World) : Drew w w := ⟨0, rfl⟩
theorem Drew.more {w w' : World} (h : Drew w w') (n : Nat) : Drew w (w'.drewN n) := by
  obtain ⟨q, rfl⟩ := h; exact ⟨q + n, World.drewN_drewN _ _ _⟩
theorem Drew.one {w w' : World} (h : Drew w w') : Drew w w'.drew := by
  obtain ⟨q, rfl⟩ := h; exact ⟨q + 1, rfl⟩
theorem Drew.later {w w' : World} (h : Drew w w') : Later w w' := by
  obtain ⟨q, rfl⟩ := h; exact (Later.refl w).drewN q

theorem later_of_drew {w w' : World} (h : ∃ q, w' = w.drewN q) : Later w w' := Drew.later h

section
variable {w w' : World} {A : Option Addr} {n : Nat} {ss : List ByteArray}

theorem Row.len (h : Row w A n ss) : ss.length = n := h.1

theorem Row.none : Row w A 0 [] := ⟨rfl, fun h => absurd h (by omega)⟩

theorem Row.later (h : Row w A n ss) (hl : Later w w') : Row w' A n ss :=
  ⟨h.1, fun hn => by
    obtain ⟨b, o, e, hc⟩ := h.2 hn
    exact ⟨b, o, e, fun j s hs => hl.cell (hc j s hs)⟩⟩

theorem Row.get (h : Row w A n ss) {k : Nat} (hk : k < n) :
    ∃ b o, A = some ⟨b, o, .none⟩ ∧ w.cell? ⟨b, o + k, .none⟩ = some (.string (ss.getD k ByteArray.empty)) := by
  obtain ⟨b, o, e, hc⟩ := h.2 (by omega)
  have hl : k < ss.length := by rw [h.1]; exact hk
  refine ⟨b, o, e, ?_⟩
  rw [hc k ss[k] (List.getElem?_eq_getElem hl)]
  simp [List.getD, List.getElem?_eq_getElem hl]

/-- The addresses of a row, whatever its length, as one place from which all cells are read. -/
theorem Row.open_ (h : Row w A n ss) (hn : 0 < n) :
    ∃ b o, A = some ⟨b, o, .none⟩ ∧ ∀ j, j < ss.length → w.cell? ⟨b, o + j, .none⟩ = some (.string (ss.getD j ByteArray.empty)) := by
  obtain ⟨b, o, e, hc⟩ := h.2 hn
  refine ⟨b, o, e, fun j hj => ?_⟩
  rw [hc j ss[j] (List.getElem?_eq_getElem hj)]
  simp [List.getD, List.getElem?_eq_getElem hj]

/-- The first t elements. -/
theorem Row.take (h : Row w A n ss) {t : Nat} (ht : t ≤ n) : Row w A t (ss.take t) := by
  refine ⟨by rw [List.length_take, h.1]; omega, fun hn => ?_⟩
  obtain ⟨b, o, rfl, hc⟩ := h.2 (by omega)
  refine ⟨b, o, rfl, fun j s hs => ?_⟩
  rw [List.getElem?_take] at hs
  split at hs
  · exact hc _ s hs
  · cases hs

/-- All from place f on, f not behind the last. -/
theorem Row.drop (h : Row w A n ss) {f : Nat} (hf : f < n) : Row w (A.map (·.add f)) (n - f) (ss.drop f) := by
  refine ⟨by rw [List.length_drop, h.1], fun hn => ?_⟩
  obtain ⟨b, o, rfl, hc⟩ := h.2 (by omega)
  refine ⟨b, o + f, ?_, fun j s hs => ?_⟩
  · simp only [Option.map_some, Addr.add]
    by_cases hf : f = 0 <;> simp [hf]
  · rw [List.getElem?_drop] at hs
    rw [Nat.add_assoc]
    exact hc _ s hs

theorem Row.cut (h : Row w A n ss) {f c : Nat} (hf : f ≤ n) (hc : n ≤ c) : Row w (if c = f then A else A.map (·.add f)) (n - f) (ss.drop f) := by
  by_cases e : f = n
  · subst e
    rw [List.drop_of_length_le (by rw [h.1]; omega), Nat.sub_self]
    exact Row.none
  · rw [if_neg (by omega)]
    exact h.drop (by omega)

/-- A piece of a row: from f up to t, the room ending at m. -/
theorem Row.piece (h : Row w A n ss) {f t m : Nat} (hft : f ≤ t) (ht : t ≤ n) (hm : t ≤ m) :
    Row w (if m = f then A else A.map (·.add (f * 1))) (t - f) ((ss.drop f).take (t - f)) := by
  refine ⟨by rw [List.length_take, List.length_drop, h.1]; omega, fun hn => ?_⟩
  obtain ⟨b, o, rfl, hc⟩ := h.2 (by omega)
  rw [if_neg (by omega)]
  refine ⟨b, o + f, ?_, fun j s hs => ?_⟩
  · simp only [Option.map_some, Nat.mul_one, Addr.add]
    by_cases hf : f = 0 <;> simp [hf]
  · rw [List.getElem?_take] at hs
    split at hs
    · rw [List.getElem?_drop] at hs
      rw [Nat.add_assoc]
      exact hc _ s hs
    · cases hs
end

/-- Texts are told apart by their bytes. -/
theorem text_ne {x y : ByteArray} (h : x ≠ y) : (x.toList == y.toList) = false := by
  rw [beq_eq_false_iff_ne]
  intro e
  rw [ByteArray.toList_eq, ByteArray.toList_eq] at e
  exact h (ByteArray.ext (Array.ext' e))
theorem text_beq (x y : ByteArray) : (x.toList == y.toList) = decide (x = y) := by
  by_cases h : x = y
  · subst h; simp
  · rw [text_ne h]; simp [h]

theorem ret_bool {a b : Bool} (h : a = b) : Ending.returned (.bool a) = .returned (.bool b) := by rw [h]
theorem ret_int {a b : Int} (h : a = b) : Ending.returned (.int .i64 a) = .returned (.int .i64 b) := by rw [h]

/-- The byte at a place, as the walk tells it and as the list has it. -/
theorem byte_at {s : ByteArray} {k : Nat} (h : k < s.size) : s.data.toList[k]? = some s[k] := by
  rw [List.getElem?_eq_getElem (by simpa using h)]; rfl
theorem byte_is {c : UInt8} (h : ((c.toNat : Int) == 10) = true) : c = 10 := by
  have : c.toNat = 10 := by simp at h; omega
  exact UInt8.toNat.inj this
theorem byte_isnt {c : UInt8} (h : ((c.toNat : Int) == 10) = false) : c ≠ 10 := by
  rintro rfl; simp at h
end Go.Proofs.Ytknjkkdoeanhbaa
