import Derived.Below
import Derived.WalkKit
import Derived.WalkSpells
import Derived.Deep.Draws
import Derived.Maps.AppendAt
import Derived.Laws.MakeOwn
import Derived.Lib.IndexLaws
import Derived.Lib.Strings
import Derived.Lib.Bytealg
import Derived.WideShapes
import Derived.WideAt

/-
  Rows of lines as lists: with how many lines two rows begin and end alike; the first place at which lines stand. Nothing of any program.
-/
namespace Go.Proofs.YtfcdhpkikhkmiaaGreatDoor
open Go.RowKit

theorem take_same {xs ys : List ByteArray} {k : Nat} (hx : k < xs.length) (hy : k < ys.length) (h : xs.take k = ys.take k) (e : xs.getD k ByteArray.empty = ys.getD k ByteArray.empty) :
    Hid (xs.take (k + 1) = ys.take (k + 1)) := by
  show _ = _
  rw [List.take_succ_eq_append_getElem hx, List.take_succ_eq_append_getElem hy, h]
  simp [List.getD, List.getElem?_eq_getElem hx, List.getElem?_eq_getElem hy] at e
  rw [e]

def sameB (xs ys : List ByteArray) : Bool := decide (xs = ys)
theorem sameB_yes {xs ys : List ByteArray} (h : xs = ys) : sameB xs ys = true := by simp [sameB, h]
theorem sameB_no {xs ys : List ByteArray} (h : xs ≠ ys) : sameB xs ys = false := by simp [sameB, h]
theorem beq_of_other {xs ys : List ByteArray} {k : Nat} (h : xs.getD k ByteArray.empty ≠ ys.getD k ByteArray.empty) : sameB xs ys = false :=
  sameB_no fun e => h (by rw [e])

def standsB (l : List ByteArray) (k : Int) (part : List ByteArray) : Bool := decide (0 ≤ k ∧ k + part.length ≤ l.length) && sameB ((l.drop k.toNat).take part.length) part

def spliced (l : List ByteArray) (k m : Nat) (with_ : List ByteArray) : List ByteArray := l.take k ++ with_ ++ l.drop (k + m)

end Go.Proofs.YtfcdhpkikhkmiaaGreatDoor

/-
  The lines of a text, and the text of lines, as lists of bytes. Nothing of any program.
-/
namespace Go.Proofs.YtfcdhpkikhkmiaaGreatDoor

def bytes (s : ByteArray) : List UInt8 := s.data.toList
def txt (l : List UInt8) : ByteArray := ⟨l.toArray⟩
theorem txt_bytes (s : ByteArray) : txt (bytes s) = s := by unfold txt bytes; simp
theorem bytes_length (s : ByteArray) : (bytes s).length = s.size := by unfold bytes; simp
end Go.Proofs.YtfcdhpkikhkmiaaGreatDoor

/-
  Rows of lines in memory: what it means that a slice reads as a list of texts, and how that is kept while memory grows.
-/
namespace Go.Proofs.YtfcdhpkikhkmiaaGreatDoor
open Go.RowKit

def Row (w : World) (A : Option Addr) (n : Nat) (ss : List ByteArray) : Prop :=
  ss.length = n ∧ (0 < n → ∃ b o, A = some ⟨b, o, none⟩ ∧ ∀ j s, ss[j]? = some s → w.cell? ⟨b, o + j, none⟩ = some (.string s))

def Later (w w' : World) : Prop := Below w.heap.size w w'

theorem Later.refl (w : World) : Later w w := Below.refl _ _
theorem Later.trans {a b c : World} (h : Later a b) (k : Later b c) : Later a c := Below.trans h (Below.mono k h.size)
theorem Later.alloc {a w : World} (h : Later a w) (o : Obj) : Later a (w.alloc o) := Below.alloc h h.size o
theorem Later.drew {a w : World} (h : Later a w) : Later a w.drew := Below.drew h
theorem Later.drewN {a w : World} (h : Later a w) (n : Nat) : Later a (w.drewN n) := ⟨h.os, h.tape, h.output, h.size, h.block⟩
theorem Later.le {a w : World} (h : Later a w) : a.heap.size ≤ w.heap.size := h.size

theorem lt_of_cell {w : World} {p : Addr} {v : Value} (h : w.cell? p = some v) : p.block < w.heap.size := by
  rcases Nat.lt_or_ge p.block w.heap.size with hlt | hge
  · exact hlt
  · simp [World.cell?, Array.getElem?_eq_none hge] at h

theorem Later.cell {w w' : World} (h : Later w w') {p : Addr} {v : Value} (hc : w.cell? p = some v) : w'.cell? p = some v :=
  (Below.cell h (lt_of_cell hc)).trans hc

def Drew (w w' : World) : Prop := ∃ q, w' = w.drewN q
theorem Drew.refl (w : World) : Drew w w := ⟨0, rfl⟩
theorem Drew.later {w w' : World} (h : Drew w w') : Later w w' := by
  obtain ⟨q, rfl⟩ := h; exact (Later.refl w).drewN q

section
variable {w w' : World} {A : Option Addr} {n : Nat} {ss : List ByteArray}

theorem Row.len (h : Row w A n ss) : ss.length = n := h.1

theorem Row.none : Row w A 0 [] := ⟨rfl, fun h => absurd h (by omega)⟩

theorem Row.later (h : Row w A n ss) (hl : Later w w') : Row w' A n ss :=
  ⟨h.1, fun hn => by
    obtain ⟨b, o, e, hc⟩ := h.2 hn
    exact ⟨b, o, e, fun j s hs => hl.cell (hc j s hs)⟩⟩

theorem Row.get (h : Row w A n ss) {k : Nat} (hk : k < n) :
    ∃ b o, A = some ⟨b, o, .none⟩ ∧ w.cell? ⟨b, o + k, .none⟩ = some (.string (ss.getD k ByteArray.empty)) := by
  obtain ⟨b, o, e, hc⟩ := h.2 (by omega)
  have hl : k < ss.length := by rw [h.1]; exact hk
  refine ⟨b, o, e, ?_⟩
  rw [hc k ss[k] (List.getElem?_eq_getElem hl)]
  simp [List.getD, List.getElem?_eq_getElem hl]

theorem Row.take (h : Row w A n ss) {t : Nat} (ht : t ≤ n) : Row w A t (ss.take t) := by
  refine ⟨by rw [List.length_take, h.1]; omega, fun hn => ?_⟩
  obtain ⟨b, o, rfl, hc⟩ := h.2 (by omega)
  refine ⟨b, o, rfl, fun j s hs => ?_⟩
  rw [List.getElem?_take] at hs
  split at hs
  · exact hc _ s hs
  · cases hs

theorem Row.drop (h : Row w A n ss) {f : Nat} (hf : f < n) : Row w (A.map (·.add f)) (n - f) (ss.drop f) := by
  refine ⟨by rw [List.length_drop, h.1], fun hn => ?_⟩
  obtain ⟨b, o, rfl, hc⟩ := h.2 (by omega)
  refine ⟨b, o + f, ?_, fun j s hs => ?_⟩
  · simp only [Option.map_some, Addr.add]
    by_cases hf : f = 0 <;> simp [hf]
  · rw [List.getElem?_drop] at hs
    rw [Nat.add_assoc]
    exact hc _ s hs

theorem Row.cut (h : Row w A n ss) {f c : Nat} (hf : f ≤ n) (hc : n ≤ c) : Row w (if c = f then A else A.map (·.add f)) (n - f) (ss.drop f) := by
  by_cases e : f = n
  · subst e
    rw [List.drop_of_length_le (by rw [h.1]; omega), Nat.sub_self]
    exact Row.none
  · rw [if_neg (by omega)]
    exact h.drop (by omega)

end

theorem text_ne {x y : ByteArray} (h : x ≠ y) : (x.toList == y.toList) = false := by
  rw [beq_eq_false_iff_ne]
  intro e
  rw [ByteArray.toList_eq, ByteArray.toList_eq] at e
  exact h (ByteArray.ext (Array.ext' e))
theorem ret_bool {a b : Bool} (h : a = b) : Ending.returned (.bool a) = .returned (.bool b) := by rw [h]
theorem byte_at {s : ByteArray} {k : Nat} (h : k < s.size) : s.data.toList[k]? = some s[k] := by
  rw [List.getElem?_eq_getElem (by simpa using h)]; rfl
end Go.Proofs.YtfcdhpkikhkmiaaGreatDoor

/-
  Rows of lines that a call makes itself: what it owns, how it grows by append, and how it reads behind that.
-/
namespace Go.Proofs.YtfcdhpkikhkmiaaGreatDoor
open Go.RowKit

theorem plain_add (b o j : Nat) : (⟨b, o, none⟩ : Addr).add j = ⟨b, o + j, none⟩ := by
  unfold Addr.add
  by_cases h : j = 0 <;> simp [h]

def Own (e : TypeId) (w0 w : World) (v : Value) (ss : List ByteArray) : Prop :=
  w.ownsRow w0.heap.size e 1 v ss.length (ss.map Value.string) ∧ Later w0 w

section
variable {e : TypeId} {w0 w : World} {v : Value} {ss : List ByteArray}

theorem Own.later (h : Own e w0 w v ss) : Later w0 w := h.2
theorem Own.nil (h : Later w0 w) : Own e w0 w (.slice none 0 0) [] := ⟨World.ownsRow_nil _ _ _ _, h⟩
theorem Own.alloc (h : Own e w0 w v ss) (o : Obj) : Own e w0 (w.alloc o) v ss := ⟨h.1.alloc o, h.2.alloc o⟩
theorem Own.drew (h : Own e w0 w v ss) : Own e w0 w.drew v ss := ⟨h.1, h.2.drew⟩
theorem Own.drewN (h : Own e w0 w v ss) (n : Nat) : Own e w0 (w.drewN n) v ss := ⟨h.1, h.2.drewN n⟩

theorem Own.empty (h : Later w0 w) : Own e w0 (w.alloc (.cells #[] e)) (.slice (some ⟨w.heap.size, 0, none⟩) 0 0) [] :=
  ⟨World.ownsRow_made w #[] 0 h.size (Nat.zero_le _) rfl, h.alloc _⟩

theorem Own.row (h : Own e w0 w v ss) : ∃ A c, v = .slice A ss.length c ∧ ss.length ≤ c ∧ Row w A ss.length ss := by
  rcases h.1.2 with ⟨hv, h0⟩ | ⟨g, cap, cur, hv, hg, hh, hnc, hm, hs, ht⟩
  · have : ss = [] := List.eq_nil_of_length_eq_zero h0
    subst this
    exact ⟨none, 0, hv, Nat.le_refl _, Row.none⟩
  · refine ⟨some ⟨g, 0, none⟩, cap, hv, hnc, rfl, fun _ => ⟨g, 0, rfl, fun j s hj => ?_⟩⟩
    have hc := h.1.cells (g := g) (by rw [hv]; rfl) j (.string s) (by rw [List.getElem?_map, hj]; rfl)
    rw [plain_add] at hc
    exact hc

theorem Own.block (h : Own e w0 w v ss) : ∀ k, v.ownBlock = some k → w0.heap.size ≤ k := fun k hk => (h.1.lt k hk).1

end


end Go.Proofs.YtfcdhpkikhkmiaaGreatDoor

/-
  Lines and texts as lists: which may be, how they are cut and put together, how many there are.
-/
namespace Go.Proofs.YtfcdhpkikhkmiaaGreatDoor
open Go.RowKit

def hasEnd (s : ByteArray) : Bool := decide (0 ≤ Lib.indexByte s.data.toList 10)

def rightB (s : ByteArray) : Bool := decide (s.size ≤ 60) && !hasEnd s

def allB (l : List ByteArray) : Bool := l.all rightB

theorem allB_get {l : List ByteArray} {k : Nat} (hk : k < l.length) (h : rightB (l.getD k ByteArray.empty) = false) : allB l = false := by
  unfold allB
  rw [List.all_eq_false]
  refine ⟨l[k], List.getElem_mem hk, ?_⟩
  simp only [List.getD, List.getElem?_eq_getElem hk, Option.getD_some] at h
  simp [h]

theorem allB_all {l : List ByteArray} (h : ∀ k : Nat, k < l.length → rightB (l.getD k ByteArray.empty) = true) : allB l = true := by
  unfold allB
  rw [List.all_eq_true]
  intro x hx
  obtain ⟨k, hk, rfl⟩ := List.getElem_of_mem hx
  have := h k hk
  simpa [List.getD, List.getElem?_eq_getElem hk] using this

end Go.Proofs.YtfcdhpkikhkmiaaGreatDoor

/-
  Trees as rows of files, rising by name: what the calls on them come to. Nothing of any program.
-/
namespace Go.Proofs.YtfcdhpkikhkmiaaGreatDoor
open Go.RowKit

def ltN (a b : ByteArray) : Bool := bytesBefore (bytes a) (bytes b)
theorem bytes_inj {a b : ByteArray} (h : bytes a = bytes b) : a = b := by rw [← txt_bytes a, h, txt_bytes]
theorem ltN_irrefl (a : ByteArray) : ltN a a = false := WideAt.bytes_irrefl _
theorem ltN_total {a b : ByteArray} (h : a ≠ b) : ltN a b = true ∨ ltN b a = true := WideAt.bytes_total _ _ (fun e => h (bytes_inj e))
theorem ltN_trans {a b c : ByteArray} (h : ltN a b = true) (k : ltN b c = true) : ltN a c = true := WideShapes.bytes_trans _ _ _ h k
theorem ltN_asymm {a b : ByteArray} (h : ltN a b = true) : ltN b a = false := by
  cases k : ltN b a
  · rfl
  · have := ltN_trans h k; rw [ltN_irrefl] at this; cases this
abbrev Fl (α : Type) := List (ByteArray × α)
abbrev Tr := Fl (List ByteArray)

section
variable {α β : Type}

def getT (t : Fl α) (n : ByteArray) : Option α := (t.find? fun f => decide (f.1 = n)).map (·.2)
def withoutT (t : Fl α) (n : ByteArray) : Fl α := t.filter fun f => decide (f.1 ≠ n)
def withT (t : Fl α) (n : ByteArray) (x : α) : Fl α := (withoutT t n).filter (fun f => ltN f.1 n) ++ (n, x) :: (withoutT t n).filter (fun f => ltN n f.1)
def Rising (t : Fl α) : Prop := t.Pairwise fun a b => ltN a.1 b.1 = true
def mapT (g : α → β) (t : Fl α) : Fl β := t.map fun f => (f.1, g f.2)

theorem mapT_length (g : α → β) (t : Fl α) : (mapT g t).length = t.length := by simp [mapT]
theorem withoutT_map (g : α → β) (t : Fl α) (n : ByteArray) : withoutT (mapT g t) n = mapT g (withoutT t n) := by
  simp [withoutT, mapT, List.filter_map, Function.comp_def]
theorem withT_map (g : α → β) (t : Fl α) (n : ByteArray) (x : α) : withT (mapT g t) n (g x) = mapT g (withT t n x) := by
  simp only [withT, withoutT_map]
  simp [mapT, List.filter_map, Function.comp_def]
theorem rising_map {g : α → β} {t : Fl α} : Rising (mapT g t) ↔ Rising t := by
  simp [Rising, mapT, List.pairwise_map]

theorem rising_tail {f : ByteArray × α} {t : Fl α} (h : Rising (f :: t)) : Rising t := (List.pairwise_cons.1 h).2
theorem rising_head {f g : ByteArray × α} {t : Fl α} (h : Rising (f :: t)) (hg : g ∈ t) : ltN f.1 g.1 = true := (List.pairwise_cons.1 h).1 g hg

theorem getT_mem {t : Fl α} {n : ByteArray} {x : α} (h : getT t n = some x) : (n, x) ∈ t := by
  simp only [getT, Option.map_eq_some_iff] at h
  obtain ⟨f, hf, rfl⟩ := h
  have h1 := List.find?_some hf
  have h2 := List.mem_of_find?_eq_some hf
  simp only [decide_eq_true_eq] at h1
  rw [← h1]; exact h2
theorem mem_without {t : Fl α} {n : ByteArray} {f : ByteArray × α} : f ∈ withoutT t n ↔ f ∈ t ∧ f.1 ≠ n := by simp [withoutT]
theorem mem_with {t : Fl α} {n : ByteArray} {x : α} {f : ByteArray × α} : f ∈ withT t n x ↔ f = (n, x) ∨ (f ∈ t ∧ f.1 ≠ n) := by
  simp only [withT, List.mem_append, List.mem_cons, List.mem_filter, mem_without]
  constructor
  · rintro (⟨h, _⟩ | h | ⟨h, _⟩)
    · exact .inr h
    · exact .inl h
    · exact .inr h
  · rintro (h | h)
    · exact .inr (.inl h)
    · rcases ltN_total h.2 with k | k
      · exact .inl ⟨h, k⟩
      · exact .inr (.inr ⟨h, k⟩)

theorem rising_without {t : Fl α} (h : Rising t) (n : ByteArray) : Rising (withoutT t n) := List.Pairwise.filter _ h
theorem rising_with {t : Fl α} (h : Rising t) (n : ByteArray) (x : α) : Rising (withT t n x) := by
  have hw := rising_without h n
  refine List.pairwise_append.2 ⟨List.Pairwise.filter _ hw, List.pairwise_cons.2 ⟨fun f hf => ?_, List.Pairwise.filter _ hw⟩, fun f hf g hg => ?_⟩
  · simpa using (List.mem_filter.1 hf).2
  · have h1 : ltN f.1 n = true := by simpa using (List.mem_filter.1 hf).2
    rcases List.mem_cons.1 hg with rfl | hg
    · exact h1
    · exact ltN_trans h1 (by simpa using (List.mem_filter.1 hg).2)
theorem rising_nil : Rising ([] : Fl α) := List.Pairwise.nil

theorem with_length {t : Fl α} (n : ByteArray) (x : α) : (withT t n x).length ≤ t.length + 1 := by
  have h1 : ∀ u : Fl α, (u.filter (fun f => ltN f.1 n)).length + (u.filter (fun f => ltN n f.1)).length ≤ u.length := fun u => by
    induction u with
    | nil => simp
    | cons f u ih =>
      simp only [List.filter_cons, List.length_cons]
      by_cases h : ltN f.1 n = true
      · simp only [h, if_true, ltN_asymm h, List.length_cons]; simp; omega
      · rw [if_neg h]; split <;> (try simp only [List.length_cons]) <;> omega
  have h2 := h1 (withoutT t n)
  have h3 : (withoutT t n).length ≤ t.length := List.length_filter_le _ _
  simp only [withT, List.length_append, List.length_cons]; omega
end

def nameByte (c : UInt8) : Bool := (decide (97 ≤ c) && decide (c ≤ 122)) || (decide (48 ≤ c) && decide (c ≤ 57)) || c == 46 || c == 45 || c == 95 || c == 47
def namedB (s : ByteArray) : Bool := decide (1 ≤ s.size) && decide (s.size ≤ 24) && (bytes s).all nameByte

structure OpV where
  kind : Int
  name : ByteArray
  to : ByteArray
  l : List ByteArray

end Go.Proofs.YtfcdhpkikhkmiaaGreatDoor
