/-
  Lines and texts as lists: which may be, how they are cut and put together, how many there are.
-/
import Derived.Test.YtalgapoigkbiaaaBase
import Derived.Test.YtalgapoigkbiaaaPlainCut
import Derived.Test.YtalgapoigkbiaaaOwn
import Derived.Lib.IndexLaws
import Derived.Lib.Strings
import Derived.Lib.Bytealg
namespace Go.Proofs.Ytalgapoigkbiaaa
open Go.RowKit

/-- Has the text a byte 10? -/
def hasEnd (s : ByteArray) : Bool := decide (0 ≤ Lib.indexByte s.data.toList 10)

/-- A line that may be. -/
def rightB (s : ByteArray) : Bool := decide (s.size ≤ 60) && !hasEnd s

def allB (l : List ByteArray) : Bool := l.all rightB

theorem hasEnd_no {s : ByteArray} (h : ∀ k : Nat, s.data.toList[k]? ≠ some 10) : hasEnd s = false := by
  unfold hasEnd
  rw [decide_eq_false_iff_not]
  intro h0
  obtain ⟨o, ho⟩ := Int.eq_ofNat_of_zero_le h0
  exact h o (Lib.indexByte_some ho).1

theorem hasEnd_yes {s : ByteArray} {k : Nat} (h : s.data.toList[k]? = some 10) : hasEnd s = true := by
  unfold hasEnd
  rw [decide_eq_true_eq]
  have := Lib.indexByte_ge s.data.toList 10
  by_cases hlt : Lib.indexByte s.data.toList 10 < 0
  · exact absurd h (Lib.indexByte_none (by omega) k)
  · omega

theorem allB_get {l : List ByteArray} {k : Nat} (hk : k < l.length) (h : rightB (l.getD k ByteArray.empty) = false) : allB l = false := by
  unfold allB
  rw [List.all_eq_false]
  refine ⟨l[k], List.getElem_mem hk, ?_⟩
  simp only [List.getD, List.getElem?_eq_getElem hk, Option.getD_some] at h
  simp [h]

theorem allB_all {l : List ByteArray} (h : ∀ k : Nat, k < l.length → rightB (l.getD k ByteArray.empty) = true) : allB l = true := by
  unfold allB
  rw [List.all_eq_true]
  intro x hx
  obtain ⟨k, hk, rfl⟩ := List.getElem_of_mem hx
  have := h k hk
  simpa [List.getD, List.getElem?_eq_getElem hk] using this

theorem extract_size (s : ByteArray) (a b : Nat) : (s.extract a b).size = min b s.size - a := by simp

theorem toList_isEmpty {s : ByteArray} (h : s.size ≠ 0) : s.toList.isEmpty = false := by
  rw [ByteArray.toList_eq]
  cases hl : s.data.toList with
  | nil =>
    have : s.data.toList.length = s.size := by simp
    rw [hl] at this; simp at this; omega
  | cons _ _ => rfl

/-- The lines so far, and what is left: f where the line at hand begins, k how far it is read. -/
def restL (s : ByteArray) (f k : Nat) : List ByteArray := (cutGo (((bytes s).drop f).take (k - f)) ((bytes s).drop k)).map txt

theorem restL_start (s : ByteArray) : restL s 0 0 = lines s := by simp [restL, lines]

theorem restL_end {s : ByteArray} {f k : Nat} (hk : k < s.size) (h : (bytes s)[k]? = some 10) : restL s f k = s.extract f k :: restL s (k + 1) (k + 1) := by
  unfold restL
  rw [List.drop_eq_getElem_cons (i := k) (by rw [bytes_length]; exact hk), extract_txt]
  rw [List.getElem?_eq_getElem (by rw [bytes_length]; exact hk)] at h
  injection h with h
  simp [cutGo, h]

theorem restL_on {s : ByteArray} {f k : Nat} (hk : k < s.size) (hf : f ≤ k) (h : (bytes s)[k]? ≠ some 10) : restL s f k = restL s f (k + 1) := by
  unfold restL
  rw [List.drop_eq_getElem_cons (i := k) (by rw [bytes_length]; exact hk)]
  rw [List.getElem?_eq_getElem (by rw [bytes_length]; exact hk)] at h
  have h' : (bytes s)[k]'(by rw [bytes_length]; exact hk) ≠ 10 := fun e => h (by rw [e])
  simp only [cutGo, if_neg h']
  congr 2
  rw [show k + 1 - f = (k - f) + 1 from by omega, List.take_succ_eq_append_getElem (by rw [List.length_drop, bytes_length]; omega), List.getElem_drop]
  congr 3
  omega

theorem restL_stop {s : ByteArray} {f : Nat} (hf : f < s.size) : restL s f s.size = [s.extract f s.size] := by
  unfold restL
  rw [List.drop_of_length_le (l := bytes s) (i := s.size) (by rw [bytes_length]; omega), extract_txt]
  have : ((bytes s).drop f).take (s.size - f) ≠ [] := by
    intro e
    have := congrArg List.length e
    rw [List.length_take, List.length_drop, bytes_length] at this
    simp at this; omega
  simp only [cutGo, if_neg this, List.map_cons, List.map_nil]

theorem restL_none {s : ByteArray} : restL s s.size s.size = [] := by
  unfold restL
  rw [List.drop_of_length_le (l := bytes s) (i := s.size) (by rw [bytes_length]; omega)]
  simp [cutGo]

/-- How many bytes the lines have in all. -/
def bulk (l : List ByteArray) : Nat := (l.map ByteArray.size).sum

theorem textL_length (l : List ByteArray) : (textL l).length = bulk l + l.length := by
  induction l with
  | nil => rfl
  | cons s l ih =>
    simp only [textL, bulk, List.flatMap_cons, List.length_append, List.map_cons, List.sum_cons, List.length_cons, List.length_nil] at ih ⊢
    rw [bytes_length]; omega

theorem textL_split (l : List ByteArray) (k : Nat) : textL l = textL (l.take k) ++ textL (l.drop k) := by
  rw [textL, textL, textL, ← List.flatMap_append, List.take_append_drop]

theorem textL_next {l : List ByteArray} {k : Nat} (hk : k < l.length) : textL (l.take (k + 1)) = textL (l.take k) ++ bytes (l.getD k ByteArray.empty) ++ [10] := by
  rw [List.take_succ_eq_append_getElem hk, textL_snoc]
  simp [List.getD, List.getElem?_eq_getElem hk]

theorem textL_room {l : List ByteArray} {k : Nat} (hk : k < l.length) : (textL (l.take k)).length + (l.getD k ByteArray.empty).size + 1 ≤ (textL l).length := by
  have h1 := congrArg List.length (textL_split l (k + 1))
  have h2 := congrArg List.length (textL_next hk)
  rw [List.length_append] at h1
  rw [List.length_append, List.length_append, bytes_length] at h2
  simp only [List.length_cons, List.length_nil] at h2
  omega

theorem text_step (a : List UInt8) (x : ByteArray) : txt a ++ x ++ ⟨#[10]⟩ = txt (a ++ bytes x ++ [10]) := by
  have h : ∀ p q : ByteArray, bytes p = bytes q → p = q := fun p q h => by rw [← txt_bytes p, h, txt_bytes]
  apply h
  rw [bytes_txt]
  unfold bytes txt
  simp [ByteArray.data_append]

/-- How many lines the first i rows have, and how many bytes. -/
def cnt (ss : Nat → List ByteArray) : Nat → Nat
  | 0 => 0
  | i + 1 => cnt ss i + (ss i).length

def blk (ss : Nat → List ByteArray) : Nat → Nat
  | 0 => 0
  | i + 1 => blk ss i + bulk (ss i)

theorem cnt_le {ss : Nat → List ByteArray} {n : Nat → Nat} {k : Nat} (hl : ∀ i, i < k → (ss i).length = n i) (hn : ∀ i, i < k → n i ≤ 140737488355328) (i : Nat) (hi : i ≤ k) : cnt ss i ≤ i * 140737488355328 := by
  induction i with
  | zero => simp [cnt]
  | succ i ih =>
    have h1 := ih (by omega)
    have h2 := hl i (by omega)
    have h3 := hn i (by omega)
    simp only [cnt]; omega

theorem bulk_take_succ {l : List ByteArray} {j : Nat} (h : j < l.length) : bulk (l.take (j + 1)) = bulk (l.take j) + (l.getD j ByteArray.empty).size := by
  rw [List.take_succ_eq_append_getElem h]
  simp only [bulk, List.map_append, List.sum_append, List.map_cons, List.map_nil, List.sum_cons, List.sum_nil, List.getD, List.getElem?_eq_getElem h, Option.getD_some, Nat.add_zero]

theorem bulk_take_le {l : List ByteArray} (h : ∀ s ∈ l, s.size ≤ 140737488355328) (j : Nat) (hj : j ≤ l.length) : bulk (l.take j) ≤ j * 140737488355328 := by
  induction j with
  | zero => simp [bulk]
  | succ j ih =>
    have hlt : j < l.length := by omega
    have h1 := ih (by omega)
    have h2 := h l[j] (List.getElem_mem hlt)
    rw [bulk_take_succ hlt]
    simp only [List.getD, List.getElem?_eq_getElem hlt, Option.getD_some]
    omega

theorem blk_le {ss : Nat → List ByteArray} {k : Nat} (h : ∀ i, i < k → ∀ s ∈ ss i, s.size ≤ 140737488355328) (i : Nat) (hi : i ≤ k) : blk ss i ≤ cnt ss i * 140737488355328 := by
  induction i with
  | zero => simp [blk]
  | succ i ih =>
    have h1 := ih (by omega)
    have h2 := bulk_take_le (h i (by omega)) (ss i).length (Nat.le_refl _)
    rw [List.take_length] at h2
    simp only [blk, cnt]
    omega

/-- None of the first k lines has a byte 10. -/
def wholeB (xs : List ByteArray) (k : Nat) : Bool := (xs.take k).all fun x => !hasEnd x

theorem wholeB_succ {xs : List ByteArray} {k : Nat} (h : k < xs.length) : wholeB xs (k + 1) = (wholeB xs k && !hasEnd (xs.getD k ByteArray.empty)) := by
  unfold wholeB
  rw [List.take_succ_eq_append_getElem h, List.all_append]
  simp [List.getD, List.getElem?_eq_getElem h]

theorem wholeB_lines {xs : List ByteArray} {k : Nat} (hk : xs.length ≤ k) (h : wholeB xs k = true) : lines (txt (textL xs)) = xs := by
  refine lines_textL xs fun s hs c hc => ?_
  unfold wholeB at h
  rw [List.take_of_length_le hk] at h
  have h1 := List.all_eq_true.1 h s hs
  intro e
  subst e
  obtain ⟨i, hi, hg⟩ := List.getElem_of_mem hc
  have := hasEnd_yes (s := s) (k := i) (by unfold bytes at hi hg; rw [List.getElem?_eq_getElem hi, hg])
  rw [this] at h1
  cases h1

theorem suffix_ten (s : ByteArray) (h0 : s.size ≠ 0) : Lib.hasSuffix s.data.toList [10] = decide ((bytes s).getLast? = some 10) := by
  have hne : bytes s ≠ [] := by
    intro e
    have := bytes_length s
    rw [e] at this; simp at this; omega
  unfold Lib.hasSuffix
  show List.isSuffixOf [10] (bytes s) = _
  generalize bytes s = l at hne
  rw [Bool.eq_iff_iff, List.isSuffixOf_iff_suffix, decide_eq_true_eq]
  constructor
  · rintro ⟨t, rfl⟩
    simp
  · intro h
    exact ⟨l.dropLast, by rw [List.getLast?_eq_some_getLast hne] at h; injection h with h; rw [← h]; exact List.dropLast_concat_getLast hne⟩

theorem ended_same {s : ByteArray} (h : s.size = 0 ∨ Lib.hasSuffix s.data.toList [10] = true) : txt (textL (lines s)) = s := by
  rw [textL_lines]
  unfold ended
  have : bytes s = [] ∨ (bytes s).getLast? = some 10 := by
    by_cases h0 : s.size = 0
    · left; exact List.eq_nil_of_length_eq_zero (by rw [bytes_length]; exact h0)
    · right
      rcases h with h | h
      · exact absurd h h0
      · rw [suffix_ten s h0] at h
        simpa using h
  rw [if_pos this, List.append_nil, txt_bytes]

theorem ended_more {s : ByteArray} (h0 : s.size ≠ 0) (h : Lib.hasSuffix s.data.toList [10] = false) : txt (textL (lines s)) = s ++ ⟨#[10]⟩ := by
  rw [textL_lines]
  unfold ended
  have hn : ¬ (bytes s = [] ∨ (bytes s).getLast? = some 10) := by
    rintro (h1 | h1)
    · have := bytes_length s
      rw [h1] at this; simp at this; omega
    · rw [suffix_ten s h0, h1] at h
      simp at h
  rw [if_neg hn]
  have := text_step (bytes s) ⟨#[]⟩
  rw [txt_bytes] at this
  have e : s ++ (⟨#[]⟩ : ByteArray) = s := by
    have h : ∀ p q : ByteArray, bytes p = bytes q → p = q := fun p q h => by rw [← txt_bytes p, h, txt_bytes]
    apply h; unfold bytes; simp [ByteArray.data_append]
  rw [e] at this
  rw [this]
  simp [bytes]

/-- How a text ends, and what it is with a byte 10 at its end. -/
def Wants (s want : ByteArray) : Prop :=
  txt (textL (lines s)) = want ∧ ((s = ⟨#[]⟩ ∧ want = s) ∨ (s.toList.isEmpty = false ∧ Lib.hasSuffix s.data.toList [10] = true ∧ want = s) ∨ (s.toList.isEmpty = false ∧ Lib.hasSuffix s.data.toList [10] = false ∧ want = s ++ ⟨#[10]⟩))

theorem wants_any (s : ByteArray) : ∃ want, Wants s want := by
  by_cases h0 : s.size = 0
  · have er : s = ⟨#[]⟩ := by
      have := txt_bytes s
      rw [List.eq_nil_of_length_eq_zero (l := bytes s) (by rw [bytes_length]; exact h0)] at this
      exact this.symm
    exact ⟨s, ended_same (.inl h0), .inl ⟨er, rfl⟩⟩
  · have he := toList_isEmpty h0
    cases hsf : Lib.hasSuffix s.data.toList [10]
    · exact ⟨_, ended_more h0 hsf, .inr (.inr ⟨he, hsf, rfl⟩)⟩
    · exact ⟨s, ended_same (.inr hsf), .inr (.inl ⟨he, hsf, rfl⟩)⟩

/-- How many bytes 10 a text has, how many lines, and how it ends. -/
def Ends3 (s : ByteArray) (cn ln : Nat) : Prop :=
  (s = ⟨#[]⟩ ∧ ln = cn) ∨ (s.toList.isEmpty = false ∧ Lib.hasSuffix s.data.toList [10] = true ∧ ln = cn) ∨ (s.toList.isEmpty = false ∧ Lib.hasSuffix s.data.toList [10] = false ∧ ln = cn + 1)

theorem ends3_any (s : ByteArray) : Ends3 s (Lib.countByte s.data.toList 10) (lines s).length := by
  have hl := lines_count s
  have hcb : Lib.countByte s.data.toList 10 = (bytes s).count 10 := rfl
  rw [← hcb] at hl
  by_cases h0 : s.size = 0
  · have eb : bytes s = [] := List.eq_nil_of_length_eq_zero (by rw [bytes_length]; exact h0)
    have er : s = ⟨#[]⟩ := by
      have := txt_bytes s
      rw [eb] at this
      exact this.symm
    exact .inl ⟨er, by rw [hl, if_pos (.inl eb)]; rfl⟩
  · have he := toList_isEmpty h0
    have hne : bytes s ≠ [] := by
      intro e
      have := bytes_length s
      rw [e] at this; simp at this; omega
    have hsf := suffix_ten s h0
    by_cases hlast : (bytes s).getLast? = some 10
    · exact .inr (.inl ⟨he, by rw [hsf]; simpa using hlast, by rw [hl, if_pos (.inr hlast)]; rfl⟩)
    · exact .inr (.inr ⟨he, by rw [hsf]; simpa using hlast, by rw [hl, if_neg (by rintro (h | h) <;> contradiction)]⟩)

theorem countByte_le (s : ByteArray) : Lib.countByte s.data.toList 10 ≤ s.size := by
  have : Lib.countByte s.data.toList 10 ≤ s.data.toList.length := List.count_le_length
  simpa using this

end Go.Proofs.Ytalgapoigkbiaaa
