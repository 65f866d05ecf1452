import Derived.Test.YtnhhdjcbifmfgaaDoorPk1
import Derived.Lib.IndexLaws
import Derived.Lib.Strings
import Derived.Lib.Bytealg
import Derived.WideShapes
import Derived.WideAt

/-
  The lines of a text, and the text of lines, as lists of bytes. Nothing of any program.
-/
namespace Go.Proofs.YtnhhdjcbifmfgaaDoor

def bytes (s : ByteArray) : List UInt8 := s.data.toList
def txt (l : List UInt8) : ByteArray := ⟨l.toArray⟩
theorem txt_bytes (s : ByteArray) : txt (bytes s) = s := by unfold txt bytes; simp
theorem bytes_txt (l : List UInt8) : bytes (txt l) = l := by unfold txt bytes; simp
theorem bytes_length (s : ByteArray) : (bytes s).length = s.size := by unfold bytes; simp
theorem txt_size (l : List UInt8) : (txt l).size = l.length := by unfold txt; simp [ByteArray.size]
theorem txt_inj {a b : List UInt8} (h : txt a = txt b) : a = b := by rw [← bytes_txt a, h, bytes_txt]
theorem extract_txt (s : ByteArray) (a b : Nat) : s.extract a b = txt (((bytes s).drop a).take (b - a)) := by
  have h := txt_bytes (s.extract a b)
  rw [← h]
  congr 1
  unfold bytes
  rw [ByteArray.data_extract, Array.toList_extract, List.extract_eq_take_drop]

/-- The lines of bytes, cur being what has been read of the line at hand. -/
def cutGo : List UInt8 → List UInt8 → List (List UInt8)
  | cur, [] => if cur = [] then [] else [cur]
  | cur, c :: r => if c = 10 then cur :: cutGo [] r else cutGo (cur ++ [c]) r
/-- The lines of a text. -/
def lines (s : ByteArray) : List ByteArray := (cutGo [] (bytes s)).map txt

theorem cutGo_at : ∀ (i : Nat) (cur l : List UInt8), l[i]? = some 10 → (∀ k, k < i → l[k]? ≠ some 10) → cutGo cur l = (cur ++ l.take i) :: cutGo [] (l.drop (i + 1))
  | _, _, [], h, _ => by simp at h
  | 0, cur, c :: r, h, _ => by
    simp at h
    subst h
    simp [cutGo]
  | i + 1, cur, c :: r, h, hno => by
    have hc : c ≠ 10 := by
      have := hno 0 (by omega)
      simpa using this
    have ih := cutGo_at i (cur ++ [c]) r (by simpa using h) (fun k hk => by
      have := hno (k + 1) (by omega)
      simpa using this)
    simp only [cutGo, if_neg hc, ih, List.take_succ_cons, List.drop_succ_cons]
    simp
theorem cutGo_none : ∀ (cur l : List UInt8), (∀ k : Nat, l[k]? ≠ some 10) → cutGo cur l = if cur ++ l = [] then [] else [cur ++ l]
  | cur, [], _ => by simp [cutGo]
  | cur, c :: r, hno => by
    have hc : c ≠ 10 := by
      have := hno 0
      simpa using this
    have ih := cutGo_none (cur ++ [c]) r (fun k => by
      have := hno (k + 1)
      simpa using this)
    simp only [cutGo, if_neg hc, ih]
    simp
theorem cutGo_length : ∀ (cur l : List UInt8), (cutGo cur l).length ≤ cur.length + l.length
  | cur, [] => by
    simp only [cutGo]
    by_cases h : cur = []
    · simp [h]
    · have : 0 < cur.length := List.length_pos_iff.2 h
      simp [h]; omega
  | cur, c :: r => by
    simp only [cutGo]
    split
    · have := cutGo_length [] r; simp at this ⊢; omega
    · have := cutGo_length (cur ++ [c]) r; simp at this ⊢; omega
theorem lines_length (s : ByteArray) : (lines s).length ≤ s.size := by
  have := cutGo_length [] (bytes s)
  simp only [lines, List.length_map]
  rw [bytes_length] at this
  simpa using this

theorem lines_at {s : ByteArray} {i : Nat} (h : (bytes s)[i]? = some 10) (hno : ∀ k, k < i → (bytes s)[k]? ≠ some 10) : lines s = s.extract 0 i :: lines (s.extract (i + 1) s.size) := by
  have hi : i < s.size := by
    rw [← bytes_length]
    rcases Nat.lt_or_ge i (bytes s).length with h' | h'
    · exact h'
    · rw [List.getElem?_eq_none h'] at h; cases h
  unfold lines
  rw [cutGo_at i [] (bytes s) h hno, extract_txt, extract_txt, bytes_txt, List.map_cons]
  simp only [List.nil_append, List.drop_zero, Nat.sub_zero]
  rw [List.take_of_length_le (l := (bytes s).drop (i + 1)) (by rw [List.length_drop, bytes_length]; omega)]
theorem lines_none {s : ByteArray} (h0 : s.size ≠ 0) (hno : ∀ k : Nat, (bytes s)[k]? ≠ some 10) : lines s = [s] := by
  have hne : bytes s ≠ [] := by
    intro e
    have := bytes_length s
    rw [e] at this; simp at this; omega
  unfold lines
  rw [cutGo_none [] (bytes s) hno]
  simp [hne, txt_bytes]
theorem lines_empty {s : ByteArray} (h0 : s.size = 0) : lines s = [] := by
  have hne : bytes s = [] := List.eq_nil_of_length_eq_zero (by rw [bytes_length]; exact h0)
  simp [lines, hne, cutGo]

/-- The text of lines. -/
def textL (l : List ByteArray) : List UInt8 := l.flatMap fun s => bytes s ++ [10]
theorem textL_snoc (l : List ByteArray) (s : ByteArray) : textL (l ++ [s]) = textL l ++ bytes s ++ [10] := by simp [textL]

/-- The text of the lines of a text is that, with a byte 10 at its end. -/
theorem flat_cutGo : ∀ (cur l : List UInt8), (cutGo cur l).flatMap (fun x => x ++ [10]) = cur ++ l ++ (if cur ++ l = [] ∨ (cur ++ l).getLast? = some 10 ∧ l ≠ [] then [] else [10])
  | cur, [] => by
    by_cases h : cur = [] <;> simp [cutGo, h]
  | cur, c :: r => by
    simp only [cutGo]
    split
    · rename_i hc
      subst hc
      rw [List.flatMap_cons, flat_cutGo [] r]
      by_cases hr : r = []
      · simp [hr]
      · simp [hr, List.getLast?_append, List.getLast?_cons]
        cases hl : r.getLast? with
        | none => exact absurd (List.getLast?_eq_none_iff.1 hl) hr
        | some x => simp
    · rename_i hc
      rw [flat_cutGo (cur ++ [c]) r]
      by_cases hr : r = []
      · simp [hr, hc]
      · simp [hr, List.append_assoc]

/-- The text with a byte 10 at its end, if it has any byte. -/
def ended (s : ByteArray) : List UInt8 := bytes s ++ (if bytes s = [] ∨ (bytes s).getLast? = some 10 then [] else [10])
theorem textL_lines (s : ByteArray) : textL (lines s) = ended s := by
  have h := flat_cutGo [] (bytes s)
  simp only [List.nil_append] at h
  have h2 : textL (lines s) = (cutGo [] (bytes s)).flatMap (fun x => x ++ [10]) := by
    simp only [textL, lines, List.flatMap_map, bytes_txt]
  rw [h2, h]
  unfold ended
  by_cases h0 : bytes s = [] <;> simp [h0]
theorem ended_length (s : ByteArray) : (ended s).length ≤ s.size + 1 := by
  unfold ended
  rw [List.length_append, bytes_length]
  split <;> simp

/-- The lines of the text of lines are these, if none has a byte 10. -/
theorem cutGo_line : ∀ (x cur r : List UInt8), (∀ c ∈ x, c ≠ 10) → cutGo cur (x ++ 10 :: r) = (cur ++ x) :: cutGo [] r
  | [], cur, r, _ => by simp [cutGo]
  | c :: x, cur, r, h => by
    have hc : c ≠ 10 := h c (by simp)
    have ih := cutGo_line x (cur ++ [c]) r (fun d hd => h d (by simp [hd]))
    simp only [List.cons_append, cutGo, if_neg hc, ih]
    simp
theorem lines_textL : ∀ (l : List ByteArray), (∀ s ∈ l, ∀ c ∈ bytes s, c ≠ 10) → lines (txt (textL l)) = l
  | [], _ => by simp [lines, textL, bytes_txt, cutGo]
  | s :: l, h => by
    have ih := lines_textL l (fun t ht => h t (by simp [ht]))
    unfold lines at ih ⊢
    rw [bytes_txt] at ih ⊢
    rw [show textL (s :: l) = bytes s ++ 10 :: textL l from by simp [textL], cutGo_line (bytes s) [] _ (h s (by simp)), List.map_cons, ih]
    simp [txt_bytes]

/-- How many lines a text has. -/
theorem cutGo_count : ∀ (cur l : List UInt8), (cutGo cur l).length = l.count 10 + (if cur ++ l = [] ∨ (cur ++ l).getLast? = some 10 ∧ l ≠ [] then 0 else 1)
  | cur, [] => by by_cases h : cur = [] <;> simp [cutGo, h]
  | cur, c :: r => by
    simp only [cutGo]
    split
    · rename_i hc
      subst hc
      rw [List.length_cons, cutGo_count [] r]
      by_cases hr : r = []
      · simp [hr]
      · simp [hr, List.getLast?_append, List.getLast?_cons]
        cases hl : r.getLast? with
        | none => exact absurd (List.getLast?_eq_none_iff.1 hl) hr
        | some x => simp; omega
    · rename_i hc
      rw [cutGo_count (cur ++ [c]) r, List.count_cons]
      by_cases hr : r = []
      · simp [hr, hc]
      · simp [hr, hc, List.append_assoc]
theorem lines_count (s : ByteArray) : (lines s).length = (bytes s).count 10 + (if bytes s = [] ∨ (bytes s).getLast? = some 10 then 0 else 1) := by
  have h := cutGo_count [] (bytes s)
  simp only [List.nil_append] at h
  simp only [lines, List.length_map, h]
  by_cases h0 : bytes s = [] <;> simp [h0]
end Go.Proofs.YtnhhdjcbifmfgaaDoor

/-
  Lines and texts as lists: which may be, how they are cut and put together, how many there are.
-/
namespace Go.Proofs.YtnhhdjcbifmfgaaDoor
open Go.RowKit

/-- Has the text a byte 10? -/
def hasEnd (s : ByteArray) : Bool := decide (0 ≤ Lib.indexByte s.data.toList 10)

/-- A line that may be. -/
def rightB (s : ByteArray) : Bool := decide (s.size ≤ 60) && !hasEnd s

def allB (l : List ByteArray) : Bool := l.all rightB

theorem hasEnd_no {s : ByteArray} (h : ∀ k : Nat, s.data.toList[k]? ≠ some 10) : hasEnd s = false := by
  unfold hasEnd
  rw [decide_eq_false_iff_not]
  intro h0
  obtain ⟨o, ho⟩ := Int.eq_ofNat_of_zero_le h0
  exact h o (Lib.indexByte_some ho).1

theorem hasEnd_yes {s : ByteArray} {k : Nat} (h : s.data.toList[k]? = some 10) : hasEnd s = true := by
  unfold hasEnd
  rw [decide_eq_true_eq]
  have := Lib.indexByte_ge s.data.toList 10
  by_cases hlt : Lib.indexByte s.data.toList 10 < 0
  · exact absurd h (Lib.indexByte_none (by omega) k)
  · omega

theorem allB_get {l : List ByteArray} {k : Nat} (hk : k < l.length) (h : rightB (l.getD k ByteArray.empty) = false) : allB l = false := by
  unfold allB
  rw [List.all_eq_false]
  refine ⟨l[k], List.getElem_mem hk, ?_⟩
  simp only [List.getD, List.getElem?_eq_getElem hk, Option.getD_some] at h
  simp [h]

theorem allB_all {l : List ByteArray} (h : ∀ k : Nat, k < l.length → rightB (l.getD k ByteArray.empty) = true) : allB l = true := by
  unfold allB
  rw [List.all_eq_true]
  intro x hx
  obtain ⟨k, hk, rfl⟩ := List.getElem_of_mem hx
  have := h k hk
  simpa [List.getD, List.getElem?_eq_getElem hk] using this

theorem extract_size (s : ByteArray) (a b : Nat) : (s.extract a b).size = min b s.size - a := by simp

theorem toList_isEmpty {s : ByteArray} (h : s.size ≠ 0) : s.toList.isEmpty = false := by
  rw [ByteArray.toList_eq]
  cases hl : s.data.toList with
  | nil =>
    have : s.data.toList.length = s.size := by simp
    rw [hl] at this; simp at this; omega
  | cons _ _ => rfl

/-- The lines so far, and what is left: f where the line at hand begins, k how far it is read. -/
def restL (s : ByteArray) (f k : Nat) : List ByteArray := (cutGo (((bytes s).drop f).take (k - f)) ((bytes s).drop k)).map txt

theorem restL_start (s : ByteArray) : restL s 0 0 = lines s := by simp [restL, lines]

theorem restL_end {s : ByteArray} {f k : Nat} (hk : k < s.size) (h : (bytes s)[k]? = some 10) : restL s f k = s.extract f k :: restL s (k + 1) (k + 1) := by
  unfold restL
  rw [List.drop_eq_getElem_cons (i := k) (by rw [bytes_length]; exact hk), extract_txt]
  rw [List.getElem?_eq_getElem (by rw [bytes_length]; exact hk)] at h
  injection h with h
  simp [cutGo, h]

theorem restL_on {s : ByteArray} {f k : Nat} (hk : k < s.size) (hf : f ≤ k) (h : (bytes s)[k]? ≠ some 10) : restL s f k = restL s f (k + 1) := by
  unfold restL
  rw [List.drop_eq_getElem_cons (i := k) (by rw [bytes_length]; exact hk)]
  rw [List.getElem?_eq_getElem (by rw [bytes_length]; exact hk)] at h
  have h' : (bytes s)[k]'(by rw [bytes_length]; exact hk) ≠ 10 := fun e => h (by rw [e])
  simp only [cutGo, if_neg h']
  congr 2
  rw [show k + 1 - f = (k - f) + 1 from by omega, List.take_succ_eq_append_getElem (by rw [List.length_drop, bytes_length]; omega), List.getElem_drop]
  congr 3
  omega

theorem restL_stop {s : ByteArray} {f : Nat} (hf : f < s.size) : restL s f s.size = [s.extract f s.size] := by
  unfold restL
  rw [List.drop_of_length_le (l := bytes s) (i := s.size) (by rw [bytes_length]; omega), extract_txt]
  have : ((bytes s).drop f).take (s.size - f) ≠ [] := by
    intro e
    have := congrArg List.length e
    rw [List.length_take, List.length_drop, bytes_length] at this
    simp at this; omega
  simp only [cutGo, if_neg this, List.map_cons, List.map_nil]

theorem restL_none {s : ByteArray} : restL s s.size s.size = [] := by
  unfold restL
  rw [List.drop_of_length_le (l := bytes s) (i := s.size) (by rw [bytes_length]; omega)]
  simp [cutGo]

/-- How many bytes the lines have in all. -/
def bulk (l : List ByteArray) : Nat := (l.map ByteArray.size).sum

theorem textL_length (l : List ByteArray) : (textL l).length = bulk l + l.length := by
  induction l with
  | nil => rfl
  | cons s l ih =>
    simp only [textL, bulk, List.flatMap_cons, List.length_append, List.map_cons, List.sum_cons, List.length_cons, List.length_nil] at ih ⊢
    rw [bytes_length]; omega

theorem textL_split (l : List ByteArray) (k : Nat) : textL l = textL (l.take k) ++ textL (l.drop k) := by
  rw [textL, textL, textL, ← List.flatMap_append, List.take_append_drop]

theorem textL_next {l : List ByteArray} {k : Nat} (hk : k < l.length) : textL (l.take (k + 1)) = textL (l.take k) ++ bytes (l.getD k ByteArray.empty) ++ [10] := by
  rw [List.take_succ_eq_append_getElem hk, textL_snoc]
  simp [List.getD, List.getElem?_eq_getElem hk]

theorem textL_room {l : List ByteArray} {k : Nat} (hk : k < l.length) : (textL (l.take k)).length + (l.getD k ByteArray.empty).size + 1 ≤ (textL l).length := by
  have h1 := congrArg List.length (textL_split l (k + 1))
  have h2 := congrArg List.length (textL_next hk)
  rw [List.length_append] at h1
  rw [List.length_append, List.length_append, bytes_length] at h2
  simp only [List.length_cons, List.length_nil] at h2
  omega

theorem text_step (a : List UInt8) (x : ByteArray) : txt a ++ x ++ ⟨#[10]⟩ = txt (a ++ bytes x ++ [10]) := by
  have h : ∀ p q : ByteArray, bytes p = bytes q → p = q := fun p q h => by rw [← txt_bytes p, h, txt_bytes]
  apply h
  rw [bytes_txt]
  unfold bytes txt
  simp [ByteArray.data_append]

/-- How many lines the first i rows have, and how many bytes. -/
def cnt (ss : Nat → List ByteArray) : Nat → Nat
  | 0 => 0
  | i + 1 => cnt ss i + (ss i).length

def blk (ss : Nat → List ByteArray) : Nat → Nat
  | 0 => 0
  | i + 1 => blk ss i + bulk (ss i)

theorem cnt_le {ss : Nat → List ByteArray} {n : Nat → Nat} {k : Nat} (hl : ∀ i, i < k → (ss i).length = n i) (hn : ∀ i, i < k → n i ≤ 140737488355328) (i : Nat) (hi : i ≤ k) : cnt ss i ≤ i * 140737488355328 := by
  induction i with
  | zero => simp [cnt]
  | succ i ih =>
    have h1 := ih (by omega)
    have h2 := hl i (by omega)
    have h3 := hn i (by omega)
    simp only [cnt]; omega

theorem bulk_take_succ {l : List ByteArray} {j : Nat} (h : j < l.length) : bulk (l.take (j + 1)) = bulk (l.take j) + (l.getD j ByteArray.empty).size := by
  rw [List.take_succ_eq_append_getElem h]
  simp only [bulk, List.map_append, List.sum_append, List.map_cons, List.map_nil, List.sum_cons, List.sum_nil, List.getD, List.getElem?_eq_getElem h, Option.getD_some, Nat.add_zero]

theorem bulk_take_le {l : List ByteArray} (h : ∀ s ∈ l, s.size ≤ 140737488355328) (j : Nat) (hj : j ≤ l.length) : bulk (l.take j) ≤ j * 140737488355328 := by
  induction j with
  | zero => simp [bulk]
  | succ j ih =>
    have hlt : j < l.length := by omega
    have h1 := ih (by omega)
    have h2 := h l[j] (List.getElem_mem hlt)
    rw [bulk_take_succ hlt]
    simp only [List.getD, List.getElem?_eq_getElem hlt, Option.getD_some]
    omega

theorem blk_le {ss : Nat → List ByteArray} {k : Nat} (h : ∀ i, i < k → ∀ s ∈ ss i, s.size ≤ 140737488355328) (i : Nat) (hi : i ≤ k) : blk ss i ≤ cnt ss i * 140737488355328 := by
  induction i with
  | zero => simp [blk]
  | succ i ih =>
    have h1 := ih (by omega)
    have h2 := bulk_take_le (h i (by omega)) (ss i).length (Nat.le_refl _)
    rw [List.take_length] at h2
    simp only [blk, cnt]
    omega

/-- None of the first k lines has a byte 10. -/
def wholeB (xs : List ByteArray) (k : Nat) : Bool := (xs.take k).all fun x => !hasEnd x

theorem wholeB_succ {xs : List ByteArray} {k : Nat} (h : k < xs.length) : wholeB xs (k + 1) = (wholeB xs k && !hasEnd (xs.getD k ByteArray.empty)) := by
  unfold wholeB
  rw [List.take_succ_eq_append_getElem h, List.all_append]
  simp [List.getD, List.getElem?_eq_getElem h]

theorem wholeB_lines {xs : List ByteArray} {k : Nat} (hk : xs.length ≤ k) (h : wholeB xs k = true) : lines (txt (textL xs)) = xs := by
  refine lines_textL xs fun s hs c hc => ?_
  unfold wholeB at h
  rw [List.take_of_length_le hk] at h
  have h1 := List.all_eq_true.1 h s hs
  intro e
  subst e
  obtain ⟨i, hi, hg⟩ := List.getElem_of_mem hc
  have := hasEnd_yes (s := s) (k := i) (by unfold bytes at hi hg; rw [List.getElem?_eq_getElem hi, hg])
  rw [this] at h1
  cases h1

theorem suffix_ten (s : ByteArray) (h0 : s.size ≠ 0) : Lib.hasSuffix s.data.toList [10] = decide ((bytes s).getLast? = some 10) := by
  have hne : bytes s ≠ [] := by
    intro e
    have := bytes_length s
    rw [e] at this; simp at this; omega
  unfold Lib.hasSuffix
  show List.isSuffixOf [10] (bytes s) = _
  generalize bytes s = l at hne
  rw [Bool.eq_iff_iff, List.isSuffixOf_iff_suffix, decide_eq_true_eq]
  constructor
  · rintro ⟨t, rfl⟩
    simp
  · intro h
    exact ⟨l.dropLast, by rw [List.getLast?_eq_some_getLast hne] at h; injection h with h; rw [← h]; exact List.dropLast_concat_getLast hne⟩

theorem ended_same {s : ByteArray} (h : s.size = 0 ∨ Lib.hasSuffix s.data.toList [10] = true) : txt (textL (lines s)) = s := by
  rw [textL_lines]
  unfold ended
  have : bytes s = [] ∨ (bytes s).getLast? = some 10 := by
    by_cases h0 : s.size = 0
    · left; exact List.eq_nil_of_length_eq_zero (by rw [bytes_length]; exact h0)
    · right
      rcases h with h | h
      · exact absurd h h0
      · rw [suffix_ten s h0] at h
        simpa using h
  rw [if_pos this, List.append_nil, txt_bytes]

theorem ended_more {s : ByteArray} (h0 : s.size ≠ 0) (h : Lib.hasSuffix s.data.toList [10] = false) : txt (textL (lines s)) = s ++ ⟨#[10]⟩ := by
  rw [textL_lines]
  unfold ended
  have hn : ¬ (bytes s = [] ∨ (bytes s).getLast? = some 10) := by
    rintro (h1 | h1)
    · have := bytes_length s
      rw [h1] at this; simp at this; omega
    · rw [suffix_ten s h0, h1] at h
      simp at h
  rw [if_neg hn]
  have := text_step (bytes s) ⟨#[]⟩
  rw [txt_bytes] at this
  have e : s ++ (⟨#[]⟩ : ByteArray) = s := by
    have h : ∀ p q : ByteArray, bytes p = bytes q → p = q := fun p q h => by rw [← txt_bytes p, h, txt_bytes]
    apply h; unfold bytes; simp [ByteArray.data_append]
  rw [e] at this
  rw [this]
  simp [bytes]

/-- How a text ends, and what it is with a byte 10 at its end. -/
def Wants (s want : ByteArray) : Prop :=
  txt (textL (lines s)) = want ∧ ((s = ⟨#[]⟩ ∧ want = s) ∨ (s.toList.isEmpty = false ∧ Lib.hasSuffix s.data.toList [10] = true ∧ want = s) ∨ (s.toList.isEmpty = false ∧ Lib.hasSuffix s.data.toList [10] = false ∧ want = s ++ ⟨#[10]⟩))

theorem wants_any (s : ByteArray) : ∃ want, Wants s want := by
  by_cases h0 : s.size = 0
  · have er : s = ⟨#[]⟩ := by
      have := txt_bytes s
      rw [List.eq_nil_of_length_eq_zero (l := bytes s) (by rw [bytes_length]; exact h0)] at this
      exact this.symm
    exact ⟨s, ended_same (.inl h0), .inl ⟨er, rfl⟩⟩
  · have he := toList_isEmpty h0
    cases hsf : Lib.hasSuffix s.data.toList [10]
    · exact ⟨_, ended_more h0 hsf, .inr (.inr ⟨he, hsf, rfl⟩)⟩
    · exact ⟨s, ended_same (.inr hsf), .inr (.inl ⟨he, hsf, rfl⟩)⟩

/-- How many bytes 10 a text has, how many lines, and how it ends. -/
def Ends3 (s : ByteArray) (cn ln : Nat) : Prop :=
  (s = ⟨#[]⟩ ∧ ln = cn) ∨ (s.toList.isEmpty = false ∧ Lib.hasSuffix s.data.toList [10] = true ∧ ln = cn) ∨ (s.toList.isEmpty = false ∧ Lib.hasSuffix s.data.toList [10] = false ∧ ln = cn + 1)

theorem ends3_any (s : ByteArray) : Ends3 s (Lib.countByte s.data.toList 10) (lines s).length := by
  have hl := lines_count s
  have hcb : Lib.countByte s.data.toList 10 = (bytes s).count 10 := rfl
  rw [← hcb] at hl
  by_cases h0 : s.size = 0
  · have eb : bytes s = [] := List.eq_nil_of_length_eq_zero (by rw [bytes_length]; exact h0)
    have er : s = ⟨#[]⟩ := by
      have := txt_bytes s
      rw [eb] at this
      exact this.symm
    exact .inl ⟨er, by rw [hl, if_pos (.inl eb)]; rfl⟩
  · have he := toList_isEmpty h0
    have hne : bytes s ≠ [] := by
      intro e
      have := bytes_length s
      rw [e] at this; simp at this; omega
    have hsf := suffix_ten s h0
    by_cases hlast : (bytes s).getLast? = some 10
    · exact .inr (.inl ⟨he, by rw [hsf]; simpa using hlast, by rw [hl, if_pos (.inr hlast)]; rfl⟩)
    · exact .inr (.inr ⟨he, by rw [hsf]; simpa using hlast, by rw [hl, if_neg (by rintro (h | h) <;> contradiction)]⟩)

theorem countByte_le (s : ByteArray) : Lib.countByte s.data.toList 10 ≤ s.size := by
  have : Lib.countByte s.data.toList 10 ≤ s.data.toList.length := List.count_le_length
  simpa using this

end Go.Proofs.YtnhhdjcbifmfgaaDoor

/-
  Trees as rows of files, rising by name: what the calls on them come to. Nothing of any program.
-/
namespace Go.Proofs.YtnhhdjcbifmfgaaDoor
open Go.RowKit

/-- Does a stand ahead of b, byte by byte? -/
def ltN (a b : ByteArray) : Bool := bytesBefore (bytes a) (bytes b)
theorem bytes_inj {a b : ByteArray} (h : bytes a = bytes b) : a = b := by rw [← txt_bytes a, h, txt_bytes]
theorem ltN_irrefl (a : ByteArray) : ltN a a = false := WideAt.bytes_irrefl _
theorem ltN_total {a b : ByteArray} (h : a ≠ b) : ltN a b = true ∨ ltN b a = true := WideAt.bytes_total _ _ (fun e => h (bytes_inj e))
theorem ltN_trans {a b c : ByteArray} (h : ltN a b = true) (k : ltN b c = true) : ltN a c = true := WideShapes.bytes_trans _ _ _ h k
theorem ltN_asymm {a b : ByteArray} (h : ltN a b = true) : ltN b a = false := by
  cases k : ltN b a
  · rfl
  · have := ltN_trans h k; rw [ltN_irrefl] at this; cases this
theorem ltN_ne {a b : ByteArray} (h : ltN a b = true) : a ≠ b := by rintro rfl; rw [ltN_irrefl] at h; cases h

theorem less_before : ∀ a b : List UInt8, Op.bytesLess a b = bytesBefore a b
  | [], [] => rfl
  | [], _ :: _ => rfl
  | _ :: _, [] => rfl
  | a :: r, b :: s => by
    have ih := less_before r s
    unfold Op.bytesLess bytesBefore
    rw [← ih]
theorem less_is (a b : ByteArray) : Op.bytesLess a.toList b.toList = ltN a b := by
  rw [less_before, ByteArray.toList_eq, ByteArray.toList_eq]; rfl

/-- Files with whatever they hold, by their names. -/
abbrev Fl (α : Type) := List (ByteArray × α)
abbrev Tr := Fl (List ByteArray)

section
variable {α β : Type}

def getT (t : Fl α) (n : ByteArray) : Option α := (t.find? fun f => decide (f.1 = n)).map (·.2)
def hasT (t : Fl α) (n : ByteArray) : Bool := (getT t n).isSome
def withoutT (t : Fl α) (n : ByteArray) : Fl α := t.filter fun f => decide (f.1 ≠ n)
def withT (t : Fl α) (n : ByteArray) (x : α) : Fl α := (withoutT t n).filter (fun f => ltN f.1 n) ++ (n, x) :: (withoutT t n).filter (fun f => ltN n f.1)
def Rising (t : Fl α) : Prop := t.Pairwise fun a b => ltN a.1 b.1 = true
/-- The same files, each with g of what it holds. -/
def mapT (g : α → β) (t : Fl α) : Fl β := t.map fun f => (f.1, g f.2)

theorem mapT_length (g : α → β) (t : Fl α) : (mapT g t).length = t.length := by simp [mapT]
theorem withoutT_map (g : α → β) (t : Fl α) (n : ByteArray) : withoutT (mapT g t) n = mapT g (withoutT t n) := by
  simp [withoutT, mapT, List.filter_map, Function.comp_def]
theorem withT_map (g : α → β) (t : Fl α) (n : ByteArray) (x : α) : withT (mapT g t) n (g x) = mapT g (withT t n x) := by
  simp only [withT, withoutT_map]
  simp [mapT, List.filter_map, Function.comp_def]
theorem getT_map (g : α → β) (t : Fl α) (n : ByteArray) : getT (mapT g t) n = (getT t n).map g := by
  simp [getT, mapT, List.find?_map, Function.comp_def]
theorem hasT_map (g : α → β) (t : Fl α) (n : ByteArray) : hasT (mapT g t) n = hasT t n := by
  simp [hasT, getT_map]
theorem rising_map {g : α → β} {t : Fl α} : Rising (mapT g t) ↔ Rising t := by
  simp [Rising, mapT, List.pairwise_map]

theorem rising_tail {f : ByteArray × α} {t : Fl α} (h : Rising (f :: t)) : Rising t := (List.pairwise_cons.1 h).2
theorem rising_head {f g : ByteArray × α} {t : Fl α} (h : Rising (f :: t)) (hg : g ∈ t) : ltN f.1 g.1 = true := (List.pairwise_cons.1 h).1 g hg

/-- Of one name there is one file. -/
theorem rising_one {t : Fl α} (h : Rising t) {f g : ByteArray × α} (hf : f ∈ t) (hg : g ∈ t) (e : f.1 = g.1) : f = g := by
  induction t with
  | nil => cases hf
  | cons a t ih =>
    rcases List.mem_cons.1 hf with rfl | hf'
    · rcases List.mem_cons.1 hg with rfl | hg'
      · rfl
      · exact absurd e (ltN_ne (rising_head h hg'))
    · rcases List.mem_cons.1 hg with rfl | hg'
      · exact absurd e.symm (ltN_ne (rising_head h hf'))
      · exact ih (rising_tail h) hf' hg'

theorem getT_mem {t : Fl α} {n : ByteArray} {x : α} (h : getT t n = some x) : (n, x) ∈ t := by
  simp only [getT, Option.map_eq_some_iff] at h
  obtain ⟨f, hf, rfl⟩ := h
  have h1 := List.find?_some hf
  have h2 := List.mem_of_find?_eq_some hf
  simp only [decide_eq_true_eq] at h1
  rw [← h1]; exact h2
theorem getT_none {t : Fl α} {n : ByteArray} : getT t n = none ↔ ∀ f ∈ t, f.1 ≠ n := by
  simp [getT, List.find?_eq_none]
theorem getT_iff {t : Fl α} (h : Rising t) {n : ByteArray} {x : α} : getT t n = some x ↔ (n, x) ∈ t := by
  refine ⟨getT_mem, fun hm => ?_⟩
  cases hg : getT t n with
  | none => exact absurd rfl (getT_none.1 hg _ hm)
  | some y =>
    have := rising_one h hm (getT_mem hg) rfl
    simp only [Prod.mk.injEq, true_and] at this
    rw [this]
theorem hasT_iff {t : Fl α} {n : ByteArray} : hasT t n = true ↔ ∃ f ∈ t, f.1 = n := by
  unfold hasT
  rw [Option.isSome_iff_ne_none]
  constructor
  · intro h
    rcases Classical.em (∃ f ∈ t, f.1 = n) with h1 | h1
    · exact h1
    · exact absurd (getT_none.2 fun f hf e => h1 ⟨f, hf, e⟩) h
  · rintro ⟨f, hf, e⟩ h
    exact getT_none.1 h f hf e
theorem hasT_no {t : Fl α} {n : ByteArray} : hasT t n = false ↔ ∀ f ∈ t, f.1 ≠ n := by
  rw [← getT_none]; unfold hasT; cases getT t n <;> simp
theorem hasT_get {t : Fl α} {n : ByteArray} (h : hasT t n = true) : ∃ x, getT t n = some x := Option.isSome_iff_exists.1 h
theorem getT_has {t : Fl α} {n : ByteArray} {x : α} (h : getT t n = some x) : hasT t n = true := by simp [hasT, h]

theorem mem_without {t : Fl α} {n : ByteArray} {f : ByteArray × α} : f ∈ withoutT t n ↔ f ∈ t ∧ f.1 ≠ n := by simp [withoutT]
theorem mem_with {t : Fl α} {n : ByteArray} {x : α} {f : ByteArray × α} : f ∈ withT t n x ↔ f = (n, x) ∨ (f ∈ t ∧ f.1 ≠ n) := by
  simp only [withT, List.mem_append, List.mem_cons, List.mem_filter, mem_without]
  constructor
  · rintro (⟨h, _⟩ | h | ⟨h, _⟩)
    · exact .inr h
    · exact .inl h
    · exact .inr h
  · rintro (h | h)
    · exact .inr (.inl h)
    · rcases ltN_total h.2 with k | k
      · exact .inl ⟨h, k⟩
      · exact .inr (.inr ⟨h, k⟩)

theorem rising_without {t : Fl α} (h : Rising t) (n : ByteArray) : Rising (withoutT t n) := List.Pairwise.filter _ h
theorem rising_with {t : Fl α} (h : Rising t) (n : ByteArray) (x : α) : Rising (withT t n x) := by
  have hw := rising_without h n
  refine List.pairwise_append.2 ⟨List.Pairwise.filter _ hw, List.pairwise_cons.2 ⟨fun f hf => ?_, List.Pairwise.filter _ hw⟩, fun f hf g hg => ?_⟩
  · simpa using (List.mem_filter.1 hf).2
  · have h1 : ltN f.1 n = true := by simpa using (List.mem_filter.1 hf).2
    rcases List.mem_cons.1 hg with rfl | hg
    · exact h1
    · exact ltN_trans h1 (by simpa using (List.mem_filter.1 hg).2)
theorem rising_nil : Rising ([] : Fl α) := List.Pairwise.nil

/-- Two rising rows of the same files are one. -/
theorem rising_ext : ∀ {a b : Fl α}, Rising a → Rising b → (∀ f, f ∈ a ↔ f ∈ b) → a = b
  | [], [], _, _, _ => rfl
  | [], y :: b, _, _, h => absurd ((h y).2 List.mem_cons_self) (by simp)
  | x :: a, [], _, _, h => absurd ((h x).1 List.mem_cons_self) (by simp)
  | x :: a, y :: b, ha, hb, h => by
    have hxy : x = y := by
      rcases List.mem_cons.1 ((h x).1 List.mem_cons_self) with e | hx
      · exact e
      · rcases List.mem_cons.1 ((h y).2 List.mem_cons_self) with e | hy
        · exact e.symm
        · have h1 := rising_head hb hx
          have h2 := ltN_asymm (rising_head ha hy)
          rw [h1] at h2; cases h2
    subst hxy
    refine congrArg _ (rising_ext (rising_tail ha) (rising_tail hb) fun f => ⟨fun hf => ?_, fun hf => ?_⟩)
    · rcases List.mem_cons.1 ((h f).1 (List.mem_cons_of_mem _ hf)) with rfl | hf'
      · exact absurd rfl (ltN_ne (rising_head ha hf))
      · exact hf'
    · rcases List.mem_cons.1 ((h f).2 (List.mem_cons_of_mem _ hf)) with rfl | hf'
      · exact absurd rfl (ltN_ne (rising_head hb hf))
      · exact hf'

theorem with_length {t : Fl α} (n : ByteArray) (x : α) : (withT t n x).length ≤ t.length + 1 := by
  have h1 : ∀ u : Fl α, (u.filter (fun f => ltN f.1 n)).length + (u.filter (fun f => ltN n f.1)).length ≤ u.length := fun u => by
    induction u with
    | nil => simp
    | cons f u ih =>
      simp only [List.filter_cons, List.length_cons]
      by_cases h : ltN f.1 n = true
      · simp only [h, if_true, ltN_asymm h, List.length_cons]; simp; omega
      · rw [if_neg h]; split <;> (try simp only [List.length_cons]) <;> omega
  have h2 := h1 (withoutT t n)
  have h3 : (withoutT t n).length ≤ t.length := List.length_filter_le _ _
  simp only [withT, List.length_append, List.length_cons]; omega
theorem without_length (t : Fl α) (n : ByteArray) : (withoutT t n).length ≤ t.length := List.length_filter_le _ _

theorem without_id {t : Fl α} {n : ByteArray} (h : hasT t n = false) : withoutT t n = t := List.filter_eq_self.2 fun f hf => by simpa using hasT_no.1 h f hf

/-- What was added can be removed. -/
theorem without_with {t : Fl α} (ht : Rising t) {n : ByteArray} (h : hasT t n = false) (x : α) : withoutT (withT t n x) n = t := by
  refine rising_ext (rising_without (rising_with ht n x) n) ht fun f => ?_
  rw [mem_without, mem_with]
  constructor
  · rintro ⟨rfl | h1, h2⟩
    · exact absurd rfl h2
    · exact h1.1
  · exact fun hf => ⟨.inr ⟨hf, hasT_no.1 h f hf⟩, hasT_no.1 h f hf⟩
/-- What was taken away can be put back. -/
theorem with_without {t : Fl α} (ht : Rising t) {n : ByteArray} {x : α} (h : getT t n = some x) : withT (withoutT t n) n x = t := by
  refine rising_ext (rising_with (rising_without ht n) n x) ht fun f => ?_
  rw [mem_with, mem_without]
  constructor
  · rintro (rfl | h1)
    · exact getT_mem h
    · exact h1.1.1
  · intro hf
    by_cases e : f.1 = n
    · exact .inl (rising_one ht hf (getT_mem h) e)
    · exact .inr ⟨⟨hf, e⟩, e⟩
theorem get_with_same {t : Fl α} (ht : Rising t) (n : ByteArray) (x : α) : getT (withT t n x) n = some x := (getT_iff (rising_with ht n x)).2 (mem_with.2 (.inl rfl))
theorem get_without_same (t : Fl α) (n : ByteArray) : getT (withoutT t n) n = none := getT_none.2 fun _ hf => (mem_without.1 hf).2
theorem has_without_same (t : Fl α) (n : ByteArray) : hasT (withoutT t n) n = false := hasT_no.2 fun _ hf => (mem_without.1 hf).2
theorem has_without_no {t : Fl α} {m : ByteArray} (h : hasT t m = false) (n : ByteArray) : hasT (withoutT t n) m = false := hasT_no.2 fun f hf => hasT_no.1 h f (mem_without.1 hf).1
theorem has_with_other {t : Fl α} {m n : ByteArray} (x : α) (h : m ≠ n) : hasT (withT t n x) m = hasT t m := by
  rw [Bool.eq_iff_iff, hasT_iff, hasT_iff]
  constructor
  · rintro ⟨f, hf, rfl⟩
    rcases mem_with.1 hf with rfl | h1
    · exact absurd rfl h
    · exact ⟨f, h1.1, rfl⟩
  · rintro ⟨f, hf, rfl⟩
    exact ⟨f, mem_with.2 (.inr ⟨hf, h⟩), rfl⟩
theorem get_with_other {t : Fl α} (ht : Rising t) {m n : ByteArray} (x : α) (h : m ≠ n) : getT (withT t n x) m = getT t m := by
  cases hg : getT t m with
  | none =>
    refine getT_none.2 fun f hf => ?_
    rcases mem_with.1 hf with rfl | h1
    · exact fun e => h e.symm
    · exact getT_none.1 hg f h1.1
  | some y => exact (getT_iff (rising_with ht n x)).2 (mem_with.2 (.inr ⟨getT_mem hg, h⟩))
/-- The names, when a file that is there is given other lines. -/
theorem names_with {t : Fl α} (ht : Rising t) {n : ByteArray} (h : hasT t n = true) (x : α) : (withT t n x).map (·.1) = t.map (·.1) := by
  have h1 : mapT (fun _ => ()) (withT t n x) = mapT (fun _ => ()) t := by
    refine rising_ext (rising_map.2 (rising_with ht n x)) (rising_map.2 ht) fun f => ?_
    simp only [mapT, List.mem_map]
    constructor
    · rintro ⟨g, hg, rfl⟩
      rcases mem_with.1 hg with rfl | hg
      · obtain ⟨y, hy⟩ := hasT_get h
        exact ⟨_, getT_mem hy, rfl⟩
      · exact ⟨g, hg.1, rfl⟩
    · rintro ⟨g, hg, rfl⟩
      by_cases e : g.1 = n
      · exact ⟨(n, x), mem_with.2 (.inl rfl), by rw [e]⟩
      · exact ⟨g, mem_with.2 (.inr ⟨hg, e⟩), rfl⟩
  have h2 := congrArg (List.map (·.1)) h1
  simpa [mapT, Function.comp_def] using h2
end

/-- May the byte stand in a name? -/
def nameByte (c : UInt8) : Bool := (decide (97 ≤ c) && decide (c ≤ 122)) || (decide (48 ≤ c) && decide (c ≤ 57)) || c == 46 || c == 45 || c == 95 || c == 47
def namedB (s : ByteArray) : Bool := decide (1 ≤ s.size) && decide (s.size ≤ 24) && (bytes s).all nameByte

/-- A call. -/
structure OpV where
  kind : Int
  name : ByteArray
  to : ByteArray
  l : List ByteArray

/-- P2.2: the tree behind a call, and its error. -/
def addT (t : Tr) (n : ByteArray) : Tr × Int := if namedB n = false then (t, 20) else if hasT t n = true then (t, 21) else (withT t n [], 0)
def removeT (t : Tr) (n : ByteArray) : Tr × Int := match getT t n with | none => (t, 20) | some l => if 0 < l.length then (t, 22) else (withoutT t n, 0)
def moveT (t : Tr) (a b : ByteArray) : Tr × Int := match getT t a with | none => (t, 20) | some l => if namedB b = false then (t, 20) else if hasT t b = true then (t, 21) else (withT (withoutT t a) b l, 0)
def putT (t : Tr) (n : ByteArray) (l : List ByteArray) : Tr × Int := if hasT t n = false then (t, 20) else if allB l = false then (t, 1) else (withT t n l, 0)
def doT (t : Tr) (o : OpV) : Tr × Int :=
  if o.kind = 0 then addT t o.name else if o.kind = 1 then removeT t o.name else if o.kind = 2 then moveT t o.name o.to else if o.kind = 3 then putT t o.name o.l else (t, 0)

/-- Are both the same? -/
def sameT (a b : Tr) : Bool := decide (a = b)
theorem sameT_no {a b : Tr} (h : a ≠ b) : sameT a b = false := by simp [sameT, h]
theorem sameT_self (a : Tr) : sameT a a = true := by simp [sameT]

end Go.Proofs.YtnhhdjcbifmfgaaDoor
