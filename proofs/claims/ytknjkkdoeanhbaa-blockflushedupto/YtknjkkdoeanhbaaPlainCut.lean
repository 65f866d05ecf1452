/-
  The lines of a text, and the text of lines, as lists of bytes. Nothing of any program.
-/
import Derived.Test.YtknjkkdoeanhbaaPlain
namespace Go.Proofs.Ytknjkkdoeanhbaa

def bytes (s : ByteArray) : List UInt8 := s.data.toList
def txt (l : List UInt8) : ByteArray := ⟨l.toArray⟩
theorem txt_bytes (s : ByteArray) : txt (bytes s) = s := by unfold txt bytes; simp
theorem bytes_txt (l : List UInt8) : bytes (txt l) = l := by unfold txt bytes; simp
theorem bytes_length (s : ByteArray) : (bytes s).length = s.size := by unfold bytes; simp
theorem txt_size (l : List UInt8) : (txt l).size = l.length := by unfold txt; simp [ByteArray.size]
theorem txt_inj {a b : List UInt8} (h : txt a = txt b) : a = b := by rw [← bytes_txt a, h, bytes_txt]
theorem extract_txt (s : ByteArray) (a b : Nat) : s.extract a b = txt (((bytes s).drop a).take (b - a)) := by
  have h := txt_bytes (s.extract a b)
  rw [← h]
  congr 1
  unfold bytes
  rw [ByteArray.data_extract, Array.toList_extract, List.extract_eq_take_drop]

/-- The lines of bytes, cur being what has been read of the line at hand. -/
def cutGo : List UInt8 → List UInt8 → List (List UInt8)
  | cur, [] => if cur = [] then [] else [cur]
  | cur, c :: r => if c = 10 then cur :: cutGo [] r else cutGo (cur ++ [c]) r
/-- The lines of a text. -/
def lines (s : ByteArray) : List ByteArray := (cutGo [] (bytes s)).map txt

theorem cutGo_at : ∀ (i : Nat) (cur l : List UInt8), l[i]? = some 10 → (∀ k, k < i → l[k]? ≠ some 10) → cutGo cur l = (cur ++ l.take i) :: cutGo [] (l.drop (i + 1))
  | _, _, [], h, _ => by simp at h
  | 0, cur, c :: r, h, _ => by
    simp at h
    subst h
    simp [cutGo]
  | i + 1, cur, c :: r, h, hno => by
    have hc : c ≠ 10 := by
      have := hno 0 (by omega)
      simpa using this
    have ih := cutGo_at i (cur ++ [c]) r (by simpa using h) (fun k hk => by
      have := hno (k + 1) (by omega)
      simpa using this)
    simp only [cutGo, if_neg hc, ih, List.take_succ_cons, List.drop_succ_cons]
    simp
theorem cutGo_none : ∀ (cur l : List UInt8), (∀ k : Nat, l[k]? ≠ some 10) → cutGo cur l = if cur ++ l = [] then [] else [cur ++ l]
  | cur, [], _ => by simp [cutGo]
  | cur, c :: r, hno => by
    have hc : c ≠ 10 := by
      have := hno 0
      simpa using this
    have ih := cutGo_none (cur ++ [c]) r (fun k => by
      have := hno (k + 1)
      simpa using this)
    simp only [cutGo, if_neg hc, ih]
    simp
theorem cutGo_length : ∀ (cur l : List UInt8), (cutGo cur l).length ≤ cur.length + l.length
  | cur, [] => by
    simp only [cutGo]
    by_cases h : cur = []
    · simp [h]
    · have : 0 < cur.length := List.length_pos_iff.2 h
      simp [h]; omega
  | cur, c :: r => by
    simp only [cutGo]
    split
    · have := cutGo_length [] r; simp at this ⊢; omega
    · have := cutGo_length (cur ++ [c]) r; simp at this ⊢; omega
theorem lines_length (s : ByteArray) : (lines s).length ≤ s.size := by
  have := cutGo_length [] (bytes s)
  simp only [lines, List.length_map]
  rw [bytes_length] at this
  simpa using this

theorem lines_at {s : ByteArray} {i : Nat} (h : (bytes s)[i]? = some 10) (hno : ∀ k, k < i → (bytes s)[k]? ≠ some 10) : lines s = s.extract 0 i :: lines (s.extract (i + 1) s.size) := by
  have hi : i < s.size := by
    rw [← bytes_length]
    rcases Nat.lt_or_ge i (bytes s).length with h' | h'
    · exact h'
    · rw [List.getElem?_eq_none h'] at h; cases h
  unfold lines
  rw [cutGo_at i [] (bytes s) h hno, extract_txt, extract_txt, bytes_txt, List.map_cons]
  simp only [List.nil_append, List.drop_zero, Nat.sub_zero]
  rw [List.take_of_length_le (l := (bytes s).drop (i + 1)) (by rw [List.length_drop, bytes_length]; omega)]
theorem lines_none {s : ByteArray} (h0 : s.size ≠ 0) (hno : ∀ k : Nat, (bytes s)[k]? ≠ some 10) : lines s = [s] := by
  have hne : bytes s ≠ [] := by
    intro e
    have := bytes_length s
    rw [e] at this; simp at this; omega
  unfold lines
  rw [cutGo_none [] (bytes s) hno]
  simp [hne, txt_bytes]
theorem lines_empty {s : ByteArray} (h0 : s.size = 0) : lines s = [] := by
  have hne : bytes s = [] := List.eq_nil_of_length_eq_zero (by rw [bytes_length]; exact h0)
  simp [lines, hne, cutGo]

/-- The text of lines. -/
def textL (l : List ByteArray) : List UInt8 := l.flatMap fun s => bytes s ++ [10]
theorem textL_snoc (l : List ByteArray) (s : ByteArray) : textL (l ++ [s]) = textL l ++ bytes s ++ [10] := by simp [textL]

/-- The text of the lines of a text is that, with a byte 10 at its end. -/
theorem flat_cutGo : ∀ (cur l : List UInt8), (cutGo cur l).flatMap (fun x => x ++ [10]) = cur ++ l ++ (if cur ++ l = [] ∨ (cur ++ l).getLast? = some 10 ∧ l ≠ [] then [] else [10])
  | cur, [] => by
    by_cases h : cur = [] <;> simp [cutGo, h]
  | cur, c :: r => by
    simp only [cutGo]
    split
    · rename_i hc
      subst hc
      rw [List.flatMap_cons, flat_cutGo [] r]
      by_cases hr : r = []
      · simp [hr]
      · simp [hr, List.getLast?_append, List.getLast?_cons]
        cases hl : r.getLast? with
        | none => exact absurd (List.getLast?_eq_none_iff.1 hl) hr
        | some x => simp
    · rename_i hc
      rw [flat_cutGo (cur ++ [c]) r]
      by_cases hr : r = []
      · simp [hr, hc]
      · simp [hr, List.append_assoc]

/-- The text with a byte 10 at its end, if it has any byte. -/
def ended (s : ByteArray) : List UInt8 := bytes s ++ (if bytes s = [] ∨ (bytes s).getLast? = some 10 then [] else [10])
theorem textL_lines (s : ByteArray) : textL (lines s) = ended s := by
  have h := flat_cutGo [] (bytes s)
  simp only [List.nil_append] at h
  have h2 : textL (lines s) = (cutGo [] (bytes s)).flatMap (fun x => x ++ [10]) := by
    simp only [textL, lines, List.flatMap_map, bytes_txt]
  rw [h2, h]
  unfold ended
  by_cases h0 : bytes s = [] <;> simp [h0]
theorem ended_length (s : ByteArray) : (ended s).length ≤ s.size + 1 := by
  unfold ended
  rw [List.length_append, bytes_length]
  split <;> simp

/-- The lines of the text of lines are these, if none has a byte 10. -/
theorem cutGo_line : ∀ (x cur r : List UInt8), (∀ c ∈ x, c ≠ 10) → cutGo cur (x ++ 10 :: r) = (cur ++ x) :: cutGo [] r
  | [], cur, r, _ => by simp [cutGo]
  | c :: x, cur, r, h => by
    have hc : c ≠ 10 := h c (by simp)
    have ih := cutGo_line x (cur ++ [c]) r (fun d hd => h d (by simp [hd]))
    simp only [List.cons_append, cutGo, if_neg hc, ih]
    simp
theorem lines_textL : ∀ (l : List ByteArray), (∀ s ∈ l, ∀ c ∈ bytes s, c ≠ 10) → lines (txt (textL l)) = l
  | [], _ => by simp [lines, textL, bytes_txt, cutGo]
  | s :: l, h => by
    have ih := lines_textL l (fun t ht => h t (by simp [ht]))
    unfold lines at ih ⊢
    rw [bytes_txt] at ih ⊢
    rw [show textL (s :: l) = bytes s ++ 10 :: textL l from by simp [textL], cutGo_line (bytes s) [] _ (h s (by simp)), List.map_cons, ih]
    simp [txt_bytes]

/-- How many lines a text has. -/
theorem cutGo_count : ∀ (cur l : List UInt8), (cutGo cur l).length = l.count 10 + (if cur ++ l = [] ∨ (cur ++ l).getLast? = some 10 ∧ l ≠ [] then 0 else 1)
  | cur, [] => by by_cases h : cur = [] <;> simp [cutGo, h]
  | cur, c :: r => by
    simp only [cutGo]
    split
    · rename_i hc
      subst hc
      rw [List.length_cons, cutGo_count [] r]
      by_cases hr : r = []
      · simp [hr]
      · simp [hr, List.getLast?_append, List.getLast?_cons]
        cases hl : r.getLast? with
        | none => exact absurd (List.getLast?_eq_none_iff.1 hl) hr
        | some x => simp; omega
    · rename_i hc
      rw [cutGo_count (cur ++ [c]) r, List.count_cons]
      by_cases hr : r = []
      · simp [hr, hc]
      · simp [hr, hc, List.append_assoc]
theorem lines_count (s : ByteArray) : (lines s).length = (bytes s).count 10 + (if bytes s = [] ∨ (bytes s).getLast? = some 10 then 0 else 1) := by
  have h := cutGo_count [] (bytes s)
  simp only [List.nil_append] at h
  simp only [lines, List.length_map, h]
  by_cases h0 : bytes s = [] <;> simp [h0]
end Go.Proofs.Ytknjkkdoeanhbaa
