/-
  Trees are the same just if their texts are. Nothing of any program's steps.
-/
import Derived.Test.YtbjbimahmbapdaaDoorLwMade
import Derived.Test.YtbjbimahmbapdaaDoorTrText
namespace Go.Proofs.YtbjbimahmbapdaaDoor
open Go.RowKit Go.Maps

theorem split_at {c : UInt8} : ∀ {a b x y : List UInt8}, c ∉ a → c ∉ b → a ++ c :: x = b ++ c :: y → a = b ∧ x = y
  | [], [], x, y, _, _, h => by simp at h; exact ⟨rfl, h⟩
  | [], d :: b, x, y, _, hb, h => by simp at h; exact absurd (by rw [h.1]; exact List.mem_cons_self) hb
  | e :: a, [], x, y, ha, _, h => by simp at h; exact absurd (by rw [← h.1]; exact List.mem_cons_self) ha
  | e :: a, d :: b, x, y, ha, hb, h => by
    simp only [List.cons_append, List.cons.injEq] at h
    obtain ⟨h1, h2⟩ := split_at (fun m => ha (List.mem_cons_of_mem _ m)) (fun m => hb (List.mem_cons_of_mem _ m)) h.2
    exact ⟨by rw [h.1, h1], h2⟩

theorem digit_ge (d : Nat) (h : d < 10) : (UInt8.ofNat (48 + d)).toNat = 48 + d := by
  rw [UInt8.toNat_ofNat']; omega
theorem digits_no (n : Nat) : (10 : UInt8) ∉ Lib.decDigits n := by
  induction n using Nat.strongRecOn with
  | ind n ih =>
    rw [Lib.decDigits]
    have key : ∀ d, d < 10 → (10 : UInt8) ≠ UInt8.ofNat (48 + d) := fun d hd e => by
      have := congrArg UInt8.toNat e
      rw [digit_ge d hd] at this
      simp at this; omega
    split
    · rename_i h; simpa using key n h
    · rename_i h
      rw [List.mem_append]
      rintro (h1 | h1)
      · exact ih (n / 10) (by omega) h1
      · exact key (n % 10) (by omega) (by simpa using h1)
/-- The number of digits. -/
def numOf (l : List UInt8) : Nat := l.foldl (fun a c => a * 10 + (c.toNat - 48)) 0
theorem num_digits (n : Nat) : numOf (Lib.decDigits n) = n := by
  induction n using Nat.strongRecOn with
  | ind n ih =>
    rw [Lib.decDigits]
    split
    · rename_i h; simp only [numOf, List.foldl_cons, List.foldl_nil]; rw [digit_ge n h]; omega
    · rename_i h
      have h1 := ih (n / 10) (by omega)
      unfold numOf at h1 ⊢
      rw [List.foldl_append, h1]
      simp only [List.foldl_cons, List.foldl_nil]
      rw [digit_ge (n % 10) (by omega)]; omega
theorem digits_inj {a b : Nat} (h : Lib.decDigits a = Lib.decDigits b) : a = b := by rw [← num_digits a, h, num_digits]

theorem right_no {s : ByteArray} (h : rightB s = true) : (10 : UInt8) ∉ bytes s := by
  intro hm
  obtain ⟨k, hk⟩ := List.getElem?_of_mem hm
  have h1 := hasEnd_yes (s := s) hk
  simp [rightB, h1] at h
theorem named_no32 {s : ByteArray} (h : namedB s = true) : (32 : UInt8) ∉ bytes s := by
  intro hm
  simp only [namedB, Bool.and_eq_true] at h
  have := List.all_eq_true.1 h.2 _ hm
  exact absurd this (by decide)

theorem lines_split : ∀ {a b : List ByteArray} {x y : List UInt8}, a.length = b.length → allB a = true → allB b = true → textL a ++ x = textL b ++ y → a = b ∧ x = y
  | [], [], x, y, _, _, _, h => ⟨rfl, by simpa [textL] using h⟩
  | [], _ :: _, _, _, hl, _, _, _ => by simp at hl
  | _ :: _, [], _, _, hl, _, _, _ => by simp at hl
  | s :: a, r :: b, x, y, hl, ha, hb, h => by
    simp only [allB, List.all_cons, Bool.and_eq_true] at ha hb
    have h' : bytes s ++ 10 :: (textL a ++ x) = bytes r ++ 10 :: (textL b ++ y) := by simpa [textL] using h
    obtain ⟨h1, h2⟩ := split_at (right_no ha.1) (right_no hb.1) h'
    obtain ⟨h3, h4⟩ := lines_split (by simpa using hl) ha.2 hb.2 h2
    exact ⟨by rw [bytes_inj h1, h3], h4⟩

theorem text_inj : ∀ {j k : Nat} {a b : Tr}, Fits j a → Fits k b → textT a = textT b → a = b
  | _, _, [], [], _, _, _ => rfl
  | _, _, [], f :: b, _, _, h => by
    have := congrArg List.length h
    simp [textT, headL] at this
  | _, _, f :: a, [], _, _, h => by
    have := congrArg List.length h
    simp [textT, headL] at this
  | j, k, f :: a, g :: b, ha, hb, h => by
    obtain ⟨f1, f2, _⟩ := ha.each f List.mem_cons_self
    obtain ⟨g1, g2, _⟩ := hb.each g List.mem_cons_self
    have h' : bytes f.1 ++ 32 :: (Lib.decDigits f.2.length ++ 10 :: (textL f.2 ++ textT a)) = bytes g.1 ++ 32 :: (Lib.decDigits g.2.length ++ 10 :: (textL g.2 ++ textT b)) := by
      simpa [textT, headL, List.append_assoc] using h
    obtain ⟨e1, h2⟩ := split_at (named_no32 f1) (named_no32 g1) h'
    obtain ⟨e2, h3⟩ := split_at (digits_no _) (digits_no _) h2
    obtain ⟨e3, h4⟩ := lines_split (digits_inj e2) f2 g2 h3
    have ra : Fits j a := ⟨Nat.le_trans (Nat.le_succ _) ha.many, fun x hx => ha.each x (List.mem_cons_of_mem _ hx)⟩
    have rb : Fits k b := ⟨Nat.le_trans (Nat.le_succ _) hb.many, fun x hx => hb.each x (List.mem_cons_of_mem _ hx)⟩
    rw [text_inj ra rb h4]
    have : f = g := Prod.ext (bytes_inj e1) e3
    rw [this]

/-- A text's length. -/
theorem text_le {k : Nat} {t : Tr} (h : Fits k t) : (textT t).length ≤ k * 8100 := by
  have key : ∀ u : Tr, (∀ f ∈ u, namedB f.1 = true ∧ allB f.2 = true ∧ heavy f.2 ≤ 8000) → (textT u).length ≤ u.length * 8100 := fun u => by
    induction u with
    | nil => intro _; simp [textT]
    | cons f u ih =>
      intro hu
      have h1 := ih fun x hx => hu x (List.mem_cons_of_mem _ hx)
      obtain ⟨f1, _, f3⟩ := hu f List.mem_cons_self
      have h2 := (named_size f1).2
      have h3 : f.2.length ≤ 65536 := by unfold heavy at f3; omega
      have h4 := digits_length f.2.length h3
      have h5 : ∀ l : List ByteArray, (textL l).length = heavy l := fun l => by
        induction l with
        | nil => rfl
        | cons s l ih => simp only [textL, List.flatMap_cons, List.length_append, heavy, List.length_cons, List.map_cons, List.sum_cons, bytes_length, List.length_nil] at ih ⊢; omega
      have h6 := h5 f.2
      simp only [textT, headL, List.flatMap_cons, List.length_append, List.length_cons, bytes_length, List.length_nil] at h1 ⊢
      omega
  exact Nat.le_trans (key t h.each) (Nat.mul_le_mul_right _ h.many)

end Go.Proofs.YtbjbimahmbapdaaDoor
