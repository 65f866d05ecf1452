/-
  A device that forgets, plain: its blocks, its row of writes; what each call makes of it.
-/
import Derived.Test.YtknjkkdoeanhbaaBt
namespace Go.Proofs.Ytknjkkdoeanhbaa

/-- A write of the row: its block, what that had, what it has. -/
structure WrP where
  pl : Nat
  was : Bs
  is : Bs
/-- A device. -/
structure DvP where
  bl : List Bs
  row : List WrP
  ops : Nat
  armed : Bool
  left : Int
  down : Bool
def zeros (n : Nat) : Bs := List.replicate n 0
theorem zeros_length (n : Nat) : (zeros n).length = n := by simp [zeros]
/-- Bytes, and zeros behind them. -/
def fillB (b : Bs) : Bs := b ++ zeros (64 - b.length)
theorem fillB_length {b : Bs} (h : b.length ≤ 64) : (fillB b).length = 64 := by simp [fillB, zeros]; omega
structure DvOk (d : DvP) : Prop where
  one : 1 ≤ d.bl.length
  most : d.bl.length ≤ 4096
  size : ∀ b ∈ d.bl, b.length = 64
  row : ∀ x ∈ d.row, x.pl < d.bl.length ∧ x.was.length = 64 ∧ x.is.length = 64
  lo : -9223372036854775808 ≤ d.left
  hi : d.left ≤ 9223372036854775807
  arm : d.armed = true → 0 ≤ d.left
def newP (n : Nat) : DvP := ⟨List.replicate n (zeros 64), [], 0, false, 0, false⟩
theorem newP_ok {n : Nat} (h1 : 1 ≤ n) (h2 : n ≤ 4096) : DvOk (newP n) :=
  ⟨by simpa [newP] using h1, by simpa [newP] using h2, (fun b hb => by
    obtain ⟨_, rfl⟩ := List.mem_replicate.1 hb
    exact zeros_length 64), (fun x hx => by cases hx), (by show (-9223372036854775808 : Int) ≤ 0; omega), (by show (0 : Int) ≤ 9223372036854775807; omega), fun h => by cases h⟩
/-- How many blocks there are. -/
def countN (count : Int) : Nat := (max 1 (min count 4096)).toNat
theorem countN_lo (c : Int) : 1 ≤ countN c := by unfold countN; omega
theorem countN_hi (c : Int) : countN c ≤ 4096 := by unfold countN; omega
/-- An op more. -/
def opP (d : DvP) : DvP := if d.armed = true then (if d.left = 0 then { d with ops := d.ops + 1, down := true } else { d with ops := d.ops + 1, left := d.left - 1 }) else { d with ops := d.ops + 1 }
/-- What it tells. -/
def opE (d : DvP) : Int := if d.armed = true ∧ d.left = 0 then 100 else 0
theorem opP_ok {d : DvP} (h : DvOk d) : DvOk (opP d) := by
  obtain ⟨h1, h2, h3, h4, h5, h6, h7⟩ := h
  unfold opP
  by_cases ha : d.armed = true
  · rw [if_pos ha]
    have := h7 ha
    by_cases hl : d.left = 0
    · rw [if_pos hl]; exact ⟨h1, h2, h3, h4, h5, h6, h7⟩
    · rw [if_neg hl]; exact ⟨h1, h2, h3, h4, (by show _ ≤ d.left - 1; omega), (by show d.left - 1 ≤ _; omega), fun _ => by show 0 ≤ d.left - 1; omega⟩
  · rw [if_neg ha]; exact ⟨h1, h2, h3, h4, h5, h6, h7⟩
/-- The block is written, and the row has the write. -/
def putP (d : DvP) (k : Nat) (b : Bs) : DvP := { d with bl := d.bl.set k (fillB b), row := d.row ++ [⟨k, d.bl.getD k [], fillB b⟩] }
theorem putP_ok {d : DvP} (h : DvOk d) {k : Nat} (hk : k < d.bl.length) {b : Bs} (hb : b.length ≤ 64) : DvOk (putP d k b) := by
  obtain ⟨h1, h2, h3, h4, h5, h6, h7⟩ := h
  refine ⟨by simpa [putP] using h1, by simpa [putP] using h2, fun x hx => ?_, fun x hx => ?_, h5, h6, h7⟩
  · rcases List.mem_or_eq_of_mem_set hx with hx | rfl
    · exact h3 x hx
    · exact fillB_length hb
  · simp only [putP, List.length_set]
    rcases List.mem_append.1 hx with hx | hx
    · exact h4 x hx
    · simp only [List.mem_singleton] at hx
      subst hx
      refine ⟨hk, ?_, fillB_length hb⟩
      simp only [List.getD, List.getElem?_eq_getElem hk, Option.getD_some]
      exact h3 _ (List.getElem_mem hk)
def writeP (d : DvP) (k : Int) (b : Bs) : DvP × Int :=
  if d.down = true then (d, 100) else if k < 0 ∨ (d.bl.length : Int) ≤ k ∨ 64 < b.length then (d, 101) else (opP (putP d k.toNat b), opE d)
theorem writeP_ok {d : DvP} (h : DvOk d) (k : Int) (b : Bs) : DvOk (writeP d k b).1 := by
  unfold writeP
  split
  · exact h
  · split
    · exact h
    · rename_i h1 h2
      exact opP_ok (putP_ok h (by omega) (by omega))
def flushP (d : DvP) : DvP × Int :=
  if d.down = true then (d, 100) else if d.armed = true ∧ d.left = 0 then (opP d, 100) else ({ opP d with row := [] }, 0)
theorem flushP_ok {d : DvP} (h : DvOk d) : DvOk (flushP d).1 := by
  unfold flushP
  split
  · exact h
  · split
    · exact opP_ok h
    · obtain ⟨h1, h2, h3, h4, h5, h6, h7⟩ := opP_ok h
      exact ⟨h1, h2, h3, (fun x hx => by cases hx), h5, h6, h7⟩
def armP (d : DvP) (n : Int) : DvP := { d with armed := decide (0 ≤ n), left := n }
theorem armP_ok {d : DvP} (h : DvOk d) {n : Int} (h0 : -9223372036854775808 ≤ n) (h1 : n ≤ 9223372036854775807) : DvOk (armP d n) :=
  ⟨h.one, h.most, h.size, h.row, h0, h1, fun e => of_decide_eq_true e⟩
/-- The blocks as they were flushed. -/
def backP (bl : List Bs) : List WrP → List Bs
  | [] => bl
  | x :: row => (backP bl row).set x.pl x.was
/-- What a form of a write leaves on what its block has by now. -/
def mixB (form : Nat) (now is : Bs) : Bs :=
  if form = 1 then is else if form = 2 then is.take 32 ++ now.drop 32 else if form = 3 then now.take 32 ++ is.drop 32 else now
theorem mixB_length {f : Nat} {a b : Bs} (ha : a.length = 64) (hb : b.length = 64) : (mixB f a b).length = 64 := by
  unfold mixB
  split
  · exact hb
  · split
    · simp [ha, hb]
    · split
      · simp [ha, hb]
      · exact ha
def takeB (bl : List Bs) (x : WrP) (form : Nat) : List Bs := bl.set x.pl (mixB form (bl.getD x.pl []) x.is)
def formB (forms : List Int) (k : Nat) : Nat := if forms = [] then 0 else (max 0 (forms.getD (k % forms.length) 0)).toNat % 4
theorem formB_lt (f : List Int) (k : Nat) : formB f k < 4 := by unfold formB; split <;> omega
/-- The writes take their forms, from the k-th on. -/
def formsP (forms : List Int) : Nat → List WrP → List Bs → List Bs
  | _, [], bl => bl
  | k, x :: row, bl => formsP forms (k + 1) row (takeB bl x (formB forms k))
def crashP (d : DvP) (forms : List Int) : DvP := { d with bl := formsP forms 0 d.row (backP d.bl d.row), row := [], armed := false, down := false }
section
variable {bl : List Bs} {row : List WrP}
theorem backP_length : ∀ (row : List WrP), (backP bl row).length = bl.length
  | [] => rfl
  | x :: row => by simp [backP, backP_length row]
theorem backP_size (h : ∀ b ∈ bl, b.length = 64) : ∀ {row : List WrP}, (∀ x ∈ row, x.was.length = 64) → ∀ b ∈ backP bl row, b.length = 64
  | [], _, b, hb => h b hb
  | x :: row, hr, b, hb => by
    rcases List.mem_or_eq_of_mem_set hb with hb | rfl
    · exact backP_size h (fun y hy => hr y (List.mem_cons_of_mem _ hy)) b hb
    · exact hr x List.mem_cons_self
theorem takeB_length (x : WrP) (f : Nat) : (takeB bl x f).length = bl.length := by simp [takeB]
theorem takeB_size (h : ∀ b ∈ bl, b.length = 64) {x : WrP} (hx : x.pl < bl.length ∧ x.is.length = 64) (f : Nat) : ∀ b ∈ takeB bl x f, b.length = 64 := fun b hb => by
  rcases List.mem_or_eq_of_mem_set hb with hb | rfl
  · exact h b hb
  · refine mixB_length ?_ hx.2
    simp only [List.getD, List.getElem?_eq_getElem hx.1, Option.getD_some]
    exact h _ (List.getElem_mem hx.1)
theorem formsP_length (forms : List Int) : ∀ (row : List WrP) (k : Nat) (bl : List Bs), (formsP forms k row bl).length = bl.length
  | [], _, _ => rfl
  | x :: row, k, bl => by rw [formsP, formsP_length forms row, takeB_length]
theorem formsP_size (forms : List Int) : ∀ (row : List WrP) (k : Nat) (bl : List Bs), (∀ b ∈ bl, b.length = 64) → (∀ x ∈ row, x.pl < bl.length ∧ x.is.length = 64) → ∀ b ∈ formsP forms k row bl, b.length = 64
  | [], _, _, h, _, b, hb => h b hb
  | x :: row, k, bl, h, hr, b, hb => formsP_size forms row (k + 1) _ (takeB_size h (hr x List.mem_cons_self) _) (fun y hy => by rw [takeB_length]; exact hr y (List.mem_cons_of_mem _ hy)) b hb
end
theorem crashP_ok {d : DvP} (h : DvOk d) (forms : List Int) : DvOk (crashP d forms) := by
  have hl : (crashP d forms).bl.length = d.bl.length := by
    show (formsP _ _ _ _).length = _
    rw [formsP_length, backP_length]
  refine ⟨by rw [hl]; exact h.one, by rw [hl]; exact h.most, ?_, (fun x hx => by cases hx), h.lo, h.hi, fun e => by cases e⟩
  exact formsP_size forms _ _ _ (backP_size h.size fun x hx => (h.row x hx).2.1) (fun x hx => by rw [backP_length]; exact ⟨(h.row x hx).1, (h.row x hx).2.2⟩)
/-- The bytes of all blocks. -/
def imageP (d : DvP) : Bs := d.bl.flatten

end Go.Proofs.Ytknjkkdoeanhbaa
