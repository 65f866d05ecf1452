import Derived.Test.YtfcdhpkikhkmiaaGreatDoorPk1
import Derived.Lib.ItoaNum
import Derived.Lib.AtoiAllCases
import Derived.Lib.AtoiTie
import Derived.Test.YtfcdhpkikhkmiaaGreatDoorChecked
import Derived.Deep.LoopGhost
import Derived.Deep.QuietTactic
import Derived.BigQuiet
import Derived.Lib.Hide
import Derived.Lib.SliceRun

/-
  Prims as plain values: when they are right, what undoes them, what they make of a tree. Nothing of any program.
-/
namespace Go.Proofs.YtfcdhpkikhkmiaaGreatDoor
open Go.RowKit

structure Pr where
  kind : Int
  name : ByteArray
  to : ByteArray
  place : Int
  old : List ByteArray
  new : List ByteArray

def rightP (p : Pr) : Bool :=
  namedB p.name &&
    (if p.kind = 0 then decide (p.to = ByteArray.empty) && decide (0 ≤ p.place ∧ p.place ≤ 1048576) && allB p.old && allB p.new && !sameB p.old p.new
    else decide (p.place = 0) && decide (p.old = []) && decide (p.new = []) &&
      (if p.kind = 3 then namedB p.to && decide (p.to ≠ p.name) else decide (p.kind = 1 ∨ p.kind = 2) && decide (p.to = ByteArray.empty)))

def sameP (p q : Pr) : Bool := decide (p.kind = q.kind) && decide (p.name = q.name) && decide (p.to = q.to) && decide (p.place = q.place) && sameB p.old q.old && sameB p.new q.new

def namesP (p : Pr) : List ByteArray := if p.kind ≠ 3 then [p.name] else if ltN p.name p.to = true then [p.name, p.to] else [p.to, p.name]

theorem sameP_iff {p q : Pr} : sameP p q = true ↔ p = q := by
  obtain ⟨a, b, c, d, e, f⟩ := p
  obtain ⟨a', b', c', d', e', f'⟩ := q
  simp only [sameP, sameB, Bool.and_eq_true, decide_eq_true_eq, Pr.mk.injEq]
  exact ⟨fun ⟨⟨⟨⟨⟨h1, h2⟩, h3⟩, h4⟩, h5⟩, h6⟩ => ⟨h1, h2, h3, h4, h5, h6⟩, fun ⟨h1, h2, h3, h4, h5, h6⟩ => ⟨⟨⟨⟨⟨h1, h2⟩, h3⟩, h4⟩, h5⟩, h6⟩⟩
theorem sameP_self (p : Pr) : sameP p p = true := sameP_iff.2 rfl

end Go.Proofs.YtfcdhpkikhkmiaaGreatDoor

/-
  Prims by the tree's own calls, and how great trees become behind them. Nothing of any program.
-/
namespace Go.Proofs.YtfcdhpkikhkmiaaGreatDoor
open Go.RowKit

structure Sized (k h : Nat) (t : Tr) : Prop where
  many : t.length ≤ k
  each : ∀ f ∈ t, namedB f.1 = true ∧ allB f.2 = true ∧ f.2.length ≤ h

theorem allB_none : allB [] = true := by simp [allB]
section
variable {k h : Nat} {t : Tr}
theorem Sized.nil : Sized 0 0 [] := ⟨Nat.le_refl _, fun f hf => by cases hf⟩
theorem Sized.mono {j i : Nat} (hs : Sized k h t) (hj : k ≤ j) (hi : h ≤ i) : Sized j i t := ⟨Nat.le_trans hs.many hj, fun f hf => ⟨(hs.each f hf).1, (hs.each f hf).2.1, Nat.le_trans (hs.each f hf).2.2 hi⟩⟩
theorem Sized.with_ (hs : Sized k h t) {n : ByteArray} {l : List ByteArray} (h1 : namedB n = true) (h2 : allB l = true) (h3 : l.length ≤ h) : Sized (k + 1) h (withT t n l) :=
  ⟨Nat.le_trans (with_length n l) (Nat.succ_le_succ hs.many), fun f hf => by
    rcases mem_with.1 hf with rfl | hf
    · exact ⟨h1, h2, h3⟩
    · exact hs.each f hf.1⟩
theorem Sized.get (hs : Sized k h t) {n : ByteArray} {l : List ByteArray} (hg : getT t n = some l) : namedB n = true ∧ allB l = true ∧ l.length ≤ h := hs.each _ (getT_mem hg)

theorem right_parts {p : Pr} (hr : rightP p = true) : namedB p.name = true ∧ (p.kind = 0 ∨ p.kind = 1 ∨ p.kind = 2 ∨ p.kind = 3) ∧ allB p.old = true ∧ allB p.new = true ∧ (p.kind = 0 → 0 ≤ p.place ∧ p.place ≤ 1048576) ∧ (p.kind = 3 → namedB p.to = true ∧ p.to ≠ p.name) := by
  obtain ⟨kd, nm, to, at_, old, new⟩ := p
  simp only [rightP, Bool.and_eq_true] at hr ⊢
  obtain ⟨h1, h2⟩ := hr
  refine ⟨h1, ?_⟩
  by_cases h0 : kd = 0
  · subst h0
    simp only [if_true, Bool.and_eq_true, decide_eq_true_eq] at h2
    obtain ⟨⟨⟨⟨_, h4⟩, h5⟩, h6⟩, _⟩ := h2
    exact ⟨.inl rfl, h5, h6, fun _ => h4, fun e => by cases e⟩
  · rw [if_neg h0] at h2
    simp only [Bool.and_eq_true, decide_eq_true_eq] at h2
    obtain ⟨⟨⟨_, rfl⟩, rfl⟩, h4⟩ := h2
    by_cases h3 : kd = 3
    · subst h3
      simp only [if_true, Bool.and_eq_true, decide_eq_true_eq] at h4
      exact ⟨.inr (.inr (.inr rfl)), allB_none, allB_none, (fun e => by cases e), fun _ => h4⟩
    · rw [if_neg h3] at h4
      simp only [Bool.and_eq_true, decide_eq_true_eq] at h4
      exact ⟨h4.1.elim (fun e => .inr (.inl e)) (fun e => .inr (.inr (.inl e))), allB_none, allB_none, fun e => absurd e h0, fun e => absurd e h3⟩

end

end Go.Proofs.YtfcdhpkikhkmiaaGreatDoor

/-
  Two prims in the other order, as plain values: when they have one, and what follows of it. Nothing of any program.
-/
namespace Go.Proofs.YtfcdhpkikhkmiaaGreatDoor
open Go.RowKit

def placed (p : Pr) (k : Int) : Pr := { p with place := k }
def inFile (p : Pr) (n : ByteArray) : Pr := { p with name := n }
def commonP (p q : Pr) : Bool := (namesP p).any fun a => (namesP q).any fun b => decide (a = b)

def twoP (p q : Pr) : Pr × Pr × Bool :=
  if p.kind = 0 ∧ q.kind = 0 ∧ p.name = q.name then
    (if q.place > p.place + p.new.length then (placed q (q.place - p.new.length + p.old.length), p, true)
    else if q.place + q.old.length < p.place then (q, placed p (p.place + q.new.length - q.old.length), true)
    else (p, q, false))
  else if p.kind = 0 ∧ q.kind = 3 ∧ p.name = q.name then (q, inFile p q.to, true)
  else if p.kind = 3 ∧ q.kind = 0 ∧ p.to = q.name then (inFile q p.name, p, true)
  else if p.kind = 0 ∧ q.kind = 0 then (q, p, true)
  else (q, p, !commonP p q)

def swapP (p q : Pr) : Option (Pr × Pr) :=
  if rightP p = true ∧ rightP q = true ∧ (twoP p q).2.2 = true ∧ rightP (twoP p q).1 = true ∧ rightP (twoP p q).2.1 = true then some ((twoP p q).1, (twoP p q).2.1) else none

theorem mem_names {p : Pr} {n : ByteArray} : n ∈ namesP p ↔ n = p.name ∨ p.kind = 3 ∧ n = p.to := by
  unfold namesP
  by_cases h : p.kind = 3
  · simp only [h, ne_eq, not_true, if_false, true_and]
    split
    · simp
    · simp [or_comm]
  · simp [h]

end Go.Proofs.YtfcdhpkikhkmiaaGreatDoor

/-
  Two prims in the other order make the same tree. Nothing of any program.
-/
namespace Go.Proofs.YtfcdhpkikhkmiaaGreatDoor
open Go.RowKit

abbrev Look := ByteArray → Option (List ByteArray)
def putL (g : Look) (n : ByteArray) (o : Option (List ByteArray)) : Look := fun m => if m = n then o else g m

structure Makes (p : Pr) (g g' : Look) : Prop where
  hunk : p.kind = 0 → ∃ l, g p.name = some l ∧ standsB l p.place p.old = true ∧ g' = putL g p.name (some (spliced l p.place.toNat p.old.length p.new))
  add : p.kind = 1 → g p.name = none ∧ g' = putL g p.name (some [])
  rm : p.kind = 2 → g p.name = some [] ∧ g' = putL g p.name none
  move : p.kind = 3 → ∃ l, g p.name = some l ∧ g p.to = none ∧ g' = putL (putL g p.name none) p.to (some l)

section
variable {p q a b : Pr} {g g' : Look}
theorem putL_other (g : Look) {n m : ByteArray} (o) (h : m ≠ n) : putL g n o m = g m := by simp [putL, h]
theorem Makes.other (h : Makes p g g') (hk : p.kind = 0 ∨ p.kind = 1 ∨ p.kind = 2 ∨ p.kind = 3) {n : ByteArray} (hn : n ∉ namesP p) : g' n = g n := by
  rw [mem_names] at hn
  have hn1 : n ≠ p.name := fun e => hn (.inl e)
  rcases hk with e | e | e | e
  · obtain ⟨l, _, _, rfl⟩ := h.hunk e; exact putL_other _ _ hn1
  · obtain ⟨_, rfl⟩ := h.add e; exact putL_other _ _ hn1
  · obtain ⟨_, rfl⟩ := h.rm e; exact putL_other _ _ hn1
  · obtain ⟨l, _, _, rfl⟩ := h.move e
    rw [putL_other _ _ (fun x => hn (.inr ⟨e, x⟩)), putL_other _ _ hn1]
end


end Go.Proofs.YtfcdhpkikhkmiaaGreatDoor

/-
  Rows of prims as plain lists: what undoes them, what they make of a tree, and one row behind another one. Nothing of any program.
-/
namespace Go.Proofs.YtfcdhpkikhkmiaaGreatDoor
open Go.RowKit

def swap1 : Pr → List Pr → Option (List Pr × Pr)
  | p, [] => some ([], p)
  | p, q :: m => (swapP p q).bind fun s => (swap1 s.2 m).map fun r => (s.1 :: r.1, r.2)
def swapS : List Pr → List Pr → Option (List Pr × List Pr)
  | [], m => some (m, [])
  | p :: l, m => (swapS l m).bind fun s => (swap1 p s.1).map fun r => (r.1, r.2 :: s.2)


end Go.Proofs.YtfcdhpkikhkmiaaGreatDoor

/-
  Patches as plain values: when they are right, in the other order, past others, and the group of the first one. Nothing of any program.
-/
namespace Go.Proofs.YtfcdhpkikhkmiaaGreatDoor
open Go.RowKit

structure Pa where
  id : Int
  note : ByteArray
  deps : List Int
  l : List Pr

def sameN (p q : Pa) : Bool := decide (p.id = q.id) && decide (p.note = q.note) && decide (p.deps = q.deps) && decide (p.l.length = q.l.length) && (p.l.zip q.l).all fun x => sameP x.1 x.2
theorem zip_same : ∀ {a b : List Pr}, a.length = b.length → ((a.zip b).all fun x => sameP x.1 x.2) = true → a = b
  | [], [], _, _ => rfl
  | [], _ :: _, h, _ => by simp at h
  | _ :: _, [], h, _ => by simp at h
  | x :: a, y :: b, h, k => by
    simp only [List.zip_cons_cons, List.all_cons, Bool.and_eq_true] at k
    rw [sameP_iff.1 k.1, zip_same (by simpa using h) k.2]
theorem sameN_iff {p q : Pa} : sameN p q = true ↔ p = q := by
  obtain ⟨i, n, d, l⟩ := p
  obtain ⟨i', n', d', l'⟩ := q
  simp only [sameN, Bool.and_eq_true, decide_eq_true_eq, Pa.mk.injEq]
  constructor
  · rintro ⟨⟨⟨⟨h1, h2⟩, h3⟩, h4⟩, h5⟩; exact ⟨h1, h2, h3, zip_same h4 h5⟩
  · rintro ⟨rfl, rfl, rfl, rfl⟩
    refine ⟨⟨⟨⟨rfl, rfl⟩, rfl⟩, rfl⟩, List.all_eq_true.2 fun x hx => ?_⟩
    have : ∀ {l : List Pr} {x : Pr × Pr}, x ∈ l.zip l → x.1 = x.2 := by
      intro l
      induction l with
      | nil => intro x h; simp at h
      | cons y l ih =>
        intro x h
        rcases List.mem_cons.1 h with rfl | h
        · rfl
        · exact ih h
    rw [this hx]; exact sameP_self _




end Go.Proofs.YtfcdhpkikhkmiaaGreatDoor

/-
  Bytes of things, and things of bytes, as plain values: what is written, what is read, and that both are one. Nothing of any program.
-/
namespace Go.Proofs.YtfcdhpkikhkmiaaGreatDoor
open Go.RowKit Go

abbrev Bs := List UInt8

def clampC (n : Int) : Int := if 1099511627776 < n then 1099511627776 else if n < -1099511627776 then -1099511627776 else n
def numC (n : Int) : Bs := Lib.itoa (clampC n) ++ [59]
def flagC (b : Bool) : Bs := numC (if b = true then 1 else 0)
def textC (s : ByteArray) : Bs := Lib.itoa (s.size : Nat) ++ ([58] ++ (s.data.toList ++ [44]))
def rowC {α : Type} (f : α → Bs) (l : List α) : Bs := numC (l.length : Nat) ++ l.flatMap f
def primC (p : Pr) : Bs := numC p.kind ++ (textC p.name ++ (textC p.to ++ (numC p.place ++ (rowC textC p.old ++ rowC textC p.new))))
def cutC (c : UInt8) : Bs → Option (Bs × Bs)
  | [] => none
  | x :: r => if x = c then some ([], r) else (cutC c r).map fun p => (x :: p.1, p.2)
def canonC (t : Bs) : Option Int := match Lib.atoiAll t with
  | .ok n => if Lib.itoa n = t then some n else none
  | .syntax => none
  | .range => none
def digitsR (c : UInt8) (s : Bs) : Option (Int × Bs) := (cutC c s).bind fun p => (canonC p.1).map fun n => (n, p.2)
def numR (s : Bs) : Option (Int × Bs) := (digitsR 59 s).bind fun p => if -1099511627776 ≤ p.1 ∧ p.1 ≤ 1099511627776 then some p else none
def flagR (s : Bs) : Option (Bool × Bs) := (numR s).bind fun p => if p.1 = 0 ∨ p.1 = 1 then some (decide (p.1 = 1), p.2) else none
def textR (most : Int) (s : Bs) : Option (ByteArray × Bs) :=
  (digitsR 58 s).bind fun p => if 0 ≤ p.1 ∧ p.1 ≤ most ∧ p.1 < (p.2.length : Nat) ∧ p.2[p.1.toNat]? = some 44 then some (⟨(p.2.take p.1.toNat).toArray⟩, p.2.drop (p.1.toNat + 1)) else none
def manyR {α : Type} (rd : Bs → Option (α × Bs)) : Nat → Bs → Option (List α × Bs)
  | 0, s => some ([], s)
  | n + 1, s => (rd s).bind fun p => (manyR rd n p.2).map fun q => (p.1 :: q.1, q.2)
def rowR {α : Type} (most : Int) (rd : Bs → Option (α × Bs)) (s : Bs) : Option (List α × Bs) := (numR s).bind fun p => if 0 ≤ p.1 ∧ p.1 ≤ most then manyR rd p.1.toNat p.2 else none
def textsR (most each : Int) (s : Bs) : Option (List ByteArray × Bs) := rowR most (textR each) s
def textF (s : Bs) := textR (s.length : Nat) s
def textsF (s : Bs) := textsR (s.length : Nat) (s.length : Nat) s
def primR (s : Bs) : Option (Pr × Bs) :=
  (numR s).bind fun k => (textF k.2).bind fun a => (textF a.2).bind fun b => (numR b.2).bind fun c => (textsF c.2).bind fun d => (textsF d.2).bind fun e =>
    if rightP ⟨k.1, a.1, b.1, c.1, d.1, e.1⟩ = true then some (⟨k.1, a.1, b.1, c.1, d.1, e.1⟩, e.2) else none
/-! ### A number, read as it was written -/

theorem cutC_some {c : UInt8} : ∀ {s : Bs} {p : Bs × Bs}, cutC c s = some p → s = p.1 ++ c :: p.2 ∧ c ∉ p.1
  | [], _, h => by cases h
  | x :: r, p, h => by
    unfold cutC at h
    split at h
    · rename_i hx; cases h; subst hx; simp
    · rename_i hx
      obtain ⟨q, hq, rfl⟩ := Option.map_eq_some_iff.1 h
      obtain ⟨h1, h2⟩ := cutC_some hq
      refine ⟨by rw [List.cons_append, ← h1], ?_⟩
      simp only [List.mem_cons, not_or]
      exact ⟨fun e => hx e.symm, h2⟩
theorem cutC_append {c : UInt8} : ∀ {t : Bs} (r : Bs), c ∉ t → cutC c (t ++ c :: r) = some (t, r)
  | [], r, _ => by simp [cutC]
  | x :: t, r, h => by
    simp only [List.mem_cons, not_or] at h
    simp only [List.cons_append, cutC, cutC_append r h.2, Option.map_some]
    rw [if_neg (fun e => h.1 e.symm)]

theorem digit_nat {u : Nat} (h : u < 10) : (UInt8.ofNat (48 + u)).toNat = 48 + u := by simp; omega
theorem decDigits_digits : ∀ (u : Nat) (b : UInt8), b ∈ Lib.decDigits u → 48 ≤ b.toNat ∧ b.toNat ≤ 57 := by
  intro u
  induction u using Nat.strongRecOn with
  | _ u ih =>
    intro b hb
    rw [Lib.decDigits] at hb
    split at hb
    · rename_i hu
      simp only [List.mem_singleton] at hb
      subst hb
      have := digit_nat hu
      omega
    · rename_i hu
      rcases List.mem_append.1 hb with hb | hb
      · exact ih (u / 10) (by omega) b hb
      · simp only [List.mem_singleton] at hb
        subst hb
        have := digit_nat (u := u % 10) (by omega)
        omega
theorem decDigits_ne (u : Nat) : Lib.decDigits u ≠ [] := by
  rw [Lib.decDigits]; split <;> simp
theorem parse_append (l r : Bs) (acc u : Nat) (h : Lib.parseUint10 acc l = .ok u) : Lib.parseUint10 acc (l ++ r) = Lib.parseUint10 u r := by
  induction l generalizing acc with
  | nil => simp only [Lib.parseUint10, Lib.NumEnd.ok.injEq] at h; subst h; rfl
  | cons c l ih =>
    simp only [List.cons_append, Lib.parseUint10] at h ⊢
    split at h
    · rename_i h1
      rw [if_pos h1]
      split at h
      · cases h
      · rename_i h2
        rw [if_neg h2]
        split at h
        · cases h
        · rename_i h3
          rw [if_neg h3]
          exact ih _ h
    · cases h
theorem parse_dec : ∀ (u : Nat), u < 18446744073709551616 → Lib.parseUint10 0 (Lib.decDigits u) = .ok u := by
  intro u
  induction u using Nat.strongRecOn with
  | _ u ih =>
    intro hu
    rw [Lib.decDigits]
    split
    · rename_i h
      have := digit_nat h
      simp only [Lib.parseUint10, this]
      rw [if_pos (by omega), if_neg (by omega), if_neg (by omega)]
      congr 1; omega
    · rename_i h
      rw [parse_append _ _ _ (u / 10) (ih (u / 10) (by omega) (by omega))]
      have := digit_nat (u := u % 10) (by omega)
      simp only [Lib.parseUint10, this]
      rw [if_pos (by omega), if_neg (by omega), if_neg (by omega)]
      congr 1; omega
theorem parseMag_dec {u : Nat} (h : u < 18446744073709551616) : Lib.parseMag (Lib.decDigits u) = .ok u := by
  unfold Lib.parseMag
  rw [if_neg (decDigits_ne u)]
  exact parse_dec u h
theorem atoi_itoa {n : Int} (h0 : -9223372036854775808 ≤ n) (h1 : n ≤ 9223372036854775807) : Lib.atoiAll (Lib.itoa n) = .ok n := by
  unfold Lib.itoa
  split
  · rename_i hn
    rw [Lib.atoiAll_minus, parseMag_dec (by omega)]
    simp only [Lib.signed]
    rw [if_neg (by omega)]
    congr 1; omega
  · rename_i hn
    have hp := parseMag_dec (u := n.toNat) (by omega)
    have hd := decDigits_digits n.toNat
    cases hl : Lib.decDigits n.toNat with
    | nil => exact absurd hl (decDigits_ne _)
    | cons c r =>
      rw [hl] at hp hd
      have := hd c List.mem_cons_self
      rw [Lib.atoiAll_plain c r (by omega) (by omega), hp]
      simp only [Lib.signless]
      rw [if_neg (by omega)]
      congr 1; omega
theorem canon_itoa {n : Int} (h0 : -9223372036854775808 ≤ n) (h1 : n ≤ 9223372036854775807) : canonC (Lib.itoa n) = some n := by
  unfold canonC
  rw [atoi_itoa h0 h1]
  simp
theorem canon_some {t : Bs} {n : Int} (h : canonC t = some n) : Lib.itoa n = t ∧ -9223372036854775808 ≤ n ∧ n ≤ 9223372036854775807 := by
  unfold canonC at h
  split at h
  · rename_i m hm
    split at h
    · rename_i hi
      cases h
      exact ⟨hi, Lib.atoiAll_bounds hm⟩
    · cases h
  · cases h
  · cases h
theorem itoa_bytes (n : Int) (b : UInt8) (h : b ∈ Lib.itoa n) : b.toNat = 45 ∨ (48 ≤ b.toNat ∧ b.toNat ≤ 57) := by
  unfold Lib.itoa at h
  split at h
  · rcases List.mem_cons.1 h with rfl | h
    · exact .inl rfl
    · exact .inr (decDigits_digits _ b h)
  · exact .inr (decDigits_digits _ b h)
theorem itoa_no {n : Int} {c : UInt8} (hc : c = 58 ∨ c = 59) : c ∉ Lib.itoa n := fun h => by
  have := itoa_bytes n c h
  rcases hc with rfl | rfl
  · have e : (58 : UInt8).toNat = 58 := rfl
    omega
  · have e : (59 : UInt8).toNat = 59 := rfl
    omega
theorem digitsR_itoa {n : Int} {c : UInt8} (hc : c = 58 ∨ c = 59) (h0 : -9223372036854775808 ≤ n) (h1 : n ≤ 9223372036854775807) (r : Bs) : digitsR c (Lib.itoa n ++ c :: r) = some (n, r) := by
  unfold digitsR
  rw [cutC_append r (itoa_no hc)]
  simp [canon_itoa h0 h1]
theorem digitsR_some {c : UInt8} {s r : Bs} {n : Int} (h : digitsR c s = some (n, r)) : s = Lib.itoa n ++ c :: r ∧ -9223372036854775808 ≤ n ∧ n ≤ 9223372036854775807 := by
  unfold digitsR at h
  obtain ⟨p, hp, h⟩ := Option.bind_eq_some_iff.1 h
  obtain ⟨m, hm, h⟩ := Option.map_eq_some_iff.1 h
  cases h
  obtain ⟨h1, h2⟩ := canon_some hm
  exact ⟨by rw [h1]; exact (cutC_some hp).1, h2⟩
theorem clamp_id {n : Int} (h0 : -1099511627776 ≤ n) (h1 : n ≤ 1099511627776) : clampC n = n := by
  unfold clampC
  rw [if_neg (by omega), if_neg (by omega)]
theorem clamp_bounds (n : Int) : -1099511627776 ≤ clampC n ∧ clampC n ≤ 1099511627776 := by
  unfold clampC
  split
  · omega
  · split <;> omega
theorem numR_num {n : Int} (h0 : -1099511627776 ≤ n) (h1 : n ≤ 1099511627776) (r : Bs) : numR (numC n ++ r) = some (n, r) := by
  unfold numR numC
  rw [clamp_id h0 h1, List.append_assoc, show ([59] : Bs) ++ r = 59 :: r from rfl, digitsR_itoa (.inr rfl) (by omega) (by omega)]
  simp [h0, h1]
theorem numR_some {s r : Bs} {n : Int} (h : numR s = some (n, r)) : s = numC n ++ r ∧ -1099511627776 ≤ n ∧ n ≤ 1099511627776 := by
  unfold numR at h
  obtain ⟨p, hp, h⟩ := Option.bind_eq_some_iff.1 h
  split at h
  · rename_i hb
    cases h
    obtain ⟨h1, _⟩ := digitsR_some hp
    refine ⟨?_, hb⟩
    unfold numC
    rw [clamp_id hb.1 hb.2, List.append_assoc]
    exact h1
  · cases h
theorem flagR_flag (b : Bool) (r : Bs) : flagR (flagC b ++ r) = some (b, r) := by
  unfold flagR flagC
  cases b
  · rw [numR_num (by decide) (by decide)]; simp
  · rw [numR_num (by decide) (by decide)]; simp
theorem textC_length (s : ByteArray) : (textC s).length = (Lib.itoa (s.size : Nat)).length + s.size + 2 := by
  unfold textC
  simp only [List.length_append, List.length_cons, List.length_nil, Array.length_toList]
  have : s.data.size = s.size := rfl
  omega
theorem textR_text {s : ByteArray} {m : Int} (hm : (s.size : Int) ≤ m) (hs : s.size ≤ 9223372036854775807) (r : Bs) : textR m (textC s ++ r) = some (s, r) := by
  unfold textR textC
  rw [List.append_assoc, List.append_assoc, List.append_assoc, show ([58] : Bs) ++ (s.data.toList ++ ([44] ++ r)) = 58 :: (s.data.toList ++ 44 :: r) from rfl, digitsR_itoa (.inl rfl) (by omega) (by omega)]
  have hl : s.data.toList.length = s.size := by rw [Array.length_toList]; rfl
  have e : ((s.size : Nat) : Int).toNat = s.data.toList.length := by rw [hl]; exact Int.toNat_natCast _
  simp only [Option.bind_some, e]
  rw [if_pos ⟨by omega, hm, by rw [List.length_append, List.length_cons, hl]; omega, by simp⟩, List.take_left, List.drop_append, List.drop_of_length_le (by omega), Nat.add_sub_cancel_left]
  simp
theorem textR_some {z r : Bs} {s : ByteArray} {m : Int} (h : textR m z = some (s, r)) : z = textC s ++ r ∧ (s.size : Int) ≤ m := by
  unfold textR at h
  obtain ⟨⟨n, q⟩, hp, h⟩ := Option.bind_eq_some_iff.1 h
  obtain ⟨h1, _⟩ := digitsR_some hp
  dsimp only at h
  split at h
  · rename_i hb
    obtain ⟨b0, b1, b2, b3⟩ := hb
    obtain ⟨k, rfl⟩ := Int.eq_ofNat_of_zero_le b0
    simp only [Int.toNat_natCast] at h b3
    cases h
    have hk : k < q.length := by omega
    have hsz : (⟨(q.take k).toArray⟩ : ByteArray).size = k := by
      show (q.take k).toArray.size = k
      simp; omega
    refine ⟨?_, by rw [hsz]; exact b1⟩
    unfold textC
    rw [hsz, h1]
    have e3 : q.drop k = 44 :: q.drop (k + 1) := by
      rw [List.drop_eq_getElem_cons hk]
      rw [List.getElem?_eq_getElem hk, Option.some.injEq] at b3
      rw [b3]
    have e4 : q = q.take k ++ (44 :: q.drop (k + 1)) := by rw [← e3, List.take_append_drop]
    simp only [List.append_assoc, List.cons_append, List.nil_append]
    rw [← e4]
  · cases h

section
variable {α : Type} {rd : Bs → Option (α × Bs)} {f : α → Bs}
theorem manyR_many : ∀ {l : List α}, (∀ x ∈ l, ∀ r, rd (f x ++ r) = some (x, r)) → ∀ r, manyR rd l.length (l.flatMap f ++ r) = some (l, r)
  | [], _, r => rfl
  | x :: l, h, r => by
    simp only [List.length_cons, manyR, List.flatMap_cons, List.append_assoc]
    rw [h x List.mem_cons_self]
    simp [manyR_many (fun y hy => h y (List.mem_cons_of_mem _ hy)) r]
theorem manyR_some (hrd : ∀ z x r, rd z = some (x, r) → z = f x ++ r) : ∀ {n : Nat} {s r : Bs} {l : List α}, manyR rd n s = some (l, r) → s = l.flatMap f ++ r ∧ l.length = n
  | 0, s, r, l, h => by cases h; simp
  | n + 1, s, r, l, h => by
    unfold manyR at h
    obtain ⟨p, hp, h⟩ := Option.bind_eq_some_iff.1 h
    obtain ⟨q, hq, h⟩ := Option.map_eq_some_iff.1 h
    cases h
    obtain ⟨h1, h2⟩ := manyR_some hrd hq
    refine ⟨?_, by simp [h2]⟩
    rw [hrd _ _ _ hp, h1]
    simp
theorem manyR_all {P : α → Prop} (hrd : ∀ z x r, rd z = some (x, r) → P x) : ∀ {n : Nat} {s r : Bs} {l : List α}, manyR rd n s = some (l, r) → ∀ x ∈ l, P x
  | 0, s, r, l, h => by cases h; intro x hx; cases hx
  | n + 1, s, r, l, h => by
    unfold manyR at h
    obtain ⟨p, hp, h⟩ := Option.bind_eq_some_iff.1 h
    obtain ⟨q, hq, h⟩ := Option.map_eq_some_iff.1 h
    cases h
    intro x hx
    rcases List.mem_cons.1 hx with rfl | hx
    · exact hrd _ _ _ hp
    · exact manyR_all hrd hq x hx
theorem rowR_row {l : List α} {m : Int} (hm : (l.length : Int) ≤ m) (hl : l.length ≤ 1099511627776) (h : ∀ x ∈ l, ∀ r, rd (f x ++ r) = some (x, r)) (r : Bs) : rowR m rd (rowC f l ++ r) = some (l, r) := by
  unfold rowR rowC
  rw [List.append_assoc, numR_num (by omega) (by omega)]
  simp only [Option.bind_some]
  rw [if_pos ⟨by omega, hm⟩, Int.toNat_natCast]
  exact manyR_many h r
theorem rowR_some (hrd : ∀ z x r, rd z = some (x, r) → z = f x ++ r) {m : Int} {s r : Bs} {l : List α} (h : rowR m rd s = some (l, r)) : s = rowC f l ++ r ∧ (l.length : Int) ≤ m := by
  unfold rowR at h
  obtain ⟨⟨n, q⟩, hp, h⟩ := Option.bind_eq_some_iff.1 h
  have h1 := (numR_some hp).1
  dsimp only at h
  split at h
  · rename_i hb
    obtain ⟨k, rfl⟩ := Int.eq_ofNat_of_zero_le hb.1
    rw [Int.toNat_natCast] at h
    obtain ⟨h2, h3⟩ := manyR_some hrd h
    refine ⟨?_, by rw [h3]; exact hb.2⟩
    unfold rowC
    rw [h1, h3, h2, List.append_assoc]
  · cases h
end

theorem mem_flat_length {α : Type} {f : α → Bs} {l : List α} {x : α} (hx : x ∈ l) : (f x).length ≤ (l.flatMap f).length := by
  induction l with
  | nil => cases hx
  | cons y l ih =>
    simp only [List.flatMap_cons, List.length_append]
    rcases List.mem_cons.1 hx with rfl | hx
    · omega
    · have := ih hx; omega
theorem flat_many {α : Type} {f : α → Bs} {l : List α} (h : ∀ x ∈ l, 1 ≤ (f x).length) : l.length ≤ (l.flatMap f).length := by
  induction l with
  | nil => simp
  | cons y l ih =>
    simp only [List.flatMap_cons, List.length_append, List.length_cons]
    have := h y List.mem_cons_self
    have := ih (fun x hx => h x (List.mem_cons_of_mem _ hx))
    omega
theorem textF_text {s : ByteArray} (hs : s.size ≤ 9223372036854775807) (r : Bs) : textF (textC s ++ r) = some (s, r) := by
  refine textR_text ?_ hs r
  rw [List.length_append, textC_length]
  omega
theorem textsF_texts {l : List ByteArray} (hl : l.length ≤ 1099511627776) (hs : ∀ s ∈ l, s.size ≤ 9223372036854775807) (r : Bs) : textsF (rowC textC l ++ r) = some (l, r) := by
  have h1 : l.length ≤ (l.flatMap textC).length := flat_many fun s _ => by rw [textC_length]; omega
  have h2 : (l.flatMap textC).length ≤ (rowC textC l ++ r).length := by unfold rowC; simp only [List.length_append]; omega
  refine rowR_row (f := textC) (by omega) hl (fun s hx r' => textR_text ?_ (hs s hx) r') r
  have h3 := mem_flat_length (f := textC) hx
  rw [textC_length] at h3
  omega
theorem textsR_some {m e : Int} {z r : Bs} {l : List ByteArray} (h : textsR m e z = some (l, r)) : z = rowC textC l ++ r ∧ (l.length : Int) ≤ m ∧ ∀ s ∈ l, (s.size : Int) ≤ e := by
  have h1 := rowR_some (f := textC) (fun z x r h => (textR_some h).1) h
  refine ⟨h1.1, h1.2, ?_⟩
  unfold textsR rowR at h
  obtain ⟨⟨n, q⟩, hp, h⟩ := Option.bind_eq_some_iff.1 h
  dsimp only at h
  split at h
  · exact manyR_all (P := fun s : ByteArray => (s.size : Int) ≤ e) (fun z x r h => (textR_some h).2) h
  · cases h
theorem right_place {p : Pr} (h : rightP p = true) : 0 ≤ p.place ∧ p.place ≤ 1048576 ∧ 0 ≤ p.kind ∧ p.kind ≤ 3 := by
  have h1 := right_parts h
  have hk := h1.2.1
  obtain ⟨kd, nm, to, pl, old, new⟩ := p
  by_cases h0 : kd = 0
  · have := h1.2.2.2.2.1 h0
    dsimp only at this hk ⊢
    omega
  · simp only [rightP, Bool.and_eq_true] at h
    obtain ⟨_, h2⟩ := h
    rw [if_neg h0] at h2
    simp only [Bool.and_eq_true, decide_eq_true_eq] at h2
    obtain ⟨⟨⟨rfl, _⟩, _⟩, _⟩ := h2
    dsimp only at hk ⊢
    omega
def fitsP (p : Pr) : Prop := p.name.size ≤ 9223372036854775807 ∧ p.to.size ≤ 9223372036854775807 ∧ p.old.length ≤ 1099511627776 ∧ p.new.length ≤ 1099511627776 ∧ (∀ s ∈ p.old, s.size ≤ 9223372036854775807) ∧ ∀ s ∈ p.new, s.size ≤ 9223372036854775807
theorem primR_prim {p : Pr} (hr : rightP p = true) (hf : fitsP p) (r : Bs) : primR (primC p ++ r) = some (p, r) := by
  obtain ⟨f1, f2, f3, f4, f5, f6⟩ := hf
  obtain ⟨k1, k2, k3, k4⟩ := right_place hr
  unfold primR primC
  simp only [List.append_assoc]
  rw [numR_num (by omega) (by omega)]
  simp only [Option.bind_some]
  rw [textF_text f1]
  simp only [Option.bind_some]
  rw [textF_text f2]
  simp only [Option.bind_some]
  rw [numR_num (by omega) (by omega)]
  simp only [Option.bind_some]
  rw [textsF_texts f3 f5]
  simp only [Option.bind_some]
  rw [textsF_texts f4 f6]
  simp only [Option.bind_some]
  rw [if_pos hr]
end Go.Proofs.YtfcdhpkikhkmiaaGreatDoor

/-
  What calls on rows of lines come to, in words: a row, a row and a flag, a bool; what comes in.
-/
namespace Go.Proofs.YtfcdhpkikhkmiaaGreatDoor
open Go.RowKit

def GivesRow (ss : List ByteArray) (w : World) (e : Ending) (w' : World) : Prop :=
  ∃ A c, e = .returned (.slice A ss.length c) ∧ ss.length ≤ c ∧ Row w' A ss.length ss ∧ Later w w'

structure Came (w : World) (A : Option Addr) (n c : Nat) (ss : List ByteArray) : Prop where
  row : Row w A n ss
  room : n ≤ c
  most : n ≤ 140737488355328
  size : ∀ s ∈ ss, s.size ≤ 140737488355328

theorem Came.later {w w' : World} {A : Option Addr} {n c : Nat} {ss : List ByteArray} (h : Came w A n c ss) (hl : Later w w') : Came w' A n c ss := ⟨h.row.later hl, h.room, h.most, h.size⟩

def Says (b : Bool) (w : World) (e : Ending) (w' : World) : Prop := e = .returned (.bool b) ∧ Later w w'

end Go.Proofs.YtfcdhpkikhkmiaaGreatDoor

/-
  Rows of structures in memory, each of k cells: what a slice of them reads as, and one of the call's own that grows by append.
-/
namespace Go.Proofs.YtfcdhpkikhkmiaaGreatDoor
open Go.RowKit

theorem flat_at {α : Type} {k : Nat} : ∀ {css : List (List α)}, (∀ cs ∈ css, cs.length = k) → ∀ {j i : Nat} {cs : List α}, css[j]? = some cs → i < k → css.flatten[j * k + i]? = cs[i]?
  | [], _, _, _, _, h, _ => by simp at h
  | c :: css, hk, 0, i, cs, h, hi => by
    simp at h; subst h
    rw [Nat.zero_mul, Nat.zero_add, List.flatten_cons, List.getElem?_append_left (by rw [hk _ List.mem_cons_self]; exact hi)]
  | c :: css, hk, j + 1, i, cs, h, hi => by
    have hc := hk _ (List.mem_cons_self (a := c) (l := css))
    rw [List.flatten_cons, List.getElem?_append_right (by rw [hc, Nat.add_mul]; omega), hc, show (j + 1) * k + i - k = j * k + i from by rw [Nat.add_mul]; omega]
    exact flat_at (fun cs hcs => hk cs (List.mem_cons_of_mem _ hcs)) (by simpa using h) hi
theorem flat_length {α : Type} {k : Nat} : ∀ {css : List (List α)}, (∀ cs ∈ css, cs.length = k) → css.flatten.length = css.length * k
  | [], _ => by simp
  | c :: css, hk => by
    rw [List.flatten_cons, List.length_append, hk _ List.mem_cons_self, flat_length (fun cs hcs => hk cs (List.mem_cons_of_mem _ hcs)), List.length_cons, Nat.add_mul]; omega

def RowK (k : Nat) (w : World) (A : Option Addr) (n : Nat) (css : List (List Value)) : Prop :=
  css.length = n ∧ (∀ cs ∈ css, cs.length = k) ∧ (0 < n → ∃ b o, A = some ⟨b, o, none⟩ ∧ ∀ (j i : Nat) cs v, css[j]? = some cs → cs[i]? = some v → w.cell? ⟨b, o + j * k + i, none⟩ = some v)

section
variable {k n : Nat} {w w' : World} {A : Option Addr} {css : List (List Value)}

theorem RowK.len (h : RowK k w A n css) : css.length = n := h.1
theorem RowK.none : RowK k w A 0 [] := ⟨rfl, (fun _ h => by cases h), fun h => absurd h (by omega)⟩
theorem RowK.later (h : RowK k w A n css) (hl : Later w w') : RowK k w' A n css :=
  ⟨h.1, h.2.1, fun hn => by
    obtain ⟨b, o, e, hc⟩ := h.2.2 hn
    exact ⟨b, o, e, fun j i cs v h1 h2 => hl.cell (hc j i cs v h1 h2)⟩⟩
theorem RowK.get (h : RowK k w A n css) {j : Nat} (hj : j < n) : ∃ b o, A = some ⟨b, o, .none⟩ ∧ ∃ cs, css[j]? = some cs ∧ cs.length = k ∧ ∀ (i : Nat) v, cs[i]? = some v → w.cell? ⟨b, o + j * k + i, .none⟩ = some v := by
  obtain ⟨b, o, e, hc⟩ := h.2.2 (by omega)
  have hl : j < css.length := by rw [h.1]; exact hj
  exact ⟨b, o, e, css[j], List.getElem?_eq_getElem hl, h.2.1 _ (List.getElem_mem hl), fun i v hi => hc j i _ v (List.getElem?_eq_getElem hl) hi⟩
end

def OwnK (e : TypeId) (k : Nat) (w0 w : World) (v : Value) (css : List (List Value)) : Prop :=
  w.ownsRow w0.heap.size e k v css.length css.flatten ∧ (∀ cs ∈ css, cs.length = k) ∧ Later w0 w

section
variable {e : TypeId} {k : Nat} {w0 w : World} {v : Value} {css : List (List Value)}

theorem OwnK.later (h : OwnK e k w0 w v css) : Later w0 w := h.2.2
theorem OwnK.nil (h : Later w0 w) : OwnK e k w0 w (.slice none 0 0) [] := ⟨World.ownsRow_nil _ _ _ _, (fun _ h => by cases h), h⟩
theorem OwnK.alloc (h : OwnK e k w0 w v css) (o : Obj) : OwnK e k w0 (w.alloc o) v css := ⟨h.1.alloc o, h.2.1, h.2.2.alloc o⟩
theorem OwnK.drew (h : OwnK e k w0 w v css) : OwnK e k w0 w.drew v css := ⟨h.1, h.2.1, h.2.2.drew⟩
theorem OwnK.drewN (h : OwnK e k w0 w v css) (n : Nat) : OwnK e k w0 (w.drewN n) v css := ⟨h.1, h.2.1, h.2.2.drewN n⟩
theorem OwnK.on {w' : World} (h : OwnK e k w0 w v css) (hl : Later w w') : OwnK e k w0 w' v css :=
  ⟨h.1.kept (row := none) ⟨hl.os, hl.tape, hl.output, hl.size, fun i hi _ => hl.block i hi⟩ (by cases v.ownBlock <;> simp), h.2.1, h.2.2.trans hl⟩
theorem OwnK.row (h : OwnK e k w0 w v css) : ∃ A c, v = .slice A css.length c ∧ css.length ≤ c ∧ RowK k w A css.length css := by
  rcases h.1.2 with ⟨hv, h0⟩ | ⟨g, cap, cur, hv, hg, hh, hnc, hm, hs, ht⟩
  · have : css = [] := List.eq_nil_of_length_eq_zero h0
    subst this
    exact ⟨none, 0, hv, Nat.le_refl _, RowK.none⟩
  · refine ⟨some ⟨g, 0, none⟩, cap, hv, hnc, rfl, h.2.1, fun _ => ⟨g, 0, rfl, fun j i cs u hj hi => ?_⟩⟩
    have hik : i < k := by rw [← h.2.1 cs (List.mem_of_getElem? hj)]; exact (List.getElem?_eq_some_iff.1 hi).1
    have hc := h.1.cells (g := g) (by rw [hv]; rfl) (j * k + i) u (by rw [flat_at h.2.1 hj hik]; exact hi)
    rw [plain_add] at hc
    rw [Nat.zero_add] at hc ⊢
    exact hc
theorem OwnK.block (h : OwnK e k w0 w v css) : ∀ b, v.ownBlock = some b → w0.heap.size ≤ b := fun b hb => (h.1.lt b hb).1
end


end Go.Proofs.YtfcdhpkikhkmiaaGreatDoor

/-
  The element type of a row of lines.
-/
namespace Go.Proofs.YtfcdhpkikhkmiaaGreatDoor
open Go.RowKit

theorem Tryz.textInfo : (Tryz.prog.info? 9).map (fun i => (i.zero, i.size, i.bytes)) = some (some (.string ByteArray.empty), 1, 16) := by kernel_rfl

end Go.Proofs.YtfcdhpkikhkmiaaGreatDoor

/-
  What slices.Clone at rows of texts comes to, as a call.
-/
namespace Go.Proofs.YtfcdhpkikhkmiaaGreatDoor
open Go.RowKit

theorem Own.on {e : TypeId} {w0 w w' : World} {v : Value} {ss : List ByteArray} (h : Own e w0 w v ss) (hl : Later w w') : Own e w0 w' v ss :=
  ⟨h.1.kept (row := none) ⟨hl.os, hl.tape, hl.output, hl.size, fun i hi _ => hl.block i hi⟩ (by cases v.ownBlock <;> simp), h.2.trans hl⟩
theorem Own.base {e : TypeId} {w0 w1 w : World} {v : Value} {ss : List ByteArray} (h : Own e w1 w v ss) (hl : Later w0 w1) : Own e w0 w v ss :=
  ⟨by
    obtain ⟨hx, h1 | ⟨g, cap, cur, hv, hg, h2⟩⟩ := h.1
    · exact ⟨hx, .inl h1⟩
    · exact ⟨hx, .inr ⟨g, cap, cur, hv, Nat.le_trans hl.le hg, h2⟩⟩, hl.trans h.2⟩

end Go.Proofs.YtfcdhpkikhkmiaaGreatDoor

/-
  Prims in memory: a structure of six cells, two of them rows of lines.
-/
namespace Go.Proofs.YtfcdhpkikhkmiaaGreatDoor
open Go.RowKit

theorem list_ne {s : ByteArray} (h : s ≠ ByteArray.empty) : ¬ s.toList = [] := by
  rw [ByteArray.toList_eq]
  intro e
  exact h (ByteArray.ext (Array.ext' e))

structure PrC where
  v : Pr
  A : Option Addr
  n : Nat
  c : Nat
  B : Option Addr
  m : Nat
  d : Nat

def prL (x : PrC) : List Value := [.int .i64 x.v.kind, .string x.v.name, .string x.v.to, .int .i64 x.v.place, .slice x.A x.n x.c, .slice x.B x.m x.d]
def prV (x : PrC) : Value := .agg #[.int .i64 x.v.kind, .string x.v.name, .string x.v.to, .int .i64 x.v.place, .slice x.A x.n x.c, .slice x.B x.m x.d]

structure PrOk (w : World) (x : PrC) : Prop where
  old : Row w x.A x.n x.v.old
  new : Row w x.B x.m x.v.new
  oroom : x.n ≤ x.c
  nroom : x.m ≤ x.d
  omost : x.n ≤ 65536
  nmost : x.m ≤ 65536
  name : x.v.name.size ≤ maxLen
  to : x.v.to.size ≤ maxLen
  lo : -9223372036854775808 ≤ x.v.place
  hi : x.v.place ≤ 9223372036854775807
  olds : ∀ s ∈ x.v.old, s.size ≤ maxLen
  news : ∀ s ∈ x.v.new, s.size ≤ maxLen
theorem PrOk.later {w w' : World} {x : PrC} (h : PrOk w x) (hl : Later w w') : PrOk w' x :=
  ⟨h.old.later hl, h.new.later hl, h.oroom, h.nroom, h.omost, h.nmost, h.name, h.to, h.lo, h.hi, h.olds, h.news⟩

structure IsPr (p : Pr) (w w' : World) (u v : Value) : Prop where
  old : Own 9 w w' u p.old
  new : Own 9 w w' v p.new
  apart : ∀ b, u.ownBlock = some b → v.ownBlock ≠ some b
def GivesPr (p : Pr) (w : World) (e : Ending) (w' : World) : Prop :=
  ∃ u v, e = .returned (.agg #[.int .i64 p.kind, .string p.name, .string p.to, .int .i64 p.place, u, v]) ∧ IsPr p w w' u v

theorem IsPr.later {p : Pr} {w w' : World} {u v : Value} (h : IsPr p w w' u v) : Later w w' := h.old.later
theorem IsPr.on {p : Pr} {w w' w'' : World} {u v : Value} (h : IsPr p w w' u v) (hl : Later w' w'') : IsPr p w w'' u v := ⟨h.old.on hl, h.new.on hl, h.apart⟩
theorem IsPr.base {p : Pr} {w0 w w' : World} {u v : Value} (h : IsPr p w w' u v) (hl : Later w0 w) : IsPr p w0 w' u v := ⟨h.old.base hl, h.new.base hl, h.apart⟩
theorem Own.lt {e : TypeId} {w0 w : World} {v : Value} {ss : List ByteArray} (h : Own e w0 w v ss) {b : Nat} (hb : v.ownBlock = some b) : b < w.heap.size := (h.1.lt b hb).2
theorem IsPr.ok {p : Pr} {w w' : World} {u v : Value} (h : IsPr p w w' u v) (h1 : p.old.length ≤ 65536) (h2 : p.new.length ≤ 65536) (h3 : p.name.size ≤ maxLen) (h4 : p.to.size ≤ maxLen) (h5 : -9223372036854775808 ≤ p.place) (h6 : p.place ≤ 9223372036854775807)
    (h7 : ∀ s ∈ p.old, s.size ≤ maxLen) (h8 : ∀ s ∈ p.new, s.size ≤ maxLen) : ∃ x : PrC, x.v = p ∧ .agg #[.int .i64 p.kind, .string p.name, .string p.to, .int .i64 p.place, u, v] = prV x ∧ PrOk w' x := by
  obtain ⟨A, c, rfl, hc, hr⟩ := h.old.row
  obtain ⟨B, d, rfl, hd, hs⟩ := h.new.row
  exact ⟨⟨p, A, _, c, B, _, d⟩, rfl, rfl, hr, hs, hc, hd, h1, h2, h3, h4, h5, h6, h7, h8⟩

def weightP (p : Pr) : Nat := p.name.size + p.to.size + p.old.length + p.new.length + (p.old.map ByteArray.size).sum + (p.new.map ByteArray.size).sum
def weightPs (xs : List PrC) : Nat := (xs.map fun x => weightP x.v).sum

theorem sizesP_mem {l : List ByteArray} {s : ByteArray} (h : s ∈ l) : s.size ≤ (l.map ByteArray.size).sum := by
  induction l with
  | nil => cases h
  | cons x l ih =>
    simp only [List.map_cons, List.sum_cons]
    rcases List.mem_cons.1 h with rfl | h
    · omega
    · have := ih h; omega

structure CameP (w : World) (x : PrC) : Prop where
  old : Row w x.A x.n x.v.old
  new : Row w x.B x.m x.v.new
  oroom : x.n ≤ x.c
  nroom : x.m ≤ x.d
  lo : -9223372036854775808 ≤ x.v.place
  hi : x.v.place ≤ 9223372036854775807
  weigh : weightP x.v ≤ 1048576
theorem CameP.later {w w' : World} {x : PrC} (h : CameP w x) (hl : Later w w') : CameP w' x := ⟨h.old.later hl, h.new.later hl, h.oroom, h.nroom, h.lo, h.hi, h.weigh⟩
theorem CameP.ok {w : World} {x : PrC} (h : CameP w x) (hw : weightP x.v ≤ 60000) : PrOk w x := by
  have h1 := h.old.len
  have h2 := h.new.len
  unfold weightP at hw
  refine ⟨h.old, h.new, h.oroom, h.nroom, by omega, by omega, by simp only [maxLen]; omega, by simp only [maxLen]; omega, h.lo, h.hi, fun s hs => ?_, fun s hs => ?_⟩
  · have := sizesP_mem hs; simp only [maxLen]; omega
  · have := sizesP_mem hs; simp only [maxLen]; omega

structure Prims (w : World) (A : Option Addr) (n : Nat) (xs : List PrC) : Prop where
  row : RowK 6 w A n (xs.map prL)
  each : ∀ x ∈ xs, CameP w x
section
variable {w w' : World} {A : Option Addr} {n : Nat} {xs : List PrC}
theorem Prims.len (h : Prims w A n xs) : xs.length = n := by have := h.row.len; simpa using this
theorem Prims.later (h : Prims w A n xs) (hl : Later w w') : Prims w' A n xs := ⟨h.row.later hl, fun x hx => (h.each x hx).later hl⟩
theorem Prims.get (h : Prims w A n xs) {j : Nat} (hj : j < n) : ∃ b o x, A = some ⟨b, o, .none⟩ ∧ xs[j]? = some x ∧ w.cell? ⟨b, o + j * 6, .none⟩ = some (.int .i64 x.v.kind) ∧ w.cell? ⟨b, o + j * 6 + 1, .none⟩ = some (.string x.v.name) ∧ w.cell? ⟨b, o + j * 6 + 2, .none⟩ = some (.string x.v.to) ∧ w.cell? ⟨b, o + j * 6 + 3, .none⟩ = some (.int .i64 x.v.place) ∧ w.cell? ⟨b, o + j * 6 + 4, .none⟩ = some (.slice x.A x.n x.c) ∧ w.cell? ⟨b, o + j * 6 + 5, .none⟩ = some (.slice x.B x.m x.d) := by
  obtain ⟨b, o, e, cs, hcs, _, hc⟩ := h.row.get hj
  have hl : j < xs.length := by rw [h.len]; exact hj
  have hz := List.getElem?_eq_getElem hl
  simp only [List.getElem?_map, hz, Option.map_some, Option.some.injEq] at hcs
  subst hcs
  exact ⟨b, o, xs[j], e, hz, hc 0 _ rfl, hc 1 _ rfl, hc 2 _ rfl, hc 3 _ rfl, hc 4 _ rfl, hc 5 _ rfl⟩
end
theorem weightPs_mem {xs : List PrC} {x : PrC} (h : x ∈ xs) : weightP x.v ≤ weightPs xs := by
  induction xs with
  | nil => cases h
  | cons y xs ih =>
    simp only [weightPs, List.map_cons, List.sum_cons] at ih ⊢
    rcases List.mem_cons.1 h with rfl | h
    · omega
    · have := ih h; omega

end Go.Proofs.YtfcdhpkikhkmiaaGreatDoor
