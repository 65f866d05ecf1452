import Derived.Test.YtfcdhpkikhkmiaaGreatDoorPk2
import Derived.Test.YtfcdhpkikhkmiaaGreatDoorPk4
import Derived.Test.YtfcdhpkikhkmiaaGreatDoorPk3
import Derived.Deep.MidRow
import Derived.Test.YtfcdhpkikhkmiaaGreatDoorChecked
import Derived.Lib.BufferKept
import Derived.Lib.AppendIntMem
import Derived.Shelf.Bytes.SlSmallAll
import Derived.Test.YtfcdhpkikhkmiaaGreatDoorRows
import Derived.ProofKit
import Derived.OpenShut
import Derived.SizedLaws
import Derived.SliceStrings
import Derived.Deep.Slices
import Derived.Deep.Fields
import Derived.ChangeSame
import Derived.Deep.DeepHandedRow
import Derived.Deep.DeepWitnessRowRef
import Derived.Lib.LaidTab
import Derived.LaidSub

/-
  Patches in memory: a structure of four cells, one of them a row of numbers, one a row of prims; rows of patches, and such a row of the call's own.
-/
namespace Go.Proofs.YtfcdhpkikhkmiaaGreatDoor
open Go.RowKit Go.Maps

structure PaC where
  v : Pa
  D : Option Addr
  nd : Nat
  cd : Nat
  L : Option Addr
  nl : Nat
  cl : Nat
  xs : List PrC
def paL (x : PaC) : List Value := [.int .i64 x.v.id, .string x.v.note, .slice x.D x.nd x.cd, .slice x.L x.nl x.cl]
def paV (x : PaC) : Value := .agg #[.int .i64 x.v.id, .string x.v.note, .slice x.D x.nd x.cd, .slice x.L x.nl x.cl]
def numL (d : Int) : List Value := [.int .i64 d]
structure PaOk (w : World) (x : PaC) : Prop where
  deps : RowK 1 w x.D x.nd (x.v.deps.map numL)
  row : PsOk w x.L x.nl x.xs
  is : valsP x.xs = x.v.l
  droom : x.nd ≤ x.cd
  lroom : x.nl ≤ x.cl
  dmost : x.nd ≤ 65536
  lmost : x.nl ≤ 30000
  note : x.v.note.size ≤ maxLen
  lo : -9223372036854775808 ≤ x.v.id
  hi : x.v.id ≤ 9223372036854775807
  dlo : ∀ d ∈ x.v.deps, -9223372036854775808 ≤ d
  dhi : ∀ d ∈ x.v.deps, d ≤ 9223372036854775807

section
variable {k n g c l : Nat} {w w' : World} {A : Option Addr} {css : List (List Value)} {x : PaC}
theorem RowK.offK (h : RowK k w A n css) (hg : Turned g w w') (ho : css ≠ [] → Off g (.slice A n c)) : RowK k w' A n css :=
  ⟨h.1, h.2.1, fun hn => by
    obtain ⟨b, o, rfl, hc⟩ := h.2.2 hn
    have hne : css ≠ [] := by rintro rfl; have := h.1; simp at this; omega
    have hb : b ≠ g := fun e => ho hne (by rw [e]; rfl)
    exact ⟨b, o, rfl, fun j i cs v h1 h2 => hg.cell (hc j i cs v h1 h2) hb⟩⟩
theorem RowK.block0 (h : RowK k w A n css) (hk : 0 < k) (hne : css ≠ []) : ∃ b o v, A = some ⟨b, o, .none⟩ ∧ w.cell? ⟨b, o, .none⟩ = some v := by
  have hn : 0 < n := by
    have := h.1
    cases css with
    | nil => exact absurd rfl hne
    | cons s l => simp at this; omega
  obtain ⟨b, o, rfl, hc⟩ := h.2.2 hn
  cases css with
  | nil => exact absurd rfl hne
  | cons s css =>
    cases s with
    | nil => have := h.2.1 [] List.mem_cons_self; simp at this; omega
    | cons v s => exact ⟨b, o, v, rfl, by have := hc 0 0 _ v rfl rfl; simpa using this⟩
theorem RowK.awayK (h : RowK k w A n css) (hk : 0 < k) (hg : w.heap.size ≤ g) (hne : css ≠ []) : Off g (.slice A n c) := by
  obtain ⟨b, o, v, rfl, hc⟩ := h.block0 hk hne
  have h1 := lt_of_cell hc
  intro e
  simp only [Value.ownBlock, Option.some.injEq] at e
  dsimp only at h1
  omega
theorem map_ne {α β : Type} {f : α → β} {l : List α} (h : l.map f ≠ []) : l ≠ [] := fun e => h (by rw [e]; rfl)
theorem map_ne' {α β : Type} {f : α → β} {l : List α} (h : l ≠ []) : l.map f ≠ [] := fun e => h (by simpa using e)

def AwayN (g : Nat) (x : PaC) : Prop := (x.v.deps ≠ [] → Off g (.slice x.D x.nd x.cd)) ∧ (x.xs ≠ [] → Off g (.slice x.L x.nl x.cl)) ∧ ∀ y ∈ x.xs, Away g y
def FreshN (w : World) (x : PaC) : Prop := (∀ k, (Value.slice x.D x.nd x.cd).ownBlock = some k → w.heap.size ≤ k) ∧ (∀ k, (Value.slice x.L x.nl x.cl).ownBlock = some k → w.heap.size ≤ k) ∧ ∀ y ∈ x.xs, Fresh w y
theorem PsOk.off {n c : Nat} {xs : List PrC} (h : PsOk w A n xs) (hg : Turned g w w') (ho : xs ≠ [] → Off g (.slice A n c)) (ha : ∀ y ∈ xs, Away g y) : PsOk w' A n xs :=
  ⟨h.row.offK hg (fun e => ho (map_ne e)), fun y hy => (h.each y hy).off hg (ha y hy)⟩
theorem PaOk.later (h : PaOk w x) (hl : Later w w') : PaOk w' x := ⟨h.deps.later hl, h.row.later hl, h.is, h.droom, h.lroom, h.dmost, h.lmost, h.note, h.lo, h.hi, h.dlo, h.dhi⟩
theorem PaOk.off (h : PaOk w x) (hg : Turned g w w') (ha : AwayN g x) : PaOk w' x :=
  ⟨h.deps.offK (c := x.cd) hg (fun e => ha.1 (map_ne e)), h.row.off (c := x.cl) hg ha.2.1 ha.2.2, h.is, h.droom, h.lroom, h.dmost, h.lmost, h.note, h.lo, h.hi, h.dlo, h.dhi⟩
theorem PaOk.away (h : PaOk w x) (hg : w.heap.size ≤ g) : AwayN g x :=
  ⟨fun e => h.deps.awayK (by decide) hg (map_ne' e), fun e => h.row.row.awayK (by decide) hg (map_ne' e), fun y hy => (h.row.each y hy).away hg⟩
theorem FreshN.away (h : FreshN w x) (hg : g < w.heap.size) : AwayN g x :=
  ⟨fun _ e => by have := h.1 g e; omega, fun _ e => by have := h.2.1 g e; omega, fun y hy => (h.2.2 y hy).away hg⟩
theorem FreshN.base {w0 : World} (h : FreshN w x) (hl : Later w0 w) : FreshN w0 x :=
  ⟨fun k hk => Nat.le_trans hl.le (h.1 k hk), fun k hk => Nat.le_trans hl.le (h.2.1 k hk), fun y hy => (h.2.2 y hy).base hl⟩
theorem FreshN.low {w0 : World} (h : FreshN w x) (hl : w0.heap.size ≤ w.heap.size) : FreshN w0 x :=
  ⟨fun k hk => Nat.le_trans hl (h.1 k hk), fun k hk => Nat.le_trans hl (h.2.1 k hk), fun y hy => ⟨fun k hk => Nat.le_trans hl ((h.2.2 y hy).1 k hk), fun k hk => Nat.le_trans hl ((h.2.2 y hy).2 k hk)⟩⟩
end
def zeroPa : Pa := ⟨0, ByteArray.empty, [], []⟩
def zeroN : PaC := ⟨zeroPa, none, 0, 0, none, 0, 0, []⟩
theorem zeroN_ok (w : World) : PaOk w zeroN :=
  ⟨RowK.none, PsOk.none _ _, rfl, Nat.le_refl _, Nat.le_refl _, Nat.zero_le _, Nat.zero_le _, (by show (ByteArray.empty).size ≤ maxLen; simp only [maxLen]; decide), (by show (-9223372036854775808 : Int) ≤ 0; omega), (by show (0 : Int) ≤ 9223372036854775807; omega), (fun d hd => by cases hd), (fun d hd => by cases hd)⟩
structure NsOk (w : World) (A : Option Addr) (n : Nat) (xs : List PaC) : Prop where
  row : RowK 4 w A n (xs.map paL)
  each : ∀ x ∈ xs, PaOk w x
section
variable {w w' : World} {A : Option Addr} {n : Nat} {xs : List PaC}
theorem NsOk.len (h : NsOk w A n xs) : xs.length = n := by have := h.row.len; simpa using this
theorem NsOk.later (h : NsOk w A n xs) (hl : Later w w') : NsOk w' A n xs := ⟨h.row.later hl, fun x hx => (h.each x hx).later hl⟩
theorem NsOk.none (w : World) (A : Option Addr) : NsOk w A 0 [] := ⟨RowK.none, fun x hx => by cases hx⟩
theorem RowK.getN (h : RowK 4 w A n (xs.map paL)) {j : Nat} (hj : j < n) : ∃ b o x, A = some ⟨b, o, .none⟩ ∧ xs[j]? = some x ∧ w.cell? ⟨b, o + j * 4, .none⟩ = some (.int .i64 x.v.id) ∧ w.cell? ⟨b, o + j * 4 + 1, .none⟩ = some (.string x.v.note) ∧ w.cell? ⟨b, o + j * 4 + 2, .none⟩ = some (.slice x.D x.nd x.cd) ∧ w.cell? ⟨b, o + j * 4 + 3, .none⟩ = some (.slice x.L x.nl x.cl) := by
  obtain ⟨b, o, e, cs, hcs, _, hc⟩ := h.get hj
  have hl : j < xs.length := by have := h.len; simp at this; omega
  have hz := List.getElem?_eq_getElem hl
  simp only [List.getElem?_map, hz, Option.map_some, Option.some.injEq] at hcs
  subst hcs
  exact ⟨b, o, xs[j], e, hz, hc 0 _ rfl, hc 1 _ rfl, hc 2 _ rfl, hc 3 _ rfl⟩
theorem NsOk.get (h : NsOk w A n xs) {j : Nat} (hj : j < n) : ∃ b o x, A = some ⟨b, o, .none⟩ ∧ xs[j]? = some x ∧ PaOk w x ∧ w.cell? ⟨b, o + j * 4, .none⟩ = some (.int .i64 x.v.id) ∧ w.cell? ⟨b, o + j * 4 + 1, .none⟩ = some (.string x.v.note) ∧ w.cell? ⟨b, o + j * 4 + 2, .none⟩ = some (.slice x.D x.nd x.cd) ∧ w.cell? ⟨b, o + j * 4 + 3, .none⟩ = some (.slice x.L x.nl x.cl) := by
  obtain ⟨b, o, x, e, hz, hc⟩ := h.row.getN hj
  exact ⟨b, o, x, e, hz, h.each x (List.mem_of_getElem? hz), hc⟩
end
def valsN (xs : List PaC) : List Pa := xs.map (·.v)
structure OwnNs (e : TypeId) (w0 w : World) (v : Value) (xs : List PaC) : Prop where
  own : OwnK e 4 w0 w v (xs.map paL)
  ok : ∀ x ∈ xs, PaOk w x
  away : ∀ x ∈ xs, ∀ g, v.ownBlock = some g → AwayN g x
section
variable {e : TypeId} {w0 w w' : World} {v : Value} {xs : List PaC}
theorem OwnNs.later (h : OwnNs e w0 w v xs) : Later w0 w := h.own.later
theorem OwnNs.nil (hl : Later w0 w) : OwnNs e w0 w (.slice none 0 0) [] := ⟨OwnK.nil hl, (fun x hx => by cases hx), fun x hx => by cases hx⟩
theorem OwnNs.on (h : OwnNs e w0 w v xs) (hl : Later w w') : OwnNs e w0 w' v xs := ⟨h.own.on hl, fun x hx => (h.ok x hx).later hl, h.away⟩
theorem OwnNs.row (h : OwnNs e w0 w v xs) : ∃ A c, v = .slice A xs.length c ∧ xs.length ≤ c ∧ NsOk w A xs.length xs := by
  obtain ⟨A, c, hv, hc, hr⟩ := h.own.row
  simp only [List.length_map] at hv hc hr
  exact ⟨A, c, hv, hc, hr, h.ok⟩
theorem OwnNs.block (h : OwnNs e w0 w v xs) : ∀ b, v.ownBlock = some b → w0.heap.size ≤ b := h.own.block
theorem OwnNs.lt (h : OwnNs e w0 w v xs) : ∀ b, v.ownBlock = some b → b < w.heap.size := fun b hb => (h.own.1.lt b hb).2
theorem OwnNs.base {w1 : World} (h : OwnNs e w0 w v xs) (hl : Later w1 w0) : OwnNs e w1 w v xs :=
  ⟨⟨by
    refine ⟨h.own.1.1, ?_⟩
    rcases h.own.1.2 with h1 | ⟨g, cap, cur, h1, h2, h3⟩
    · exact .inl h1
    · exact .inr ⟨g, cap, cur, h1, Nat.le_trans hl.le h2, h3⟩, h.own.2.1, hl.trans h.own.2.2⟩, h.ok, h.away⟩
theorem OwnNs.other {g : Nat} (h : OwnNs e w0 w v xs) (hg : Turned g w w') (hv : v.ownBlock ≠ some g) (ha : ∀ x ∈ xs, AwayN g x) (hl : Later w0 w') : OwnNs e w0 w' v xs :=
  ⟨⟨h.own.1.kept hg (by
    cases hb : v.ownBlock with
    | none => exact .inl rfl
    | some b => right; rw [hb] at hv; exact hv), h.own.2.1, hl⟩, fun x hx => (h.ok x hx).off hg (ha x hx), h.away⟩
end


theorem flat_set4 (v0 v1 v2 v3 : Value) : ∀ {css : List (List Value)}, (∀ cs ∈ css, cs.length = 4) → ∀ {i : Nat}, i < css.length → ((((css.flatten.set (i * 4) v0).set (i * 4 + 1) v1).set (i * 4 + 2) v2).set (i * 4 + 3) v3) = (css.set i [v0, v1, v2, v3]).flatten
  | [], _, _, h => absurd h (Nat.not_lt_zero _)
  | c :: css, hk, i, hi => by
    match c, hk c List.mem_cons_self with
    | [a0, a1, a2, a3], _ =>
      cases i with
      | zero => simp
      | succ i =>
        have ih := flat_set4 v0 v1 v2 v3 (css := css) (fun cs h => hk cs (List.mem_cons_of_mem _ h)) (i := i) (by simpa using hi)
        rw [List.set_cons_succ, List.flatten_cons, List.flatten_cons, ← ih]
        simp only [show (i + 1) * 4 = i * 4 + 4 by omega, show i * 4 + 4 + 1 = i * 4 + 1 + 4 by omega, show i * 4 + 4 + 2 = i * 4 + 2 + 4 by omega, show i * 4 + 4 + 3 = i * 4 + 3 + 4 by omega]
        rfl
theorem turned_sets4 (w : World) (g o i : Nat) (v0 v1 v2 v3 : Value) : Turned g w ((((w.setCell ⟨g, o + i * 4, none⟩ v0).setCell ⟨g, o + i * 4 + 1, none⟩ v1).setCell ⟨g, o + i * 4 + 2, none⟩ v2).setCell ⟨g, o + i * 4 + 3, none⟩ v3) :=
  (((turned_set w g _ v0).trans (turned_set _ g _ v1)).trans (turned_set _ g _ v2)).trans (turned_set _ g _ v3)

section
variable {e : TypeId} {w0 w w' : World} {A : Option Addr} {n c g o : Nat} {xs : List PaC}
theorem OwnNs.ns (h : OwnNs e w0 w (.slice A n c) xs) : NsOk w A n xs := by
  obtain ⟨A', c', hv, _, hr⟩ := h.row
  cases hv
  exact hr
theorem OwnNs.size (h : OwnNs e w0 w (.slice A n c) xs) : xs.length = n := h.ns.len
theorem OwnNs.at (h : OwnNs e w0 w (.slice (some ⟨g, o, none⟩) n c) xs) : o = 0 ∧ ∃ cur, w.heap[g]? = some (.cells cur e (0, 0)) ∧ cur.size = c * 4 ∧ n ≤ c ∧ c ≤ maxLen ∧ cur.toList.take (n * 4) = (xs.map paL).flatten := by
  have hs := h.size
  rcases h.own.1.2 with ⟨hv, _⟩ | ⟨g', cap, cur, hv, _, hh, hnc, hm, hc, ht⟩
  · cases hv
  · simp only [List.length_map] at hv hnc ht
    rw [hs] at hv hnc ht
    cases hv
    exact ⟨rfl, cur, hh, hc, hnc, hm, ht⟩
theorem OwnNs.frozen (h : OwnNs e w0 w (.slice (some ⟨g, o, none⟩) n c) xs) (i : Nat) : w.frozen? ⟨g, i, none⟩ = false := by
  obtain ⟨_, cur, hh, _⟩ := h.at
  exact frozen_no hh i
theorem OwnNs.set (h : OwnNs e w0 w (.slice (some ⟨g, o, none⟩) n c) xs) {i : Nat} (hi : i < n) (x : PaC) (hx : PaOk w x) (ha : AwayN g x) :
    OwnNs e w0 ((((w.setCell ⟨g, o + i * 4, none⟩ (.int .i64 x.v.id)).setCell ⟨g, o + i * 4 + 1, none⟩ (.string x.v.note)).setCell ⟨g, o + i * 4 + 2, none⟩ (.slice x.D x.nd x.cd)).setCell ⟨g, o + i * 4 + 3, none⟩ (.slice x.L x.nl x.cl)) (.slice (some ⟨g, o, none⟩) n c) (xs.set i x) := by
  have hsz := h.size
  obtain ⟨rfl, cur, hh, hcs, hnc, hm, ht⟩ := h.at
  have hb := h.block g rfl
  have htn := turned_sets4 w g 0 i (.int .i64 x.v.id) (.string x.v.note) (.slice x.D x.nd x.cd) (.slice x.L x.nl x.cl)
  have hl := h.later.turn htn hb
  have hbox := (((BoxAt.set (show BoxAt w g cur e from hh) (0 + i * 4) (.int .i64 x.v.id)).set (0 + i * 4 + 1) (.string x.v.note)).set (0 + i * 4 + 2) (.slice x.D x.nd x.cd)).set (0 + i * 4 + 3) (.slice x.L x.nl x.cl)
  have hlen : (xs.map paL).length = n := by simp [hsz]
  refine ⟨⟨⟨?_, .inr ⟨g, c, _, ?_, hb, hbox, ?_, hm, ?_, ?_⟩⟩, ?_, hl⟩, ?_, ?_⟩
  · rw [flat_length (k := 4) (by intro cs hcs; obtain ⟨y, _, rfl⟩ := List.mem_map.1 hcs; rfl)]
  · simp [hsz]
  · simp [hsz]; exact hnc
  · simpa using hcs
  · simp only [List.length_map, List.length_set, Array.toList_setIfInBounds, List.take_set, hsz, ht, Nat.zero_add]
    rw [flat_set4 _ _ _ _ (by intro cs hcs; obtain ⟨y, _, rfl⟩ := List.mem_map.1 hcs; rfl) (by simp [hsz]; exact hi), List.map_set]
    rfl
  · intro cs hcs
    obtain ⟨y, _, rfl⟩ := List.mem_map.1 hcs
    rfl
  · intro y hy
    have h1 : PaOk w y ∧ AwayN g y := by
      rcases List.mem_or_eq_of_mem_set hy with h2 | rfl
      · exact ⟨h.ok y h2, h.away y h2 g rfl⟩
      · exact ⟨hx, ha⟩
    exact h1.1.off htn h1.2
  · intro y hy g' hg'
    cases hg'
    rcases List.mem_or_eq_of_mem_set hy with h2 | rfl
    · exact h.away y h2 _ rfl
    · exact ha
end

def NAt (w : World) (v : Value) (p : Pa) : Prop := ∃ x : PaC, v = paV x ∧ x.v = p ∧ PaOk w x
def NsAt (w : World) (v : Value) (l : List Pa) : Prop := ∃ A n c xs, v = .slice A n c ∧ n ≤ c ∧ NsOk w A n xs ∧ valsN xs = l
section
variable {w w' : World} {v u : Value} {l m : List Pa} {p : Pa}
theorem NAt.later (h : NAt w v p) (hl : Later w w') : NAt w' v p := by obtain ⟨x, h1, h2, h3⟩ := h; exact ⟨x, h1, h2, h3.later hl⟩
theorem NsAt.later (h : NsAt w v l) (hl : Later w w') : NsAt w' v l := by obtain ⟨A, n, c, xs, rfl, hc, hp, hv⟩ := h; exact ⟨A, n, c, xs, rfl, hc, hp.later hl, hv⟩
theorem NsAt.nil (w : World) : NsAt w (.slice none 0 0) [] := ⟨none, 0, 0, [], rfl, Nat.le_refl _, NsOk.none _ _, rfl⟩
end

end Go.Proofs.YtfcdhpkikhkmiaaGreatDoor

/-
  Bytes in memory: a slice that reads as bytes; an Out with its own row of bytes; an In with what it has not read.
-/
namespace Go.Proofs.YtfcdhpkikhkmiaaGreatDoor
open Go.RowKit Go.Maps

def BsAt (w : World) (A : Option Addr) (n : Nat) (bs : Bs) : Prop :=
  bs.length = n ∧ (0 < n → ∃ b o, A = some ⟨b, o, none⟩ ∧ ∀ j x, bs[j]? = some x → w.cell? ⟨b, o + j, none⟩ = some (.int .u8 (x.toNat : Int)))
def numsOf (bs : Bs) : List Int := bs.map fun x => (x.toNat : Int)
theorem numsOf_length (bs : Bs) : (numsOf bs).length = bs.length := by simp [numsOf]
theorem bytesOf_nums (bs : Bs) : Lib.bytesOf (numsOf bs) = bs := by
  unfold Lib.bytesOf numsOf
  rw [List.map_map]
  conv => rhs; rw [← List.map_id bs]
  refine List.map_congr_left fun x _ => ?_
  simp
theorem getD_nums {bs : Bs} {j : Nat} {x : UInt8} (h : bs[j]? = some x) : (numsOf bs).getD j 0 = (x.toNat : Int) := by
  simp [numsOf, List.getD, h]
section
variable {w w' : World} {A : Option Addr} {n c : Nat} {bs : Bs} {g : Nat}
theorem BsAt.len (h : BsAt w A n bs) : bs.length = n := h.1
theorem BsAt.none (w : World) (A : Option Addr) : BsAt w A 0 [] := ⟨rfl, fun h => absurd h (by omega)⟩
theorem BsAt.bytesIn (h : BsAt w A n bs) : Lib.BytesIn w A n (numsOf bs) := fun hn => by
  obtain ⟨b, o, e, hc⟩ := h.2 hn
  refine ⟨b, o, e, fun i hi => ?_⟩
  have hz : bs[i]? = some (bs[i]'(by rw [h.1]; exact hi)) := List.getElem?_eq_getElem _
  rw [getD_nums hz]
  exact hc i _ hz
theorem BsAt.later (h : BsAt w A n bs) (hl : Later w w') : BsAt w' A n bs := ⟨h.1, fun hn => by
  obtain ⟨b, o, e, hc⟩ := h.2 hn
  exact ⟨b, o, e, fun j x hx => hl.cell (hc j x hx)⟩⟩
theorem BsAt.turned (h : BsAt w A n bs) (ht : Turned g w w') (ho : bs ≠ [] → Off g (.slice A n c)) : BsAt w' A n bs := ⟨h.1, fun hn => by
  obtain ⟨b, o, rfl, hc⟩ := h.2 hn
  have hne : bs ≠ [] := by rintro rfl; have := h.1; simp at this; omega
  exact ⟨b, o, rfl, fun j x hx => ht.cell (hc j x hx) (fun e => ho hne (by dsimp only at e; rw [← e]; rfl))⟩⟩
theorem BsAt.away (h : BsAt w A n bs) (hg : w.heap.size ≤ g) : bs ≠ [] → Off g (.slice A n c) := fun hne => by
  have hn : 0 < n := by
    have := h.1
    cases bs with
    | nil => exact absurd rfl hne
    | cons s l => simp at this; omega
  obtain ⟨b, o, rfl, hc⟩ := h.2 hn
  have hz : bs[0]? = some (bs[0]'(by rw [h.1]; exact hn)) := List.getElem?_eq_getElem _
  have h1 := lt_of_cell (hc 0 _ hz)
  intro e
  simp only [Value.ownBlock, Option.some.injEq] at e
  dsimp only at h1
  omega
theorem BsAt.from_ (h : BsAt w A n bs) {c k : Nat} (hk : k ≤ n) (hc : n ≤ c) : BsAt w (if c = k then A else A.map (·.add k)) (n - k) (bs.drop k) := by
  refine ⟨by rw [List.length_drop, h.1], fun hn => ?_⟩
  obtain ⟨b, o, rfl, hcl⟩ := h.2 (by omega)
  rw [if_neg (by omega)]
  refine ⟨b, o + k, by simp only [Option.map_some, plain_add], fun j x hx => ?_⟩
  rw [List.getElem?_drop] at hx
  rw [Nat.add_assoc]
  exact hcl _ x hx
theorem BsAt.take (h : BsAt w A n bs) {k : Nat} (hk : k ≤ n) : BsAt w A k (bs.take k) := by
  refine ⟨by rw [List.length_take, h.1]; omega, fun hn => ?_⟩
  obtain ⟨b, o, rfl, hcl⟩ := h.2 (by omega)
  refine ⟨b, o, rfl, fun j x hx => ?_⟩
  rw [List.getElem?_take] at hx
  split at hx
  · exact hcl _ x hx
  · cases hx
theorem BsAt.get (h : BsAt w A n bs) {k : Nat} (hk : k < n) : ∃ b o, A = some ⟨b, o, .none⟩ ∧ w.cell? ⟨b, o + k, .none⟩ = some (.int .u8 ((bs.getD k 0).toNat : Int)) := by
  obtain ⟨b, o, rfl, hc⟩ := h.2 (by omega)
  have hz : bs[k]? = some (bs[k]'(by rw [h.1]; exact hk)) := List.getElem?_eq_getElem _
  refine ⟨b, o, rfl, ?_⟩
  rw [hc k _ hz]
  simp [List.getD, hz]
end

/-! ### An Out -/

structure Wr (B g : Nat) (w w' : World) : Prop where
  os : w'.os = w.os
  tape : w'.tape = w.tape
  output : w'.output = w.output
  size : w.heap.size ≤ w'.heap.size
  block : ∀ k, k < w.heap.size → k ≠ g → (k < B ∨ ∀ c fz, w.heap[k]? ≠ some (.cells c 5 fz)) → w'.heap[k]? = w.heap[k]?
section
variable {w w' w'' w0 : World} {B g k : Nat} {A : Option Addr} {n : Nat} {cs : Array Value} {T : TypeId}
theorem Wr.refl (B g : Nat) (w : World) : Wr B g w w := ⟨rfl, rfl, rfl, Nat.le_refl _, fun _ _ _ _ => rfl⟩
theorem Wr.trans (h : Wr B g w w') (k : Wr B g w' w'') : Wr B g w w'' :=
  ⟨k.os.trans h.os, k.tape.trans h.tape, k.output.trans h.output, Nat.le_trans h.size k.size, fun i hi hg hb => by
    have e := h.block i hi hg hb
    rw [k.block i (Nat.lt_of_lt_of_le hi h.size) hg (by rw [e]; exact hb), e]⟩
theorem Wr.of_later (h : Later w w') : Wr B g w w' := ⟨h.os, h.tape, h.output, h.size, fun i hi _ _ => h.block i hi⟩
theorem Wr.of_turned (h : Turned g w w') : Wr B g w w' := ⟨h.os, h.tape, h.output, h.size, fun i hi hg _ => h.block i hi (fun e => hg (Option.some.inj e))⟩
theorem Wr.of_below (h : Below B w w') (k : Lib.OthersKept 5 none w w') : Wr B g w w' := ⟨h.os, h.tape, h.output, h.size, fun i hi _ hb => by
  rcases hb with hb | hb
  · exact h.block i hb
  · rw [Array.getElem?_eq_getElem hi]
    exact k i _ (Array.getElem?_eq_getElem hi) (by simp) (fun c fz e => hb c fz (by rw [Array.getElem?_eq_getElem hi, e]))⟩
theorem Wr.of_grown {v : Value} {m : Nat} {xs : List Value} (h : w.grownBy w' v.ownBlock) (ho : w.ownsRow B 5 1 v m xs) : Wr B g w w' := ⟨h.os, h.tape, h.output, h.size, fun i hi _ hb => by
  refine h.block i hi fun e => ?_
  rcases ho.2 with ⟨rfl, _⟩ | ⟨b, cap, cur, rfl, hbb, hh, _⟩
  · cases e
  · simp only [Value.ownBlock, Option.some.injEq] at e
    subst e
    rcases hb with hb | hb
    · omega
    · exact hb cur _ hh⟩
theorem Wr.low (h : Wr B g w w') (hl : Later w0 w) (hB : w0.heap.size ≤ B) (hg : w0.heap.size ≤ g) : Later w0 w' :=
  ⟨h.os.trans hl.os, h.tape.trans hl.tape, h.output.trans hl.output, Nat.le_trans hl.le h.size, fun i hi => by
    rw [h.block i (Nat.lt_of_lt_of_le hi hl.le) (by omega) (.inl (by omega)), hl.block i hi]⟩
theorem Wr.turned (h : Wr B g w w') (hB : w.heap.size ≤ B) : Turned g w w' :=
  ⟨h.os, h.tape, h.output, h.size, fun i hi hg => h.block i hi (fun e => hg (by rw [e])) (.inl (by omega))⟩
theorem BoxAt.wr (hb : BoxAt w k cs T) (h : Wr B g w w') (hk : k ≠ g) (hT : T ≠ 5) : BoxAt w' k cs T := by
  unfold BoxAt at hb ⊢
  have hlt := (Array.getElem?_eq_some_iff.1 hb).1
  rw [h.block k hlt hk (.inr fun c fz e => by rw [hb] at e; simp at e; exact hT e.2.1)]
  exact hb
theorem Wr.cell {a : Addr} {u : Value} (h : Wr B g w w') (hc : w.cell? a = some u) (hne : a.block ≠ g) (hb : a.block < B ∨ ∀ c fz, w.heap[a.block]? ≠ some (.cells c 5 fz)) : w'.cell? a = some u := by
  have hlt := lt_of_cell hc
  have := h.block a.block hlt hne hb
  rw [World.cell?_of_block this]
  exact hc
end

structure Base (W : World) : Prop where
  tab : Lib.TabIs Tryz.prog W "internal/strconv.uint64pow10" .u64 Lib.pow10Tab
  syn : ∃ ev, W.cell? ⟨1, 0, none⟩ = some ev ∧ (ev = .nilIface ∨ ∃ te pe, ev = .iface te pe)
  rng : ∃ ev, W.cell? ⟨2, 0, none⟩ = some ev ∧ (ev = .nilIface ∨ ∃ te pe, ev = .iface te pe)
theorem Base.later {w w' : World} (h : Base w) (hl : Later w w') : Base w' :=
  ⟨Lib.tabBelow_of_tabIs h.tab w' hl, h.syn.imp fun _ e => ⟨hl.cell e.1, e.2⟩, h.rng.imp fun _ e => ⟨hl.cell e.1, e.2⟩⟩

structure OutAt (W : World) (B : Nat) (w : World) (g : Nat) (bs : Bs) : Prop where
  own : ∃ v, BoxAt w g #[v] 27 ∧ w.ownsRow B 5 1 v bs.length (Lib.byteCells bs) ∧ v.ownBlock ≠ some g
  le : B ≤ w.heap.size
  base : Later W w
  low : W.heap.size ≤ B
  gnew : W.heap.size ≤ g
section
variable {W w w' w'' w0 : World} {B g k : Nat} {bs : Bs}
theorem OutAt.later (h : OutAt W B w g bs) (hl : Later w w') : OutAt W B w' g bs := by
  obtain ⟨⟨v, h1, h2, h3⟩, hle, hb, hlo, hg⟩ := h
  refine ⟨⟨v, h1.later hl, ⟨h2.1, ?_⟩, h3⟩, Nat.le_trans hle hl.le, hb.trans hl, hlo, hg⟩
  rcases h2.2 with h | ⟨b, cap, cur, hv, hb, hh, hr⟩
  · exact .inl h
  · refine .inr ⟨b, cap, cur, hv, hb, ?_, hr⟩
    rw [hl.block b (Array.getElem?_eq_some_iff.1 hh).1]
    exact hh
theorem OutAt.put {v : Value} {cs : Bs} (h : OutAt W B w g bs) (hw : Wr B g w w') (hb : BoxAt w' g #[v] 27) (ho : w'.ownsRow B 5 1 v cs.length (Lib.byteCells cs)) (hv : v.ownBlock ≠ some g) : OutAt W B w' g cs :=
  ⟨⟨v, hb, ho, hv⟩, Nat.le_trans h.le hw.size, hw.low h.base h.low h.gnew, h.low, h.gnew⟩
theorem OutAt.lt (h : OutAt W B w g bs) : g < w.heap.size := by
  obtain ⟨⟨v, h1, _⟩, _⟩ := h
  exact h1.lt
end

/-! ### An In -/

def Byty (w : World) (A : Option Addr) : Prop := ∀ a, A = some a → ∃ cs fz, w.heap[a.block]? = some (.cells cs 5 fz)
structure InAt (W w : World) (g : Nat) (rest : Bs) (bad : Bool) : Prop where
  own : ∃ A c, BoxAt w g #[.slice A rest.length c, .bool bad] 92 ∧ BsAt w A rest.length rest ∧ rest.length ≤ c ∧ (A = none → c = 0) ∧ Byty w A
  most : rest.length ≤ 190000
  base : Later W w
  gnew : W.heap.size ≤ g
section
variable {W w w' w'' w0 : World} {B g k : Nat} {rest : Bs} {bad : Bool} {A : Option Addr} {cs : Array Value}
theorem Byty.keep (h : Byty w A) (hk : ∀ (b : Nat) (cs : Array Value) (fz : Nat × Nat), w.heap[b]? = some (.cells cs 5 fz) → w'.heap[b]? = w.heap[b]?) : Byty w' A := fun a e => by
  obtain ⟨cs, fz, hc⟩ := h a e
  exact ⟨cs, fz, (hk _ _ _ hc).trans hc⟩
theorem Byty.later (h : Byty w A) (hl : Later w w') : Byty w' A := h.keep fun b _ _ hb => hl.block b (Array.getElem?_eq_some_iff.1 hb).1
theorem Byty.off (h : Byty w A) (hb : BoxAt w g cs 92) (n c : Nat) : Off g (.slice A n c) := fun e => by
  cases A with
  | none => cases e
  | some a =>
    simp only [Value.ownBlock, Option.some.injEq] at e
    obtain ⟨cs', fz, hc⟩ := h a rfl
    unfold BoxAt at hb
    rw [e, hb] at hc
    simp at hc
theorem Byty.turned (h : Byty w A) (hb : BoxAt w g cs 92) (ht : Turned g w w') : Byty w' A := fun a e => by
  subst e
  obtain ⟨cs', fz, hc⟩ := h a rfl
  have := h.off hb 0 0
  refine ⟨cs', fz, (ht.block a.block (Array.getElem?_eq_some_iff.1 hc).1 (fun e => this ?_)).trans hc⟩
  simp only [Option.some.injEq] at e
  rw [← e]; rfl
theorem Byty.cut (h : Byty w A) (c k : Nat) : Byty w (if c = k then A else A.map (·.add k)) := by
  by_cases hc : c = k
  · rw [if_pos hc]; exact h
  · rw [if_neg hc]
    intro a e
    cases A with
    | none => cases e
    | some b =>
      simp only [Option.map_some, Option.some.injEq] at e
      subst e
      obtain ⟨cs, fz, hb⟩ := h b rfl
      have e1 : (b.add k).block = b.block := by unfold Addr.add; split <;> rfl
      exact ⟨cs, fz, by rw [e1]; exact hb⟩
theorem InAt.later (h : InAt W w g rest bad) (hl : Later w w') : InAt W w' g rest bad := by
  obtain ⟨⟨A, c, h1, h2, h3, h4, h5⟩, hm, hb, hg⟩ := h
  exact ⟨⟨A, c, h1.later hl, h2.later hl, h3, h4, h5.later hl⟩, hm, hb.trans hl, hg⟩
theorem InAt.keep (h : InAt W w g rest bad) (hl : Later W w') (hk : ∀ (b : Nat) (cs : Array Value) (T : TypeId) (fz : Nat × Nat), w.heap[b]? = some (.cells cs T fz) → T = 92 ∨ T = 5 → w'.heap[b]? = w.heap[b]?) : InAt W w' g rest bad := by
  obtain ⟨⟨A, c, h1, h2, h3, h4, h5⟩, hm, hb, hg⟩ := h
  refine ⟨⟨A, c, (hk _ _ _ _ h1 (.inl rfl)).trans h1, ⟨h2.1, fun hn => ?_⟩, h3, h4, h5.keep fun b cs fz hc => hk b cs 5 fz hc (.inr rfl)⟩, hm, hl, hg⟩
  obtain ⟨b, o, e, hc⟩ := h2.2 hn
  refine ⟨b, o, e, fun j x hx => ?_⟩
  obtain ⟨cs, fz, hcs⟩ := h5 _ e
  exact (World.cell?_of_block (hk b cs 5 fz hcs (.inr rfl))).trans (hc j x hx)
theorem InAt.lt (h : InAt W w g rest bad) : g < w.heap.size := by
  obtain ⟨⟨A, c, h1, _⟩, _⟩ := h
  exact h1.lt
theorem InAt.box (h : InAt W w g rest bad) : ∃ cs, BoxAt w g cs 92 := by
  obtain ⟨⟨A, c, h1, _⟩, _⟩ := h
  exact ⟨_, h1⟩
end

end Go.Proofs.YtfcdhpkikhkmiaaGreatDoor

/-
  What the rows' list of variables gives: the table of powers of ten, and the two errors of strconv; a world in which they stand.
-/
namespace Go.Proofs.YtfcdhpkikhkmiaaGreatDoor
open Go.ChangeShapes Go.WideShapes Go.ChangeAt Go.RowKit Go.Deep

theorem Tryz.gTab9 : Tryz.prog.globalNamed "internal/strconv.uint64pow10" = some 3 := by kernel_rfl
theorem Tryz.gTabType9 : (Tryz.prog.globals[3]?).map (·.type) = some 200 := by kernel_rfl
theorem Tryz.gTabCells9 : Tryz.prog.cellsOf 200 = 20 := by kernel_rfl
theorem Tryz.cells97_9 : Tryz.prog.cellsOf 177 = 1 := by kernel_rfl

def laidList9 : List (String × DataW Unit) := [("math/bits.deBruijn32tab", Rows.laid_math_bits_deBruijn32tab), ("math/bits.deBruijn64tab", Rows.laid_math_bits_deBruijn64tab), ("internal/strconv.uint64pow10", Rows.laid_internal_strconv_uint64pow10), ("strconv.ErrRange", Rows.laid_strconv_ErrRange), ("strconv.ErrSyntax", Rows.laid_strconv_ErrSyntax)]

theorem tab9 {W : World} (h : laidMetH Tryz.prog laidList9 W) : Lib.TabIs Tryz.prog W "internal/strconv.uint64pow10" .u64 Lib.pow10Tab := by
  have h1 := laidMetH.filter (fun x => x.1 == "internal/strconv.uint64pow10") h
  have e : laidList9.filter (fun x => x.1 == "internal/strconv.uint64pow10") = [("internal/strconv.uint64pow10", Lib.tabData .u64 Lib.pow10Tab)] := by kernel_rfl
  rw [e] at h1
  exact Lib.tabIs_of_head (rest := []) Tryz.gTab9 Tryz.gTabType9 Tryz.underlying200 Tryz.underlying177 Tryz.cells97_9 Tryz.gTabCells9 h1
theorem err9 {W : World} {n : String} {g : Nat} {ms : Array (String × TypeId)} {d : DataW Unit} {nm : String} (hm : laidMet Tryz.prog [(n, .iface nm d)] W) (hg : Tryz.prog.globalNamed n = some g) (ht : (Tryz.prog.globals[g]?).map (·.type) = some 140) (hi : Tryz.prog.underlying 140 = some (.interface ms)) :
    ∃ ev, W.cell? ⟨g, 0, none⟩ = some ev ∧ (ev = .nilIface ∨ ∃ te pe, ev = .iface te pe) := by
  obtain ⟨ps, ⟨g', t', cs, fuel, p, q, hg', ht', hvar, hd, _, _⟩, _⟩ := hm
  obtain rfl := Option.some.inj (hg.symm.trans hg')
  obtain rfl := Option.some.inj (ht.symm.trans ht')
  obtain ⟨_, u, v, hcs, _, _⟩ := iface_of_trod hi hd
  have hc := World.var?_cell hg hvar 0
  have e : cs[0]? = some (.iface u v) := by
    rw [← Array.getElem?_toList, hcs]
    rfl
  rw [e] at hc
  exact ⟨_, hc, .inr ⟨u, v, rfl⟩⟩
theorem base9 {W : World} (h : laidMetH Tryz.prog laidList9 W) : Base W := by
  have h1 := laidMetH.filter (fun x => x.1 == "strconv.ErrSyntax") h
  have e1 : laidList9.filter (fun x => x.1 == "strconv.ErrSyntax") = [("strconv.ErrSyntax", Rows.laid_strconv_ErrSyntax)] := by kernel_rfl
  rw [e1] at h1
  have h2 := laidMetH.filter (fun x => x.1 == "strconv.ErrRange") h
  have e2 : laidList9.filter (fun x => x.1 == "strconv.ErrRange") = [("strconv.ErrRange", Rows.laid_strconv_ErrRange)] := by kernel_rfl
  rw [e2] at h2
  exact ⟨tab9 h, err9 h1 (by kernel_rfl) (by kernel_rfl) Tryz.underlying140, err9 h2 (by kernel_rfl) (by kernel_rfl) Tryz.underlying140⟩

def setVar9 (h : Array Obj) (g : Nat) (cs : List Value) : Array Obj := h.modify g fun | .cells _ t frozen => .cells cs.toArray t frozen | o => o
noncomputable def blank9 (os : Os) : World := World.holding Tryz.prog os ⟨#[], #[], []⟩
noncomputable def laidWorld9 (os : Os) : World :=
  { blank9 os with
    heap := ((setVar9 (setVar9 (setVar9 (setVar9 (setVar9 (blank9 os).heap 3 (Lib.pow10Tab.map (Value.int .u64)))
      4 (([0, 1, 28, 2, 29, 14, 24, 3, 30, 22, 20, 15, 25, 17, 4, 8, 31, 27, 13, 23, 21, 19, 16, 7, 26, 12, 18, 6, 11, 5, 10, 9] : List Int).map (Value.int .u8)))
      5 (([0, 1, 56, 2, 57, 49, 28, 3, 61, 58, 42, 50, 38, 29, 17, 4, 62, 47, 59, 36, 45, 43, 51, 22, 53, 39, 33, 30, 24, 18, 12, 5, 63, 55, 48, 27, 60, 41, 37, 16, 46, 35, 44, 21, 52, 32, 23, 11, 54, 26, 40, 15, 34, 20, 31, 10, 25, 14, 19, 9, 13, 8, 7, 6] : List Int).map (Value.int .u8)))
      2 [.iface 196 (.pointer (some ⟨(blank9 os).heap.size, 0, none⟩))])
      1 [.iface 196 (.pointer (some ⟨(blank9 os).heap.size + 1, 0, none⟩))]).push
      (.cells #[.string ⟨#[118, 97, 108, 117, 101, 32, 111, 117, 116, 32, 111, 102, 32, 114, 97, 110, 103, 101]⟩] 198)).push
      (.cells #[.string ⟨#[105, 110, 118, 97, 108, 105, 100, 32, 115, 121, 110, 116, 97, 120]⟩] 198) }

theorem Tryz.own9 : ownKnob Tryz.prog.godebug = none := by kernel_rfl
theorem Tryz.laidOut9 : laidOutB Tryz.prog = true := by kernel_rfl
theorem Tryz.cells5_9 : Tryz.prog.cellsOf 5 = 1 := by kernel_rfl
theorem came_bytes {H : Type} {enc : TypeId × Value → H} {W : World} {v : Value} {fuel : Nat} {x : DataW H × List MemPlace}
    (hf : DataW.trod enc Tryz.prog W 0 (fun _ => true) true fuel 25 [v] = some x) : ∃ (A : Option Addr) (n c : Nat) (bs : Bs), v = .slice A n c ∧ n ≤ c ∧ (A = none → c = 0) ∧ BsAt W A n bs := by
  rcases open_ints Tryz.underlying25 Tryz.underlying5 Tryz.cells5_9 hf with ⟨hcs, hx⟩ | ⟨a, len, cap, zs, hcs, _, hl, hm, hz, hx, hcell, hwf⟩
  · simp at hcs
    exact ⟨none, 0, 0, [], hcs, Nat.le_refl _, fun _ => rfl, BsAt.none _ _⟩
  · simp at hcs
    simp only [if_true] at hz
    obtain ⟨b, off, spot⟩ := a
    refine ⟨_, len, cap, (zs.take len).map fun z => UInt8.ofNat z.toNat, hcs, hl, (fun e => by cases e), ⟨by rw [List.length_map, List.length_take]; omega, fun h0 => ?_⟩⟩
    have hspot : spot = none := by simpa [Addr.add] using World.cell?_spot (hcell 0 (by omega))
    subst hspot
    refine ⟨b, off, rfl, fun j x hj => ?_⟩
    rw [List.getElem?_map] at hj
    obtain ⟨z, hzj, rfl⟩ := Option.map_eq_some_iff.1 hj
    have hjl : j < len := by
      have := (List.getElem?_eq_some_iff.1 hzj).1
      rw [List.length_take] at this; omega
    rw [List.getElem?_take_of_lt hjl] at hzj
    have hw := hwf z (List.mem_of_getElem? hzj)
    have h256 : 0 ≤ z ∧ z ≤ 255 := by
      simp only [Lit.wf, Bool.and_eq_true, decide_eq_true_eq] at hw
      exact hw
    have hc := hcell j (by omega)
    rw [plain_add] at hc
    rw [hc]
    have e1 : zs.getD j 0 = z := by simp [List.getD, hzj]
    rw [e1]
    have e2 : ((UInt8.ofNat z.toNat).toNat : Int) = z := by
      rw [UInt8.toNat_ofNat']
      omega
    rw [e2]

end Go.Proofs.YtfcdhpkikhkmiaaGreatDoor
