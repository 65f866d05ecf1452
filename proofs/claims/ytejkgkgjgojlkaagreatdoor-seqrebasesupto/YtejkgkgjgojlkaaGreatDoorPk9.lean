import Derived.Test.YtejkgkgjgojlkaaGreatDoorPk7
import Derived.Test.YtejkgkgjgojlkaaGreatDoorPk8
import Derived.Test.YtejkgkgjgojlkaaGreatDoorChecked
import Derived.Test.YtejkgkgjgojlkaaGreatDoorPk1
import Derived.Test.YtejkgkgjgojlkaaGreatDoorPk3
import Derived.Deep.LoopGhost
import Derived.Deep.QuietTactic
import Derived.BigQuiet
import Derived.Lib.Hide

/-
  What stands in memory while a statement that swaps two prims, and keeps both, goes on in whatever order.
-/
namespace Go.Proofs.YtejkgkgjgojlkaaGreatDoor
open Go.RowKit Go.Maps

/-- No row of the prim lies in block g. -/
def Away (g : Nat) (x : PrC) : Prop := (x.v.old ≠ [] → Off g (.slice x.A x.n x.c)) ∧ (x.v.new ≠ [] → Off g (.slice x.B x.m x.d))
/-- Its rows lie behind all that was there. -/
def Fresh (w : World) (x : PrC) : Prop := (∀ k, (Value.slice x.A x.n x.c).ownBlock = some k → w.heap.size ≤ k) ∧ (∀ k, (Value.slice x.B x.m x.d).ownBlock = some k → w.heap.size ≤ k)
theorem PrOk.off {w w' : World} {g : Nat} {x : PrC} (h : PrOk w x) (hg : Turned g w w') (ha : Away g x) : PrOk w' x :=
  ⟨h.old.off (c := x.c) hg ha.1, h.new.off (c := x.d) hg ha.2, h.oroom, h.nroom, h.omost, h.nmost, h.name, h.to, h.lo, h.hi, h.olds, h.news⟩
theorem Row.awayG {w : World} {A : Option Addr} {n c g : Nat} {l : List ByteArray} (h : Row w A n l) (hg : w.heap.size ≤ g) (hl : l ≠ []) : Off g (.slice A n c) := by
  have hn : 0 < n := by
    have := h.1
    cases l with
    | nil => exact absurd rfl hl
    | cons s l => simp at this; omega
  obtain ⟨b, o, rfl, hc⟩ := h.2 hn
  cases l with
  | nil => exact absurd rfl hl
  | cons s l =>
    have h1 := lt_of_cell (hc 0 s rfl)
    intro e
    simp only [Value.ownBlock, Option.some.injEq] at e
    dsimp only at h1
    omega
theorem PrOk.away {w : World} {x : PrC} {g : Nat} (h : PrOk w x) (hg : w.heap.size ≤ g) : Away g x := ⟨h.old.awayG hg, h.new.awayG hg⟩
theorem Fresh.away {w : World} {x : PrC} {g : Nat} (h : Fresh w x) (hg : g < w.heap.size) : Away g x :=
  ⟨fun _ e => by have := h.1 g e; omega, fun _ e => by have := h.2 g e; omega⟩

/-- What the statement has made. -/
structure Dat where
  i : PrC
  j : PrC
  c : PrC
  d : PrC
  g8 : Nat
  g9 : Nat

/-- By which operations have come: two that are undone, the swap, two blocks, two stores. -/
structure Wd (wx : World) (p q r s : Pr) (bi bj bs b8 b9 bt bu : Bool) (D : Dat) (w : World) : Prop where
  later : Later wx w
  wi : bi = true → bs = false → D.i.v = p ∧ PrOk w D.i
  wj : bj = true → bs = false → D.j.v = q ∧ PrOk w D.j
  wc : bs = true → D.c.v = r ∧ D.d.v = s ∧ PrOk w D.c ∧ PrOk w D.d
  w8 : b8 = true → wx.heap.size ≤ D.g8 ∧ ∃ cs, cs.size = 6 ∧ BoxAt w D.g8 cs 70 ∧ (bt = true → cs = (prL D.c).toArray)
  w9 : b9 = true → wx.heap.size ≤ D.g9 ∧ ∃ cs, cs.size = 6 ∧ BoxAt w D.g9 cs 70 ∧ (bu = true → cs = (prL D.d).toArray)
  n : b8 = true → b9 = true → D.g8 ≠ D.g9
  a8 : bs = true → b8 = true → Away D.g8 D.c ∧ Away D.g8 D.d
  a9 : bs = true → b9 = true → Away D.g9 D.c ∧ Away D.g9 D.d

section
variable {wx w w' : World} {p q r s : Pr} {bi bj bs b8 b9 bt bu : Bool} {D : Dat}
theorem Wd.start (D : Dat) (hl : Later wx w) : Wd wx p q r s false false false false false false false D w :=
  ⟨hl, (fun h => by cases h), (fun h => by cases h), (fun h => by cases h), (fun h => by cases h), (fun h => by cases h), (fun h => by cases h), (fun h => by cases h), (fun h => by cases h)⟩
theorem Wd.on (h : Wd wx p q r s bi bj bs b8 b9 bt bu D w) (hl : Later w w') : Wd wx p q r s bi bj bs b8 b9 bt bu D w' :=
  ⟨h.later.trans hl, fun e f => ⟨(h.wi e f).1, (h.wi e f).2.later hl⟩, fun e f => ⟨(h.wj e f).1, (h.wj e f).2.later hl⟩, fun e => ⟨(h.wc e).1, (h.wc e).2.1, (h.wc e).2.2.1.later hl, (h.wc e).2.2.2.later hl⟩,
    (fun e => by obtain ⟨h1, cs, h2, h3, h4⟩ := h.w8 e; exact ⟨h1, cs, h2, h3.later hl, h4⟩), (fun e => by obtain ⟨h1, cs, h2, h3, h4⟩ := h.w9 e; exact ⟨h1, cs, h2, h3.later hl, h4⟩), h.n, h.a8, h.a9⟩
theorem Wd.inv1 (h : Wd wx p q r s bi bj bs b8 b9 bt bu D w) (hl : Later w w') {i : PrC} (hv : i.v = p) (ho : PrOk w' i) : Wd wx p q r s true bj bs b8 b9 bt bu { D with i := i } w' :=
  { h.on hl with wi := fun _ _ => ⟨hv, ho⟩ }
theorem Wd.inv2 (h : Wd wx p q r s bi bj bs b8 b9 bt bu D w) (hl : Later w w') {j : PrC} (hv : j.v = q) (ho : PrOk w' j) : Wd wx p q r s bi true bs b8 b9 bt bu { D with j := j } w' :=
  { h.on hl with wj := fun _ _ => ⟨hv, ho⟩ }
theorem Wd.swap (h : Wd wx p q r s bi bj false b8 b9 false false D w) (hl : Later w w') {c d : PrC} (hc : c.v = r) (hd : d.v = s) (oc : PrOk w' c) (od : PrOk w' d) (fc : Fresh w c) (fd : Fresh w d) : Wd wx p q r s bi bj true b8 b9 false false { D with c := c, d := d } w' :=
  { h.on hl with
    wi := fun _ e => by cases e
    wj := fun _ e => by cases e
    wc := fun _ => ⟨hc, hd, oc, od⟩
    w8 := fun e => by obtain ⟨h1, cs, h2, h3, h4⟩ := (h.on hl).w8 e; exact ⟨h1, cs, h2, h3, fun e => by cases e⟩
    w9 := fun e => by obtain ⟨h1, cs, h2, h3, h4⟩ := (h.on hl).w9 e; exact ⟨h1, cs, h2, h3, fun e => by cases e⟩
    a8 := fun _ e => by obtain ⟨_, _, _, h3, _⟩ := h.w8 e; exact ⟨fc.away h3.lt, fd.away h3.lt⟩
    a9 := fun _ e => by obtain ⟨_, _, _, h3, _⟩ := h.w9 e; exact ⟨fc.away h3.lt, fd.away h3.lt⟩ }
theorem Wd.alloc8 (h : Wd wx p q r s bi bj bs false b9 false bu D w) : Wd wx p q r s bi bj bs true b9 false bu { D with g8 := w.heap.size } (w.alloc (.cells zeroL 70)) :=
  { h.on ((Later.refl w).alloc _) with
    w8 := fun _ => ⟨h.later.le, zeroL, rfl, BoxAt.made w zeroL 70, fun e => by cases e⟩
    n := fun _ e => by obtain ⟨_, _, _, h3, _⟩ := h.w9 e; have := h3.lt; show w.heap.size ≠ D.g9; omega
    a8 := fun e _ => ⟨(h.wc e).2.2.1.away (Nat.le_refl _), (h.wc e).2.2.2.away (Nat.le_refl _)⟩ }
theorem Wd.alloc9 (h : Wd wx p q r s bi bj bs b8 false bt false D w) : Wd wx p q r s bi bj bs b8 true bt false { D with g9 := w.heap.size } (w.alloc (.cells zeroL 70)) :=
  { h.on ((Later.refl w).alloc _) with
    w9 := fun _ => ⟨h.later.le, zeroL, rfl, BoxAt.made w zeroL 70, fun e => by cases e⟩
    n := fun e _ => by obtain ⟨_, _, _, h3, _⟩ := h.w8 e; have := h3.lt; show D.g8 ≠ w.heap.size; omega
    a9 := fun e _ => ⟨(h.wc e).2.2.1.away (Nat.le_refl _), (h.wc e).2.2.2.away (Nat.le_refl _)⟩ }
theorem Wd.st8 (h : Wd wx p q r s bi bj true true true bt bu D w) (hb : BoxAt w' D.g8 (prL D.c).toArray 70) (ht : Turned D.g8 w w') : Wd wx p q r s bi bj true true true true bu D w' :=
  { h with
    later := h.later.turn ht (h.w8 rfl).1
    wi := fun _ e => by cases e
    wj := fun _ e => by cases e
    wc := fun _ => ⟨(h.wc rfl).1, (h.wc rfl).2.1, (h.wc rfl).2.2.1.off ht (h.a8 rfl rfl).1, (h.wc rfl).2.2.2.off ht (h.a8 rfl rfl).2⟩
    w8 := fun _ => ⟨(h.w8 rfl).1, _, rfl, hb, fun _ => rfl⟩
    w9 := fun _ => by obtain ⟨h1, cs, h2, h3, h4⟩ := h.w9 rfl; exact ⟨h1, cs, h2, h3.other ht (Ne.symm (h.n rfl rfl)), h4⟩ }
theorem Wd.st9 (h : Wd wx p q r s bi bj true true true bt bu D w) (hb : BoxAt w' D.g9 (prL D.d).toArray 70) (ht : Turned D.g9 w w') : Wd wx p q r s bi bj true true true bt true D w' :=
  { h with
    later := h.later.turn ht (h.w9 rfl).1
    wi := fun _ e => by cases e
    wj := fun _ e => by cases e
    wc := fun _ => ⟨(h.wc rfl).1, (h.wc rfl).2.1, (h.wc rfl).2.2.1.off ht (h.a9 rfl rfl).1, (h.wc rfl).2.2.2.off ht (h.a9 rfl rfl).2⟩
    w9 := fun _ => ⟨(h.w9 rfl).1, _, rfl, hb, fun _ => rfl⟩
    w8 := fun _ => by obtain ⟨h1, cs, h2, h3, h4⟩ := h.w8 rfl; exact ⟨h1, cs, h2, h3.other ht (h.n rfl rfl), h4⟩ }
theorem Wd.swap' (h : Wd wx p q r s bi bj bs b8 b9 bt bu D w) (e1 : bs = false) (e2 : bt = false) (e3 : bu = false) (hl : Later w w') {c d : PrC} (hc : c.v = r) (hd : d.v = s) (oc : PrOk w' c) (od : PrOk w' d) (fc : Fresh w c) (fd : Fresh w d) : Wd wx p q r s bi bj true b8 b9 bt bu { D with c := c, d := d } w' := by
  subst e1 e2 e3; exact h.swap hl hc hd oc od fc fd
theorem Wd.alloc8' (h : Wd wx p q r s bi bj bs b8 b9 bt bu D w) (e1 : b8 = false) (e2 : bt = false) : Wd wx p q r s bi bj bs true b9 bt bu { D with g8 := w.heap.size } (w.alloc (.cells zeroL 70)) := by
  subst e1 e2; exact h.alloc8
theorem Wd.alloc9' (h : Wd wx p q r s bi bj bs b8 b9 bt bu D w) (e1 : b9 = false) (e2 : bu = false) : Wd wx p q r s bi bj bs b8 true bt bu { D with g9 := w.heap.size } (w.alloc (.cells zeroL 70)) := by
  subst e1 e2; exact h.alloc9
theorem Wd.st8' (h : Wd wx p q r s bi bj bs b8 b9 bt bu D w) (e1 : bs = true) (e2 : b8 = true) (e3 : b9 = true) (hb : BoxAt w' D.g8 (prL D.c).toArray 70) (ht : Turned D.g8 w w') : Wd wx p q r s bi bj bs b8 b9 true bu D w' := by
  subst e1 e2 e3; exact h.st8 hb ht
theorem Wd.st9' (h : Wd wx p q r s bi bj bs b8 b9 bt bu D w) (e1 : bs = true) (e2 : b8 = true) (e3 : b9 = true) (hb : BoxAt w' D.g9 (prL D.d).toArray 70) (ht : Turned D.g9 w w') : Wd wx p q r s bi bj bs b8 b9 bt true D w' := by
  subst e1 e2 e3; exact h.st9 hb ht
end

end Go.Proofs.YtejkgkgjgojlkaaGreatDoor

/-
  Two prims in the other order, as plain values: when they have one, and what follows of it. Nothing of any program.
-/
namespace Go.Proofs.YtejkgkgjgojlkaaGreatDoor
open Go.RowKit

def placed (p : Pr) (k : Int) : Pr := { p with place := k }
def inFile (p : Pr) (n : ByteArray) : Pr := { p with name := n }
/-- Do two name one file? -/
def commonP (p q : Pr) : Bool := (namesP p).any fun a => (namesP q).any fun b => decide (a = b)

/-- P4.1, of two that are right. -/
def twoP (p q : Pr) : Pr × Pr × Bool :=
  if p.kind = 0 ∧ q.kind = 0 ∧ p.name = q.name then
    (if q.place > p.place + p.new.length then (placed q (q.place - p.new.length + p.old.length), p, true)
    else if q.place + q.old.length < p.place then (q, placed p (p.place + q.new.length - q.old.length), true)
    else (p, q, false))
  else if p.kind = 0 ∧ q.kind = 3 ∧ p.name = q.name then (q, inFile p q.to, true)
  else if p.kind = 3 ∧ q.kind = 0 ∧ p.to = q.name then (inFile q p.name, p, true)
  else if p.kind = 0 ∧ q.kind = 0 then (q, p, true)
  else (q, p, !commonP p q)

/-- P4.1: first and second, or none. -/
def swapP (p q : Pr) : Option (Pr × Pr) :=
  if rightP p = true ∧ rightP q = true ∧ (twoP p q).2.2 = true ∧ rightP (twoP p q).1 = true ∧ rightP (twoP p q).2.1 = true then some ((twoP p q).1, (twoP p q).2.1) else none

/-- The name behind x of a file; the name ahead of x. -/
def fwdN (x : Pr) (n : ByteArray) : Option ByteArray := if x.kind = 3 then (if n = x.name then some x.to else if n = x.to then none else some n) else if n = x.name then none else some n
def bwdN (x : Pr) (n : ByteArray) : Option ByteArray := if x.kind = 3 then (if n = x.to then some x.name else if n = x.name then none else some n) else if n = x.name then none else some n

theorem mem_names {p : Pr} {n : ByteArray} : n ∈ namesP p ↔ n = p.name ∨ p.kind = 3 ∧ n = p.to := by
  unfold namesP
  by_cases h : p.kind = 3
  · simp only [h, ne_eq, not_true, if_false, true_and]
    split
    · simp
    · simp [or_comm]
  · simp [h]
theorem common_iff {p q : Pr} : commonP p q = true ↔ ∃ n, n ∈ namesP p ∧ n ∈ namesP q := by
  simp only [commonP, List.any_eq_true, decide_eq_true_eq]
  constructor
  · rintro ⟨a, ha, b, hb, rfl⟩; exact ⟨a, ha, hb⟩
  · rintro ⟨a, ha, hb⟩; exact ⟨a, ha, a, hb, rfl⟩
theorem common_comm (p q : Pr) : commonP p q = commonP q p := by
  rw [Bool.eq_iff_iff, common_iff, common_iff]
  exact ⟨fun ⟨n, a, b⟩ => ⟨n, b, a⟩, fun ⟨n, a, b⟩ => ⟨n, b, a⟩⟩
theorem common_no {p q : Pr} : commonP p q = false ↔ ∀ n, n ∈ namesP p → n ∉ namesP q := by
  rw [← Bool.not_eq_true, common_iff]
  exact ⟨fun h n a b => h ⟨n, a, b⟩, fun h ⟨n, a, b⟩ => h n a b⟩

/-- A right Move goes elsewhere. -/
theorem move_else {x : Pr} (hr : rightP x = true) (e : x.kind = 3) : x.to ≠ x.name := ((right_parts hr).2.2.2.2.2 e).2
theorem fwd_bwd {x : Pr} (hr : rightP x = true) {n m : ByteArray} : fwdN x n = some m ↔ bwdN x m = some n := by
  unfold fwdN bwdN
  by_cases h : x.kind = 3
  · have hne := move_else hr h
    simp only [h, if_true]
    constructor
    · split
      · rintro ⟨⟩; rename_i e; subst e; simp
      · split
        · rintro ⟨⟩
        · rintro ⟨⟩; rename_i h1 h2; rw [if_neg h2, if_neg h1]
    · split
      · rintro ⟨⟩; rename_i e; subst e; simp
      · split
        · rintro ⟨⟩
        · rintro ⟨⟩; rename_i h1 h2; rw [if_neg h2, if_neg h1]
  · simp only [h, if_false]
    constructor
    · split
      · rintro ⟨⟩
      · rintro ⟨⟩; rename_i h1; rw [if_neg h1]
    · split
      · rintro ⟨⟩
      · rintro ⟨⟩; rename_i h1; rw [if_neg h1]

theorem named_fwd {x : Pr} (hr : rightP x = true) {n m : ByteArray} (hn : namedB n = true) (h : fwdN x n = some m) : namedB m = true := by
  unfold fwdN at h
  split at h
  · rename_i e
    split at h
    · cases h; exact ((right_parts hr).2.2.2.2.2 e).1
    · split at h
      · cases h
      · cases h; exact hn
  · split at h
    · cases h
    · cases h; exact hn
theorem named_bwd {x : Pr} (hr : rightP x = true) {n m : ByteArray} (hn : namedB n = true) (h : bwdN x n = some m) : namedB m = true := by
  unfold bwdN at h
  split at h
  · split at h
    · cases h; exact (right_parts hr).1
    · split at h
      · cases h
      · cases h; exact hn
  · split at h
    · cases h
    · cases h; exact hn

/-- A Hunk in another file, or at another place, is right just if the name, or the place, is. -/
theorem right_inFile {p : Pr} (h0 : p.kind = 0) (hr : rightP p = true) {n : ByteArray} (hn : namedB n = true) : rightP (inFile p n) = true := by
  simp only [rightP, inFile, h0, if_true, Bool.and_eq_true] at hr ⊢
  exact ⟨hn, hr.2⟩
theorem right_placed {p : Pr} (h0 : p.kind = 0) (hr : rightP p = true) {k : Int} (hk : 0 ≤ k) : rightP (placed p k) = decide (k ≤ 1048576) := by
  simp only [rightP, placed, h0, if_true, Bool.and_eq_true] at hr ⊢
  obtain ⟨h1, ⟨⟨⟨h2, h3⟩, h4⟩, h5⟩, h6⟩ := hr
  rw [h1, h2, h4, h5, h6]
  simp [hk]
theorem place_in {p : Pr} (hr : rightP p = true) (h0 : p.kind = 0) : 0 ≤ p.place ∧ p.place ≤ 1048576 := (right_parts hr).2.2.2.2.1 h0

section
variable {p q : Pr}
/-- Two Hunks. -/
def swapHH (p q : Pr) : Option (Pr × Pr) :=
  if p.name = q.name then
    (if q.place > p.place + p.new.length then (if q.place - p.new.length + p.old.length ≤ 1048576 then some (placed q (q.place - p.new.length + p.old.length), p) else none)
    else if q.place + q.old.length < p.place then (if p.place + q.new.length - q.old.length ≤ 1048576 then some (q, placed p (p.place + q.new.length - q.old.length)) else none)
    else none)
  else some (q, p)
theorem swap_HH (hp : rightP p = true) (hq : rightP q = true) (h : p.kind = 0) (k : q.kind = 0) : swapP p q = swapHH p q := by
  have pp := place_in hp h
  have qq := place_in hq k
  simp only [swapP, twoP, swapHH, h, k, true_and, hp, hq]
  by_cases e : p.name = q.name
  · simp only [e, if_true]
    by_cases h1 : q.place > p.place + p.new.length
    · have hk : 0 ≤ q.place - p.new.length + p.old.length := by omega
      simp only [h1, if_true, hp, right_placed k hq hk, decide_eq_true_eq, and_true, true_and]
    · simp only [h1, if_false]
      by_cases h2 : q.place + q.old.length < p.place
      · have hk : 0 ≤ p.place + q.new.length - q.old.length := by omega
        simp only [h2, if_true, hq, right_placed h hp hk, decide_eq_true_eq, true_and]
      · simp [h2]
  · simp [e, hp, hq]
/-- A Hunk, and none. -/
theorem swap_HN (hp : rightP p = true) (hq : rightP q = true) (h : p.kind = 0) (k : q.kind ≠ 0) : swapP p q = (fwdN q p.name).map fun n => (q, inFile p n) := by
  have hn := (right_parts hp).1
  simp only [swapP, twoP, h, k, true_and, false_and, and_false, if_false, hp, hq, Int.reduceEq]
  by_cases k3 : q.kind = 3
  · simp only [k3, true_and, fwdN, if_true]
    by_cases e : p.name = q.name
    · have ht := right_inFile h hp ((right_parts hq).2.2.2.2.2 k3).1
      simp [e, hq, ht]
    · simp only [e, if_false]
      by_cases e2 : p.name = q.to
      · have : commonP p q = true := common_iff.2 ⟨p.name, mem_names.2 (.inl rfl), mem_names.2 (.inr ⟨k3, e2⟩)⟩
        simp [this, e2]
      · have : commonP p q = false := common_no.2 fun n a b => by
          rw [mem_names] at a b
          simp only [h, Int.reduceEq, false_and, or_false] at a
          subst a
          rcases b with b | b
          · exact e b
          · exact e2 b.2
        simp [this, e2, hp, hq, inFile]
  · simp only [k3, false_and, if_false, fwdN]
    by_cases e : p.name = q.name
    · have : commonP p q = true := common_iff.2 ⟨p.name, mem_names.2 (.inl rfl), mem_names.2 (.inl e)⟩
      simp [this, e]
    · have : commonP p q = false := common_no.2 fun n a b => by
        rw [mem_names] at a b
        simp only [h, k3, Int.reduceEq, false_and, or_false] at a b
        exact e (a.symm.trans b)
      simp [this, e, hp, hq, inFile]
/-- None, and a Hunk. -/
theorem swap_NH (hp : rightP p = true) (hq : rightP q = true) (h : p.kind ≠ 0) (k : q.kind = 0) : swapP p q = (bwdN p q.name).map fun n => (inFile q n, p) := by
  simp only [swapP, twoP, h, k, true_and, false_and, if_false, hp, hq]
  by_cases k3 : p.kind = 3
  · simp only [k3, true_and, bwdN, if_true]
    by_cases e : p.to = q.name
    · have ht := right_inFile k hq (right_parts hp).1
      simp [e, hp, ht]
    · have e' : q.name ≠ p.to := fun x => e x.symm
      simp only [e, e', if_false]
      by_cases e2 : q.name = p.name
      · have : commonP p q = true := common_iff.2 ⟨p.name, mem_names.2 (.inl rfl), mem_names.2 (.inl e2.symm)⟩
        simp [this, e2]
      · have : commonP p q = false := common_no.2 fun n a b => by
          rw [mem_names] at a b
          simp only [k, Int.reduceEq, false_and, or_false] at b
          subst b
          rcases a with a | a
          · exact e2 a
          · exact e' a.2
        simp [this, e2, hp, hq, inFile]
  · simp only [k3, false_and, if_false, bwdN]
    by_cases e : q.name = p.name
    · have : commonP p q = true := common_iff.2 ⟨p.name, mem_names.2 (.inl rfl), mem_names.2 (.inl e.symm)⟩
      simp [this, e]
    · have : commonP p q = false := common_no.2 fun n a b => by
        rw [mem_names] at a b
        simp only [k, k3, Int.reduceEq, false_and, or_false] at a b
        exact e (b.symm.trans a)
      simp [this, e, hp, hq, inFile]
/-- No Hunk of both. -/
theorem swap_NN (hp : rightP p = true) (hq : rightP q = true) (h : p.kind ≠ 0) (k : q.kind ≠ 0) : swapP p q = if commonP p q = true then none else some (q, p) := by
  simp only [swapP, twoP, h, k, and_false, false_and, if_false, hp, hq, true_and, and_true]
  cases commonP p q <;> simp
theorem swap_right {a b : Pr} (h : swapP p q = some (a, b)) : rightP p = true ∧ rightP q = true ∧ rightP a = true ∧ rightP b = true := by
  simp only [swapP] at h
  split at h
  · rename_i hc
    cases h
    exact ⟨hc.1, hc.2.1, hc.2.2.2.1, hc.2.2.2.2⟩
  · cases h
end

end Go.Proofs.YtejkgkgjgojlkaaGreatDoor

/-
  Two prims in the other order, by the program's own cases, as plain values: they are the document's. Nothing of any program.
-/
namespace Go.Proofs.YtejkgkgjgojlkaaGreatDoor
open Go.RowKit

def zeroPr : Pr := ⟨0, ByteArray.empty, ByteArray.empty, 0, [], []⟩
def noneP : Pr × Pr × Bool := (zeroPr, zeroPr, false)
def turnHH (p q : Pr) : Pr × Pr × Bool :=
  if p.name ≠ q.name then (q, p, true)
  else if q.place > p.place + p.new.length then (placed q (q.place - (p.new.length - p.old.length)), p, true)
  else if q.place + q.old.length < p.place then (q, placed p (p.place + (q.new.length - q.old.length)), true)
  else noneP
def turnHM (p q : Pr) : Pr × Pr × Bool := if p.name = q.to then noneP else if p.name = q.name then (q, inFile p q.to, true) else (q, p, true)
def turnMH (p q : Pr) : Pr × Pr × Bool := if q.name = p.name then noneP else if q.name = p.to then (inFile q p.name, p, true) else (q, p, true)
def turnP (p q : Pr) : Pr × Pr × Bool :=
  if p.kind = 0 ∧ q.kind = 0 then turnHH p q
  else if p.kind = 0 ∧ q.kind = 3 then turnHM p q
  else if p.kind = 3 ∧ q.kind = 0 then turnMH p q
  else (q, p, !commonP p q)
/-- What comes of three that were told, if both are right. -/
def heedP (r : Pr × Pr × Bool) : Option (Pr × Pr) := if r.2.2 = true ∧ rightP r.1 = true ∧ rightP r.2.1 = true then some (r.1, r.2.1) else none
theorem swapP_two (p q : Pr) (hp : rightP p = true) (hq : rightP q = true) : swapP p q = heedP (twoP p q) := by
  simp only [swapP, heedP, hp, hq, true_and]
theorem swapP_not (p q : Pr) (h : ¬ (rightP p = true ∧ rightP q = true)) : swapP p q = none := by
  unfold swapP
  rw [if_neg]
  exact fun k => h ⟨k.1, k.2.1⟩
theorem heed_none : heedP noneP = none := rfl
theorem heed_false (a b : Pr) : heedP (a, b, false) = none := by simp [heedP]

theorem swapP_turn (p q : Pr) (hp : rightP p = true) (hq : rightP q = true) : swapP p q = heedP (turnP p q) := by
  rw [swapP_two p q hp hq]
  unfold turnP twoP
  by_cases kp : p.kind = 0
  · by_cases kq : q.kind = 0
    · simp only [kp, kq, true_and, and_self, if_true, turnHH]
      by_cases e : p.name = q.name
      · simp only [e, if_true, ne_eq, not_true, if_false]
        by_cases h1 : q.place > p.place + p.new.length
        · simp only [h1, if_true]
          rw [show q.place - (p.new.length : Int) + p.old.length = q.place - ((p.new.length : Int) - p.old.length) from by omega]
        · simp only [h1, if_false]
          by_cases h2 : q.place + q.old.length < p.place
          · simp only [h2, if_true]
            rw [show p.place + (q.new.length : Int) - q.old.length = p.place + ((q.new.length : Int) - q.old.length) from by omega]
          · simp only [h2, if_false, heed_false, heed_none]
      · simp [e]
    · by_cases k3 : q.kind = 3
      · simp only [kp, k3, true_and, false_and, and_false, if_true, if_false, turnHM, Int.reduceEq]
        by_cases e : p.name = q.name
        · have hne : ¬ q.name = q.to := fun x => move_else hq k3 x.symm
          simp only [e, if_true, hne, if_false]
        · simp only [e, if_false]
          by_cases e2 : p.name = q.to
          · have : commonP p q = true := common_iff.2 ⟨p.name, mem_names.2 (.inl rfl), mem_names.2 (.inr ⟨k3, e2⟩)⟩
            simp only [this, Bool.not_true, e2, if_true, heed_false, heed_none]
          · have : commonP p q = false := common_no.2 fun n a b => by
              rw [mem_names] at a b
              simp only [kp, Int.reduceEq, false_and, or_false] at a
              subst a
              rcases b with b | b
              · exact e b
              · exact e2 b.2
            simp only [this, Bool.not_false, e2, if_false]
      · simp [kp, kq, k3]
  · by_cases kq : q.kind = 0
    · by_cases k3 : p.kind = 3
      · simp only [kq, k3, true_and, false_and, and_true, if_true, if_false, turnMH, Int.reduceEq]
        by_cases e : p.to = q.name
        · have hne : ¬ q.name = p.name := fun x => move_else hp k3 (e.trans x)
          simp only [e, if_true, hne, if_false]
        · have e' : ¬ q.name = p.to := fun x => e x.symm
          simp only [e, e', if_false]
          by_cases e2 : q.name = p.name
          · have : commonP p q = true := common_iff.2 ⟨p.name, mem_names.2 (.inl rfl), mem_names.2 (.inl e2.symm)⟩
            simp only [this, Bool.not_true, e2, if_true, heed_false, heed_none]
          · have : commonP p q = false := common_no.2 fun n a b => by
              rw [mem_names] at a b
              simp only [kq, Int.reduceEq, false_and, or_false] at b
              subst b
              rcases a with a | a
              · exact e2 a
              · exact e' a.2
            simp only [this, Bool.not_false, e2, if_false]
      · simp [kp, kq, k3]
    · simp [kp, kq]

end Go.Proofs.YtejkgkgjgojlkaaGreatDoor

/-
  Two prims and a Bool that a call tells; prims at another place, in another file.
-/
namespace Go.Proofs.YtejkgkgjgojlkaaGreatDoor
open Go.RowKit Go.Maps

def atC (x : PrC) (k : Int) : PrC := { x with v := placed x.v k }
def inC (x : PrC) (n : ByteArray) : PrC := { x with v := inFile x.v n }
def zeroC : PrC := ⟨zeroPr, none, 0, 0, none, 0, 0⟩
theorem atC_ok {w : World} {x : PrC} (h : PrOk w x) {k : Int} (h1 : -9223372036854775808 ≤ k) (h2 : k ≤ 9223372036854775807) : PrOk w (atC x k) :=
  ⟨h.old, h.new, h.oroom, h.nroom, h.omost, h.nmost, h.name, h.to, h1, h2, h.olds, h.news⟩
theorem inC_ok {w : World} {x : PrC} (h : PrOk w x) {n : ByteArray} (hn : n.size ≤ maxLen) : PrOk w (inC x n) :=
  ⟨h.old, h.new, h.oroom, h.nroom, h.omost, h.nmost, hn, h.to, h.lo, h.hi, h.olds, h.news⟩
theorem zeroC_ok (w : World) : PrOk w zeroC :=
  ⟨Row.none, Row.none, Nat.le_refl _, Nat.le_refl _, Nat.zero_le _, Nat.zero_le _, Nat.zero_le _, Nat.zero_le _, by simp [zeroC, zeroPr], by simp [zeroC, zeroPr], (fun s hs => by simp [zeroC, zeroPr] at hs), (fun s hs => by simp [zeroC, zeroPr] at hs)⟩

/-- Two prims and a Bool. -/
def GivesT (r : Pr × Pr × Bool) (w : World) (e : Ending) (w' : World) : Prop :=
  ∃ a b : PrC, e = .returned (.tuple #[prV a, prV b, .bool r.2.2]) ∧ a.v = r.1 ∧ b.v = r.2.1 ∧ PrOk w' a ∧ PrOk w' b ∧ Later w w'
/-- The same, where the rows are those of x or y. -/
def GivesW (x y : PrC) (r : Pr × Pr × Bool) (w : World) (e : Ending) (w' : World) : Prop :=
  ∃ a b : PrC, e = .returned (.tuple #[prV a, prV b, .bool r.2.2]) ∧ a.v = r.1 ∧ b.v = r.2.1 ∧ (∀ w0, PrOk w0 x → PrOk w0 y → PrOk w0 a ∧ PrOk w0 b) ∧ Later w w'
/-- What Swap tells. -/
def swapR (o : Option (Pr × Pr)) : Pr × Pr × Bool := match o with | some r => (r.1, r.2, true) | none => noneP

theorem results_two {P : Program} {fn : Func} {p q u : Tmp} {ty : TypeId} (h : fn.results = #[.cell p ty, .cell q ty, .tmp u]) (tmps : Array Value) (w : World) (g k : Nat) (t s : TypeId) (cs ds : Array Value) (fr gr : Nat × Nat) (d : TypeDesc) (v : Value)
    (hp : tmps.getD p undef = .pointer (some ⟨g, 0, none⟩)) (hq : tmps.getD q undef = .pointer (some ⟨k, 0, none⟩)) (hv : tmps.getD u undef = v) (hg : w.heap[g]? = some (.cells cs t fr)) (hk : w.heap[k]? = some (.cells ds s gr))
    (hu : P.underlying ty = some d) (hd : (match d with | .struct _ | .array _ _ => true | _ => false) = true) (hi : (P.info? ty).map (·.size) = some cs.size) (hj : (P.info? ty).map (·.size) = some ds.size) :
    (results fn tmps).run P w = .ok (.tuple #[.agg cs, .agg ds, v]) w := by
  have hp' : tmps[p]?.getD undef = .pointer (some ⟨g, 0, none⟩) := by simpa using hp
  have hq' : tmps[q]?.getD undef = .pointer (some ⟨k, 0, none⟩) := by simpa using hq
  have hv' : tmps[u]?.getD undef = v := by simpa using hv
  simp [results, h, hp', hq', hv', asAddr, run_loadVar_row w g t ty cs fr d hg hu hd hi, run_loadVar_row w k s ty ds gr d hk hu hd hj]

set_option maxRecDepth 100000 in
theorem growth_any (x : PrC) (w : World) (hx : PrOk w x) :
    Calls Tryz.prog 133 #[prV x] w fun e w' => e = .returned (.int .i64 ((x.m : Int) - x.n)) ∧ Later w w' := by
  have hlb : Later w (w.alloc (.cells #[.int .i64 x.v.kind, .string x.v.name, .string x.v.to, .int .i64 x.v.place, .slice x.A x.n x.c, .slice x.B x.m x.d] 70)) := (Later.refl w).alloc _
  have h1 := hx.omost; have h2 := hx.nmost
  clear hx
  unfold prV
  go_enter Tryz.func133, Tryz.ntmps133
  go_wp2
  go_ret
  exact ⟨by go_num, hlb⟩

end Go.Proofs.YtejkgkgjgojlkaaGreatDoor

/-
  Rows of prims in memory: what a slice of them reads as, and one of the call's own that grows by append and is written into.
-/
namespace Go.Proofs.YtejkgkgjgojlkaaGreatDoor
open Go.RowKit Go.Maps

/-- The slice reads as these prims, whose rows stand there. -/
structure PsOk (w : World) (A : Option Addr) (n : Nat) (xs : List PrC) : Prop where
  row : RowK 6 w A n (xs.map prL)
  each : ∀ x ∈ xs, PrOk w x
section
variable {w w' : World} {A : Option Addr} {n : Nat} {xs : List PrC}
theorem PsOk.len (h : PsOk w A n xs) : xs.length = n := by have := h.row.len; simpa using this
theorem PsOk.later (h : PsOk w A n xs) (hl : Later w w') : PsOk w' A n xs := ⟨h.row.later hl, fun x hx => (h.each x hx).later hl⟩
theorem PsOk.none (w : World) (A : Option Addr) : PsOk w A 0 [] := ⟨RowK.none, fun x hx => by cases hx⟩
theorem RowK.getP (h : RowK 6 w A n (xs.map prL)) {j : Nat} (hj : j < n) : ∃ b o x, A = some ⟨b, o, .none⟩ ∧ xs[j]? = some x ∧ w.cell? ⟨b, o + j * 6, .none⟩ = some (.int .i64 x.v.kind) ∧ w.cell? ⟨b, o + j * 6 + 1, .none⟩ = some (.string x.v.name) ∧ w.cell? ⟨b, o + j * 6 + 2, .none⟩ = some (.string x.v.to) ∧ w.cell? ⟨b, o + j * 6 + 3, .none⟩ = some (.int .i64 x.v.place) ∧ w.cell? ⟨b, o + j * 6 + 4, .none⟩ = some (.slice x.A x.n x.c) ∧ w.cell? ⟨b, o + j * 6 + 5, .none⟩ = some (.slice x.B x.m x.d) := by
  obtain ⟨b, o, e, cs, hcs, _, hc⟩ := h.get hj
  have hl : j < xs.length := by have := h.len; simp at this; omega
  have hz := List.getElem?_eq_getElem hl
  simp only [List.getElem?_map, hz, Option.map_some, Option.some.injEq] at hcs
  subst hcs
  exact ⟨b, o, xs[j], e, hz, hc 0 _ rfl, hc 1 _ rfl, hc 2 _ rfl, hc 3 _ rfl, hc 4 _ rfl, hc 5 _ rfl⟩
theorem PsOk.get (h : PsOk w A n xs) {j : Nat} (hj : j < n) : ∃ b o x, A = some ⟨b, o, .none⟩ ∧ xs[j]? = some x ∧ PrOk w x ∧ w.cell? ⟨b, o + j * 6, .none⟩ = some (.int .i64 x.v.kind) ∧ w.cell? ⟨b, o + j * 6 + 1, .none⟩ = some (.string x.v.name) ∧ w.cell? ⟨b, o + j * 6 + 2, .none⟩ = some (.string x.v.to) ∧ w.cell? ⟨b, o + j * 6 + 3, .none⟩ = some (.int .i64 x.v.place) ∧ w.cell? ⟨b, o + j * 6 + 4, .none⟩ = some (.slice x.A x.n x.c) ∧ w.cell? ⟨b, o + j * 6 + 5, .none⟩ = some (.slice x.B x.m x.d) := by
  obtain ⟨b, o, x, e, hz, hc⟩ := h.row.getP hj
  exact ⟨b, o, x, e, hz, h.each x (List.mem_of_getElem? hz), hc⟩
end
theorem Prims.ok {w : World} {A : Option Addr} {n : Nat} {xs : List PrC} (h : Prims w A n xs) (hw : weightPs xs ≤ 60000) : PsOk w A n xs :=
  ⟨h.row, fun x hx => (h.each x hx).ok (by have := weightPs_mem hx; omega)⟩
/-- What the prims of a row are. -/
def valsP (xs : List PrC) : List Pr := xs.map (·.v)
theorem valsP_length (xs : List PrC) : (valsP xs).length = xs.length := by simp [valsP]
theorem valsP_take {xs : List PrC} {k : Nat} {x : PrC} (h : xs[k]? = some x) : (valsP xs).take (k + 1) = (valsP xs).take k ++ [x.v] := by
  obtain ⟨hk, rfl⟩ := List.getElem?_eq_some_iff.1 h
  unfold valsP
  rw [List.take_succ_eq_append_getElem (by simpa using hk)]
  simp
theorem valsP_at {xs : List PrC} {k : Nat} {x : PrC} (h : xs[k]? = some x) : (valsP xs)[k]? = some x.v := by simp [valsP, h]

/-- A row of the call's own (what it made since w0) of prims; none of their lines lies in its block. -/
structure OwnPs (e : TypeId) (w0 w : World) (v : Value) (xs : List PrC) : Prop where
  own : OwnK e 6 w0 w v (xs.map prL)
  ok : ∀ x ∈ xs, PrOk w x
  away : ∀ x ∈ xs, ∀ g, v.ownBlock = some g → Away g x
section
variable {e : TypeId} {w0 w w' : World} {v : Value} {xs : List PrC}
theorem OwnPs.later (h : OwnPs e w0 w v xs) : Later w0 w := h.own.later
theorem OwnPs.nil (hl : Later w0 w) : OwnPs e w0 w (.slice none 0 0) [] := ⟨OwnK.nil hl, (fun x hx => by cases hx), fun x hx => by cases hx⟩
theorem OwnPs.on (h : OwnPs e w0 w v xs) (hl : Later w w') : OwnPs e w0 w' v xs := ⟨h.own.on hl, fun x hx => (h.ok x hx).later hl, h.away⟩
theorem OwnPs.row (h : OwnPs e w0 w v xs) : ∃ A c, v = .slice A xs.length c ∧ xs.length ≤ c ∧ PsOk w A xs.length xs := by
  obtain ⟨A, c, hv, hc, hr⟩ := h.own.row
  simp only [List.length_map] at hv hc hr
  exact ⟨A, c, hv, hc, hr, h.ok⟩
theorem OwnPs.block (h : OwnPs e w0 w v xs) : ∀ b, v.ownBlock = some b → w0.heap.size ≤ b := h.own.block
theorem OwnPs.lt (h : OwnPs e w0 w v xs) : ∀ b, v.ownBlock = some b → b < w.heap.size := fun b hb => (h.own.1.lt b hb).2
theorem OwnPs.base {w1 : World} (h : OwnPs e w0 w v xs) (hl : Later w1 w0) : OwnPs e w1 w v xs :=
  ⟨⟨by
    refine ⟨h.own.1.1, ?_⟩
    rcases h.own.1.2 with h1 | ⟨g, cap, cur, h1, h2, h3⟩
    · exact .inl h1
    · exact .inr ⟨g, cap, cur, h1, Nat.le_trans hl.le h2, h3⟩, h.own.2.1, hl.trans h.own.2.2⟩, h.ok, h.away⟩
/-- Another block has turned. -/
theorem OwnPs.other {g : Nat} (h : OwnPs e w0 w v xs) (hg : Turned g w w') (hv : v.ownBlock ≠ some g) (ha : ∀ x ∈ xs, Away g x) (hl : Later w0 w') : OwnPs e w0 w' v xs :=
  ⟨⟨h.own.1.kept hg (by
    cases hb : v.ownBlock with
    | none => exact .inl rfl
    | some b => right; rw [hb] at hv; exact hv), h.own.2.1, hl⟩, fun x hx => (h.ok x hx).off hg (ha x hx), h.away⟩
end

section
variable {P : Program} {e : TypeId} {w0 w : World} {v : Value} {xs : List PrC}
/-- append onto such a row. -/
theorem run_append_ps5 (t ty : TypeId) (i : TypeInfo) (z : Value) (bytes : Nat) (ht : P.underlying t = some (.slice e)) (hi : P.info? e = some i) (hz : i.zero = some z) (hsize : i.size = 6) (hby : i.bytes = bytes) (hzs : z.cells.size = 6)
    (hown : OwnPs e w0 w v xs) (A : Option Addr) (m c : Nat) (ys : List PrC) (hr : RowK 6 w A m (ys.map prL)) (hok : ∀ y ∈ ys, PrOk w y) (haw : ∀ y ∈ ys, ∀ g, v.ownBlock = some g → Away g y) (hb : xs.length + m ≤ 1000000) (hbb : bytes ≤ 1000) :
    ∃ v' w', (Builtin.append_ #[t, t] ty #[v, .slice A m c]).run P w = .ok v' w' ∧ OwnPs e w0 w' v' (xs ++ ys) ∧ w.grownBy w' v.ownBlock ∧ (v'.ownBlock = v.ownBlock ∨ v'.ownBlock = some w.heap.size) := by
  have hone : ∀ cs ∈ ys.map prL, ∀ u ∈ cs, u.oneCell' = true := by
    intro cs hcs u hu
    obtain ⟨y, _, rfl⟩ := List.mem_map.1 hcs
    simp only [prL, List.mem_cons, List.not_mem_nil, or_false] at hu
    rcases hu with rfl | rfl | rfl | rfl | rfl | rfl <;> rfl
  have hl := hr.len
  simp only [List.length_map] at hl
  have hbig : (xs.length + m) * bytes ≤ 140737488355328 := Nat.le_trans (Nat.mul_le_mul hb hbb) (by omega)
  have hkeep : ∀ (w' : World), w.grownBy w' v.ownBlock → ∀ x ∈ xs ++ ys, PrOk w' x := by
    intro w' hg x hx
    have h1 : PrOk w x := by
      rcases List.mem_append.1 hx with h | h
      · exact hown.ok x h
      · exact hok x h
    have h2 : ∀ g, v.ownBlock = some g → Away g x := by
      rcases List.mem_append.1 hx with h | h
      · exact hown.away x h
      · exact haw x h
    cases hv : v.ownBlock with
    | none => rw [hv] at hg; exact h1.later ⟨hg.os, hg.tape, hg.output, hg.size, fun i hi => hg.block i hi (by simp)⟩
    | some g => rw [hv] at hg; exact h1.off (g := g) hg (h2 g hv)
  have haway : ∀ v' : Value, (v'.ownBlock = v.ownBlock ∨ v'.ownBlock = some w.heap.size) → ∀ x ∈ xs ++ ys, ∀ g, v'.ownBlock = some g → Away g x := by
    intro v' hv x hx g hg
    rcases hv with hv | hv
    · rw [hv] at hg
      rcases List.mem_append.1 hx with h | h
      · exact hown.away x h g hg
      · exact haw x h g hg
    · rw [hv] at hg
      cases hg
      rcases List.mem_append.1 hx with h | h
      · exact (hown.ok x h).away (Nat.le_refl _)
      · exact (hok x h).away (Nat.le_refl _)
  rcases Nat.eq_zero_or_pos m with h0 | h0
  · subst h0
    have hn : ys = [] := List.eq_nil_of_length_eq_zero hl
    subst hn
    rw [List.append_nil]
    rcases A with _ | ad
    · refine ⟨v, w, ?_, hown, ⟨rfl, rfl, rfl, Nat.le_refl _, fun _ _ _ => rfl⟩, .inl rfl⟩
      rcases hown.own.1.2 with ⟨rfl, _⟩ | ⟨g, cap, cur, rfl, _, _, hnc, _⟩
      · simp [Builtin.append_, run_underlying ht, sizeOf, typeInfo, hi, Builtin.lenOf, Builtin.firstCells]
      · simp only [List.length_map] at hnc
        simp [Builtin.append_, run_underlying ht, sizeOf, typeInfo, hi, Builtin.lenOf, Builtin.firstCells, hnc, storeCells]
    · obtain ⟨v', w', hrun, h2, h3, _, h5⟩ := run_append_own_at (P := P) w w0.heap.size t ty e i z 6 bytes ht hi hz hsize hby hzs (by decide) v xs.length (xs.map prL).flatten (by simpa using hown.own.1) ad 0 c [] (by simp)
        (fun j u hu => by simp at hu) (fun u hu => by simp at hu) (by simp only [maxLen]; omega) hbig hown.own.2.2.size
      refine ⟨v', w', hrun, ⟨⟨by simpa using h2, hown.own.2.1, Below.grown hown.own.2.2 h3 hown.own.2.2.size hown.own.block⟩, by simpa using hkeep w' h3, by simpa using haway v' h5⟩, h3, h5⟩
  · obtain ⟨b, o, rfl, hc⟩ := hr.2.2 h0
    obtain ⟨v', w', hrun, h2, h3, _, h5⟩ := run_append_own_at (P := P) w w0.heap.size t ty e i z 6 bytes ht hi hz hsize hby hzs (by decide) v xs.length (xs.map prL).flatten (by simpa using hown.own.1) ⟨b, o, none⟩ m c (ys.map prL).flatten
      (by rw [flat_length hr.2.1]; simp [hl])
      (fun j u hu => by
        have hjl := (List.getElem?_eq_some_iff.1 hu).1
        rw [flat_length hr.2.1] at hjl
        have hq : j / 6 < (ys.map prL).length := (Nat.div_lt_iff_lt_mul (by decide)).2 hjl
        have hjk : j / 6 * 6 + j % 6 = j := by omega
        have hat := flat_at (i := j % 6) hr.2.1 (List.getElem?_eq_getElem hq) (Nat.mod_lt _ (by decide))
        rw [hjk, hu] at hat
        have := hc (j / 6) (j % 6) _ u (List.getElem?_eq_getElem hq) hat.symm
        rw [plain_add, ← hjk, ← Nat.add_assoc]
        exact this)
      (fun u hu => by
        obtain ⟨cs, hcs, hu⟩ := List.mem_flatten.1 hu
        exact hone cs hcs u hu)
      (by simp only [maxLen]; omega) hbig hown.own.2.2.size
    refine ⟨v', w', hrun, ⟨⟨?_, fun cs hcs => ?_, Below.grown hown.own.2.2 h3 hown.own.2.2.size hown.own.block⟩, hkeep w' h3, haway v' h5⟩, h3, h5⟩
    · simp only [List.map_append, List.length_append, List.length_map, List.flatten_append, hl]
      exact h2
    · obtain ⟨y, _, rfl⟩ := List.mem_map.1 hcs
      rfl

theorem run_append_ps (t ty : TypeId) (i : TypeInfo) (z : Value) (bytes : Nat) (ht : P.underlying t = some (.slice e)) (hi : P.info? e = some i) (hz : i.zero = some z) (hsize : i.size = 6) (hby : i.bytes = bytes) (hzs : z.cells.size = 6)
    (hown : OwnPs e w0 w v xs) (A : Option Addr) (m c : Nat) (ys : List PrC) (hr : RowK 6 w A m (ys.map prL)) (hok : ∀ y ∈ ys, PrOk w y) (haw : ∀ y ∈ ys, ∀ g, v.ownBlock = some g → Away g y) (hb : xs.length + m ≤ 1000000) (hbb : bytes ≤ 1000) :
    ∃ v' w', (Builtin.append_ #[t, t] ty #[v, .slice A m c]).run P w = .ok v' w' ∧ OwnPs e w0 w' v' (xs ++ ys) ∧ w.grownBy w' v.ownBlock := by
  obtain ⟨v', w', h1, h2, h3, _⟩ := run_append_ps5 (P := P) t ty i z bytes ht hi hz hsize hby hzs hown A m c ys hr hok haw hb hbb
  exact ⟨v', w', h1, h2, h3⟩
theorem wpList_append_ps {ops : Array Oper} {rest : List Oper} {o : Oper} {a : Act} {Q : Exit → Act → World → Prop} (hgd : o.guard = none) (s x : Operand) (t : TypeId)
    (ho : o.op = .call { callee := .builtin .append, args := #[s, x], argTypes := #[t, t] }) (i : TypeInfo) (z : Value) (bytes : Nat)
    (ht : P.underlying t = some (.slice e)) (hi : P.info? e = some i) (hz : i.zero = some z) (hsize : i.size = 6) (hby : i.bytes = bytes) (hzs : z.cells.size = 6)
    (hown : OwnPs e w0 w v xs) (hs : a.eval s = v) (A : Option Addr) (m c : Nat) (ys : List PrC) (hx : a.eval x = .slice A m c) (hr : RowK 6 w A m (ys.map prL)) (hok : ∀ y ∈ ys, PrOk w y) (haw : ∀ y ∈ ys, ∀ g, v.ownBlock = some g → Away g y) (hb : xs.length + m ≤ 1000000) (hbb : bytes ≤ 1000)
    (h : ∀ v' w', OwnPs e w0 w' v' (xs ++ ys) → w.grownBy w' v.ownBlock → wpList P ops Q rest (a.put o.dst v') w') : wpList P ops Q (o :: rest) a w := by
  refine wpList_plain hgd fun K hK => ?_
  obtain ⟨v', w', hrun, h2, h3⟩ := run_append_ps (P := P) t o.type i z bytes ht hi hz hsize hby hzs hown A m c ys hr hok haw hb hbb
  unfold Oper.wp execOp
  simp only [ho, resolve, invoke, builtin, Sem.run_bind, Sem.run_pure, Result.andThen_ok, List.map_toArray, List.map_cons, List.map_nil, hs, hx, hrun]
  exact hK _ _ (h v' w' h2 h3)
theorem wpList_append_ps5 {ops : Array Oper} {rest : List Oper} {o : Oper} {a : Act} {Q : Exit → Act → World → Prop} (hgd : o.guard = none) (s x : Operand) (t : TypeId)
    (ho : o.op = .call { callee := .builtin .append, args := #[s, x], argTypes := #[t, t] }) (i : TypeInfo) (z : Value) (bytes : Nat)
    (ht : P.underlying t = some (.slice e)) (hi : P.info? e = some i) (hz : i.zero = some z) (hsize : i.size = 6) (hby : i.bytes = bytes) (hzs : z.cells.size = 6)
    (hown : OwnPs e w0 w v xs) (hs : a.eval s = v) (A : Option Addr) (m c : Nat) (ys : List PrC) (hx : a.eval x = .slice A m c) (hr : RowK 6 w A m (ys.map prL)) (hok : ∀ y ∈ ys, PrOk w y) (haw : ∀ y ∈ ys, ∀ g, v.ownBlock = some g → Away g y) (hb : xs.length + m ≤ 1000000) (hbb : bytes ≤ 1000)
    (h : ∀ v' w', OwnPs e w0 w' v' (xs ++ ys) → w.grownBy w' v.ownBlock → (v'.ownBlock = v.ownBlock ∨ v'.ownBlock = some w.heap.size) → wpList P ops Q rest (a.put o.dst v') w') : wpList P ops Q (o :: rest) a w := by
  refine wpList_plain hgd fun K hK => ?_
  obtain ⟨v', w', hrun, h2, h3, h5⟩ := run_append_ps5 (P := P) t o.type i z bytes ht hi hz hsize hby hzs hown A m c ys hr hok haw hb hbb
  unfold Oper.wp execOp
  simp only [ho, resolve, invoke, builtin, Sem.run_bind, Sem.run_pure, Result.andThen_ok, List.map_toArray, List.map_cons, List.map_nil, hs, hx, hrun]
  exact hK _ _ (h v' w' h2 h3 h5)
end

theorem PrOk.later6 {w : World} {x : PrC} (h : PrOk w x) (o : Obj) : PrOk (w.alloc o) x := h.later ((Later.refl w).alloc o)
/-- A new row of one prim. -/
theorem row_one (w : World) (x : PrC) (t : TypeId) : RowK 6 (w.alloc (.cells #[.int .i64 x.v.kind, .string x.v.name, .string x.v.to, .int .i64 x.v.place, .slice x.A x.n x.c, .slice x.B x.m x.d] t)) (some ⟨w.heap.size, 0, .none⟩) 1 ([x].map prL) := RowK.one w (prL x) t

end Go.Proofs.YtejkgkgjgojlkaaGreatDoor

/-
  What the document's Same comes to, as a call.
-/
namespace Go.Proofs.YtejkgkgjgojlkaaGreatDoor
open Go.RowKit

set_option maxHeartbeats 400000 in
theorem refSame_any (A B : Option Addr) (n c m d : Nat) (xs ys : List ByteArray) (w : World) (hx : Row w A n xs) (hy : Row w B m ys) (hn : n ≤ 65536) (hm : m ≤ 65536) :
    Calls Tryz.prog 66 #[.slice A n c, .slice B m d] w fun e w' => e = .returned (.bool (sameB xs ys)) ∧ ∃ q, w' = w.drewN q := by
  by_cases hnm : n = m
  · subst hnm
    have HX := Lib.hid hx; clear hx
    have HY := Lib.hid hy; clear hy
    go_enter Tryz.func66, Tryz.ntmps66
    go_wp2
    go_loopg [5] n (fun g s5 wr => ∃ k q : Nat, k ≤ n ∧ n - k ≤ g ∧ s5 = .int .i64 k ∧ wr = w.drewN q ∧ Hid (xs.take k = ys.take k))
    case atStart => exact ⟨0, 0, Nat.zero_le _, by omega, rfl, rfl, by simp [Hid]⟩
    case round =>
      obtain ⟨k, q, hk, hg, rfl, rfl, heq⟩ := hrel
      by_cases hlt : k < n
      · obtain ⟨b1, o1, rfl, g1⟩ := HX.out.get hlt
        obtain ⟨b2, o2, rfl, g2⟩ := HY.out.get hlt
        generalize hxk : xs.getD k ByteArray.empty = x at g1
        generalize hyk : ys.getD k ByteArray.empty = y at g2
        have X := Lib.hid hxk; clear hxk
        have Y := Lib.hid hyk; clear hyk
        by_cases hxy : x = y
        · subst hxy
          go_wp2_with fail
          go_quiet (fail)
          go_wp2
          go_roundg (n - (k + 1))
          case measure => omega
          case rel => exact ⟨k + 1, _, by omega, by omega, by go_num, rfl, take_same (by rw [HX.out.len]; exact hlt) (by rw [HY.out.len]; exact hlt) heq.out (X.out.trans Y.out.symm)⟩
        · have hb := text_ne hxy
          go_wp2_with fail
          go_quiet (fail)
          go_wp2
          go_ret
          exact ⟨ret_bool (beq_of_other (by rw [X.out, Y.out]; exact hxy)).symm, _, World.drewN_drewN _ _ _⟩
      · have hkn : k = n := by omega
        have e : sameB xs ys = true := by
          rw [hkn, List.take_of_length_le (by rw [HX.out.len]; omega), List.take_of_length_le (by rw [HY.out.len]; omega)] at heq
          exact sameB_yes heq.out
        have E := Lib.hid e; clear e heq
        go_wp2
        go_ret
        exact ⟨ret_bool E.out.symm, _, rfl⟩
  · have e : sameB xs ys = false := by
      refine sameB_no fun h => ?_; rw [h] at hx; exact hnm (hx.len.symm.trans hy.len)
    have E := Lib.hid e; clear e hx hy
    have hnm' : ¬ (n : Int) = (m : Int) := by omega
    go_enter Tryz.func66, Tryz.ntmps66
    go_wp2
    go_ret
    exact ⟨ret_bool E.out.symm, 0, rfl⟩

end Go.Proofs.YtejkgkgjgojlkaaGreatDoor
