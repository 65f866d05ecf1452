/-
  Prims in memory: a structure of six cells, two of them rows of lines.
-/
import Derived.Test.YtalgapoigkbiaaaChecked
import Derived.Test.YtalgapoigkbiaaaPrSize
import Derived.Test.YtalgapoigkbiaaaOwn
import Derived.Test.YtalgapoigkbiaaaWords
import Derived.Test.YtalgapoigkbiaaaRowK
import Derived.Test.YtalgapoigkbiaaaTrClone
namespace Go.Proofs.Ytalgapoigkbiaaa
open Go.RowKit

theorem list_ne {s : ByteArray} (h : s ≠ ByteArray.empty) : ¬ s.toList = [] := by
  rw [ByteArray.toList_eq]
  intro e
  exact h (ByteArray.ext (Array.ext' e))

/-- A prim, and where its rows stand. -/
structure PrC where
  v : Pr
  A : Option Addr
  n : Nat
  c : Nat
  B : Option Addr
  m : Nat
  d : Nat

/-- The cells of a prim, and its value. -/
def prL (x : PrC) : List Value := [.int .i64 x.v.kind, .string x.v.name, .string x.v.to, .int .i64 x.v.place, .slice x.A x.n x.c, .slice x.B x.m x.d]
def prV (x : PrC) : Value := .agg #[.int .i64 x.v.kind, .string x.v.name, .string x.v.to, .int .i64 x.v.place, .slice x.A x.n x.c, .slice x.B x.m x.d]

/-- The rows stand there, and nothing is too great. -/
structure PrOk (w : World) (x : PrC) : Prop where
  old : Row w x.A x.n x.v.old
  new : Row w x.B x.m x.v.new
  oroom : x.n ≤ x.c
  nroom : x.m ≤ x.d
  omost : x.n ≤ 65536
  nmost : x.m ≤ 65536
  name : x.v.name.size ≤ maxLen
  to : x.v.to.size ≤ maxLen
  lo : -9223372036854775808 ≤ x.v.place
  hi : x.v.place ≤ 9223372036854775807
  olds : ∀ s ∈ x.v.old, s.size ≤ maxLen
  news : ∀ s ∈ x.v.new, s.size ≤ maxLen
theorem PrOk.later {w w' : World} {x : PrC} (h : PrOk w x) (hl : Later w w') : PrOk w' x :=
  ⟨h.old.later hl, h.new.later hl, h.oroom, h.nroom, h.omost, h.nmost, h.name, h.to, h.lo, h.hi, h.olds, h.news⟩

/-- A prim that stands in new memory: its rows are of its own, and apart. -/
structure IsPr (p : Pr) (w w' : World) (u v : Value) : Prop where
  old : Own 9 w w' u p.old
  new : Own 9 w w' v p.new
  apart : ∀ b, u.ownBlock = some b → v.ownBlock ≠ some b
def GivesPr (p : Pr) (w : World) (e : Ending) (w' : World) : Prop :=
  ∃ u v, e = .returned (.agg #[.int .i64 p.kind, .string p.name, .string p.to, .int .i64 p.place, u, v]) ∧ IsPr p w w' u v

theorem IsPr.swap {p q : Pr} {w w' : World} {u v : Value} (h : IsPr p w w' u v) (h1 : q.old = p.new) (h2 : q.new = p.old) : IsPr q w w' v u :=
  ⟨by rw [h1]; exact h.new, by rw [h2]; exact h.old, fun b h3 h4 => h.apart b h4 h3⟩
theorem IsPr.as {p q : Pr} {w w' : World} {u v : Value} (h : IsPr p w w' u v) (h1 : q.old = p.old) (h2 : q.new = p.new) : IsPr q w w' u v :=
  ⟨by rw [h1]; exact h.old, by rw [h2]; exact h.new, h.apart⟩
theorem IsPr.later {p : Pr} {w w' : World} {u v : Value} (h : IsPr p w w' u v) : Later w w' := h.old.later
theorem IsPr.on {p : Pr} {w w' w'' : World} {u v : Value} (h : IsPr p w w' u v) (hl : Later w' w'') : IsPr p w w'' u v := ⟨h.old.on hl, h.new.on hl, h.apart⟩
theorem IsPr.base {p : Pr} {w0 w w' : World} {u v : Value} (h : IsPr p w w' u v) (hl : Later w0 w) : IsPr p w0 w' u v := ⟨h.old.base hl, h.new.base hl, h.apart⟩
theorem Own.lt {e : TypeId} {w0 w : World} {v : Value} {ss : List ByteArray} (h : Own e w0 w v ss) {b : Nat} (hb : v.ownBlock = some b) : b < w.heap.size := (h.1.lt b hb).2
theorem IsPr.of {p : Pr} {w w1 w' : World} {u v : Value} (h1 : Own 9 w w1 u p.old) (h2 : Own 9 w1 w' v p.new) : IsPr p w w' u v :=
  ⟨h1.on h2.later, h2.base h1.later, fun b hu hv => by
    have a1 := h1.lt hu
    have a2 := h2.block b hv
    omega⟩
/-- The value of such a prim, and that its rows stand there. -/
theorem IsPr.ok {p : Pr} {w w' : World} {u v : Value} (h : IsPr p w w' u v) (h1 : p.old.length ≤ 65536) (h2 : p.new.length ≤ 65536) (h3 : p.name.size ≤ maxLen) (h4 : p.to.size ≤ maxLen) (h5 : -9223372036854775808 ≤ p.place) (h6 : p.place ≤ 9223372036854775807)
    (h7 : ∀ s ∈ p.old, s.size ≤ maxLen) (h8 : ∀ s ∈ p.new, s.size ≤ maxLen) : ∃ x : PrC, x.v = p ∧ .agg #[.int .i64 p.kind, .string p.name, .string p.to, .int .i64 p.place, u, v] = prV x ∧ PrOk w' x := by
  obtain ⟨A, c, rfl, hc, hr⟩ := h.old.row
  obtain ⟨B, d, rfl, hd, hs⟩ := h.new.row
  exact ⟨⟨p, A, _, c, B, _, d⟩, rfl, rfl, hr, hs, hc, hd, h1, h2, h3, h4, h5, h6, h7, h8⟩

/-- What a prim weighs. -/
def weightP (p : Pr) : Nat := p.name.size + p.to.size + p.old.length + p.new.length + (p.old.map ByteArray.size).sum + (p.new.map ByteArray.size).sum
def weightPs (xs : List PrC) : Nat := (xs.map fun x => weightP x.v).sum

theorem sizesP_mem {l : List ByteArray} {s : ByteArray} (h : s ∈ l) : s.size ≤ (l.map ByteArray.size).sum := by
  induction l with
  | nil => cases h
  | cons x l ih =>
    simp only [List.map_cons, List.sum_cons]
    rcases List.mem_cons.1 h with rfl | h
    · omega
    · have := ih h; omega

/-- What is asked of a prim that comes in. -/
structure CameP (w : World) (x : PrC) : Prop where
  old : Row w x.A x.n x.v.old
  new : Row w x.B x.m x.v.new
  oroom : x.n ≤ x.c
  nroom : x.m ≤ x.d
  lo : -9223372036854775808 ≤ x.v.place
  hi : x.v.place ≤ 9223372036854775807
  weigh : weightP x.v ≤ 1048576
theorem CameP.later {w w' : World} {x : PrC} (h : CameP w x) (hl : Later w w') : CameP w' x := ⟨h.old.later hl, h.new.later hl, h.oroom, h.nroom, h.lo, h.hi, h.weigh⟩
theorem CameP.ok {w : World} {x : PrC} (h : CameP w x) (hw : weightP x.v ≤ 60000) : PrOk w x := by
  have h1 := h.old.len
  have h2 := h.new.len
  unfold weightP at hw
  refine ⟨h.old, h.new, h.oroom, h.nroom, by omega, by omega, by simp only [maxLen]; omega, by simp only [maxLen]; omega, h.lo, h.hi, fun s hs => ?_, fun s hs => ?_⟩
  · have := sizesP_mem hs; simp only [maxLen]; omega
  · have := sizesP_mem hs; simp only [maxLen]; omega

/-- The slice reads as these prims. -/
structure Prims (w : World) (A : Option Addr) (n : Nat) (xs : List PrC) : Prop where
  row : RowK 6 w A n (xs.map prL)
  each : ∀ x ∈ xs, CameP w x
section
variable {w w' : World} {A : Option Addr} {n : Nat} {xs : List PrC}
theorem Prims.len (h : Prims w A n xs) : xs.length = n := by have := h.row.len; simpa using this
theorem Prims.later (h : Prims w A n xs) (hl : Later w w') : Prims w' A n xs := ⟨h.row.later hl, fun x hx => (h.each x hx).later hl⟩
theorem Prims.get (h : Prims w A n xs) {j : Nat} (hj : j < n) : ∃ b o x, A = some ⟨b, o, .none⟩ ∧ xs[j]? = some x ∧ w.cell? ⟨b, o + j * 6, .none⟩ = some (.int .i64 x.v.kind) ∧ w.cell? ⟨b, o + j * 6 + 1, .none⟩ = some (.string x.v.name) ∧ w.cell? ⟨b, o + j * 6 + 2, .none⟩ = some (.string x.v.to) ∧ w.cell? ⟨b, o + j * 6 + 3, .none⟩ = some (.int .i64 x.v.place) ∧ w.cell? ⟨b, o + j * 6 + 4, .none⟩ = some (.slice x.A x.n x.c) ∧ w.cell? ⟨b, o + j * 6 + 5, .none⟩ = some (.slice x.B x.m x.d) := by
  obtain ⟨b, o, e, cs, hcs, _, hc⟩ := h.row.get hj
  have hl : j < xs.length := by rw [h.len]; exact hj
  have hz := List.getElem?_eq_getElem hl
  simp only [List.getElem?_map, hz, Option.map_some, Option.some.injEq] at hcs
  subst hcs
  exact ⟨b, o, xs[j], e, hz, hc 0 _ rfl, hc 1 _ rfl, hc 2 _ rfl, hc 3 _ rfl, hc 4 _ rfl, hc 5 _ rfl⟩
end
theorem weightPs_take {xs : List PrC} {k : Nat} {x : PrC} (h : xs[k]? = some x) : weightPs (xs.take (k + 1)) = weightPs (xs.take k) + weightP x.v := by
  obtain ⟨hk, rfl⟩ := List.getElem?_eq_some_iff.1 h
  unfold weightPs
  rw [List.take_succ_eq_append_getElem hk, List.map_append, List.sum_append]
  simp
theorem weightPs_take_le (xs : List PrC) (k : Nat) : weightPs (xs.take k) ≤ weightPs xs := by
  have : weightPs xs = weightPs (xs.take k) + weightPs (xs.drop k) := by
    unfold weightPs
    rw [← List.sum_append, ← List.map_append, List.take_append_drop]
  omega
theorem weightPs_mem {xs : List PrC} {x : PrC} (h : x ∈ xs) : weightP x.v ≤ weightPs xs := by
  induction xs with
  | nil => cases h
  | cons y xs ih =>
    simp only [weightPs, List.map_cons, List.sum_cons] at ih ⊢
    rcases List.mem_cons.1 h with rfl | h
    · omega
    · have := ih h; omega

end Go.Proofs.Ytalgapoigkbiaaa
