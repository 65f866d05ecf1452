/-
  Scripts of calls in memory: rows of structures, each with a row of bytes and a row of numbers.
-/
import Derived.Test.YtknjkkdoeanhbaaBkRead
import Derived.Test.YtknjkkdoeanhbaaBkPlain2
namespace Go.Proofs.Ytknjkkdoeanhbaa
open Go.RowKit

/-- A call, and where its rows stand. -/
structure OpC where
  kind : Int
  k : Int
  A : Option Addr
  n : Nat
  c : Nat
  bs : Bs
  F : Option Addr
  m : Nat
  e : Nat
  fs : List Int
def opL (x : OpC) : List Value := [.int .i64 x.kind, .int .i64 x.k, .slice x.A x.n x.c, .slice x.F x.m x.e]
structure OpOk (w : World) (x : OpC) : Prop where
  bytes : BsAt w x.A x.n x.bs
  forms : IntsAt w x.F x.m x.fs
  room : x.n ≤ x.c
  room2 : x.m ≤ x.e
  klo : -9223372036854775808 ≤ x.k
  khi : x.k ≤ 9223372036854775807
  range : ∀ z ∈ x.fs, -9223372036854775808 ≤ z ∧ z ≤ 9223372036854775807
def weighO (xs : List OpC) : Nat := (xs.map fun x => x.n + x.m).sum
/-- What is asked of a script that comes in. -/
structure Script (w : World) (A : Option Addr) (n : Nat) (xs : List OpC) : Prop where
  row : RowK 4 w A n (xs.map opL)
  each : ∀ x ∈ xs, OpOk w x
  weigh : weighO xs + n ≤ 1048576
section
variable {w w' : World} {x : OpC} {xs : List OpC} {A : Option Addr} {n : Nat}
theorem OpOk.later (h : OpOk w x) (hl : Later w w') : OpOk w' x :=
  ⟨h.bytes.later hl, ⟨h.forms.1, fun hn => by
    obtain ⟨b, o, e, hc⟩ := h.forms.2 hn
    exact ⟨b, o, e, fun j z hz => hl.cell (hc j z hz)⟩⟩, h.room, h.room2, h.klo, h.khi, h.range⟩
theorem Script.later (h : Script w A n xs) (hl : Later w w') : Script w' A n xs := ⟨h.row.later hl, fun x hx => (h.each x hx).later hl, h.weigh⟩
theorem Script.len (h : Script w A n xs) : xs.length = n := by have := h.row.len; simpa using this
theorem weighO_take {k : Nat} {x : OpC} (h : xs[k]? = some x) : weighO (xs.take (k + 1)) = weighO (xs.take k) + (x.n + x.m) := by
  obtain ⟨hk, rfl⟩ := List.getElem?_eq_some_iff.1 h
  unfold weighO
  rw [List.take_succ_eq_append_getElem hk, List.map_append, List.sum_append]
  simp
theorem weighO_le (k : Nat) : weighO (xs.take k) ≤ weighO xs := by
  unfold weighO
  conv => rhs; rw [← List.take_append_drop k xs]
  rw [List.map_append, List.sum_append]
  omega
theorem weighO_mem (h : x ∈ xs) : x.n + x.m ≤ weighO xs := by
  obtain ⟨i, hi⟩ := List.getElem?_of_mem h
  have h1 := weighO_take hi
  have h2 := weighO_le (xs := xs) (i + 1)
  omega
theorem Script.get (h : Script w A n xs) {j : Nat} (hj : j < n) : ∃ b o x, A = some ⟨b, o, .none⟩ ∧ xs[j]? = some x ∧ OpOk w x ∧ w.cell? ⟨b, o + j * 4, .none⟩ = some (.int .i64 x.kind) ∧ w.cell? ⟨b, o + j * 4 + 1, .none⟩ = some (.int .i64 x.k) ∧ w.cell? ⟨b, o + j * 4 + 2, .none⟩ = some (.slice x.A x.n x.c) ∧ w.cell? ⟨b, o + j * 4 + 3, .none⟩ = some (.slice x.F x.m x.e) := by
  obtain ⟨b, o, e, cs, hcs, _, hc⟩ := h.row.get hj
  have hl : j < xs.length := by have := h.len; omega
  have hz := List.getElem?_eq_getElem hl
  simp only [List.getElem?_map, hz, Option.map_some, Option.some.injEq] at hcs
  subst hcs
  exact ⟨b, o, xs[j], e, hz, h.each _ (List.getElem_mem hl), hc 0 _ rfl, hc 1 _ rfl, hc 2 _ rfl, hc 3 _ rfl⟩
end

end Go.Proofs.Ytknjkkdoeanhbaa
