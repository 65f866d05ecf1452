import Derived.Test.YtboffgmaohcpfaaDoorChecked
import Derived.Test.YtboffgmaohcpfaaDoorPk4
import Derived.Test.YtboffgmaohcpfaaDoorPk1
import Derived.Test.YtboffgmaohcpfaaDoorPk3
import Derived.Deep.LoopGhost
import Derived.Deep.QuietTactic
import Derived.BigQuiet
import Derived.Lib.Hide

/-
  Prims in memory: a structure of six cells, two of them rows of lines.
-/
namespace Go.Proofs.YtboffgmaohcpfaaDoor
open Go.RowKit

theorem list_ne {s : ByteArray} (h : s ≠ ByteArray.empty) : ¬ s.toList = [] := by
  rw [ByteArray.toList_eq]
  intro e
  exact h (ByteArray.ext (Array.ext' e))

/-- A prim, and where its rows stand. -/
structure PrC where
  v : Pr
  A : Option Addr
  n : Nat
  c : Nat
  B : Option Addr
  m : Nat
  d : Nat

/-- The cells of a prim, and its value. -/
def prL (x : PrC) : List Value := [.int .i64 x.v.kind, .string x.v.name, .string x.v.to, .int .i64 x.v.place, .slice x.A x.n x.c, .slice x.B x.m x.d]
def prV (x : PrC) : Value := .agg #[.int .i64 x.v.kind, .string x.v.name, .string x.v.to, .int .i64 x.v.place, .slice x.A x.n x.c, .slice x.B x.m x.d]

/-- The rows stand there, and nothing is too great. -/
structure PrOk (w : World) (x : PrC) : Prop where
  old : Row w x.A x.n x.v.old
  new : Row w x.B x.m x.v.new
  oroom : x.n ≤ x.c
  nroom : x.m ≤ x.d
  omost : x.n ≤ 65536
  nmost : x.m ≤ 65536
  name : x.v.name.size ≤ maxLen
  to : x.v.to.size ≤ maxLen
  lo : -9223372036854775808 ≤ x.v.place
  hi : x.v.place ≤ 9223372036854775807
  olds : ∀ s ∈ x.v.old, s.size ≤ maxLen
  news : ∀ s ∈ x.v.new, s.size ≤ maxLen
theorem PrOk.later {w w' : World} {x : PrC} (h : PrOk w x) (hl : Later w w') : PrOk w' x :=
  ⟨h.old.later hl, h.new.later hl, h.oroom, h.nroom, h.omost, h.nmost, h.name, h.to, h.lo, h.hi, h.olds, h.news⟩

/-- A prim that stands in new memory: its rows are of its own, and apart. -/
structure IsPr (p : Pr) (w w' : World) (u v : Value) : Prop where
  old : Own 9 w w' u p.old
  new : Own 9 w w' v p.new
  apart : ∀ b, u.ownBlock = some b → v.ownBlock ≠ some b
def GivesPr (p : Pr) (w : World) (e : Ending) (w' : World) : Prop :=
  ∃ u v, e = .returned (.agg #[.int .i64 p.kind, .string p.name, .string p.to, .int .i64 p.place, u, v]) ∧ IsPr p w w' u v

theorem IsPr.swap {p q : Pr} {w w' : World} {u v : Value} (h : IsPr p w w' u v) (h1 : q.old = p.new) (h2 : q.new = p.old) : IsPr q w w' v u :=
  ⟨by rw [h1]; exact h.new, by rw [h2]; exact h.old, fun b h3 h4 => h.apart b h4 h3⟩
theorem IsPr.as {p q : Pr} {w w' : World} {u v : Value} (h : IsPr p w w' u v) (h1 : q.old = p.old) (h2 : q.new = p.new) : IsPr q w w' u v :=
  ⟨by rw [h1]; exact h.old, by rw [h2]; exact h.new, h.apart⟩
theorem IsPr.later {p : Pr} {w w' : World} {u v : Value} (h : IsPr p w w' u v) : Later w w' := h.old.later
theorem IsPr.on {p : Pr} {w w' w'' : World} {u v : Value} (h : IsPr p w w' u v) (hl : Later w' w'') : IsPr p w w'' u v := ⟨h.old.on hl, h.new.on hl, h.apart⟩
theorem IsPr.base {p : Pr} {w0 w w' : World} {u v : Value} (h : IsPr p w w' u v) (hl : Later w0 w) : IsPr p w0 w' u v := ⟨h.old.base hl, h.new.base hl, h.apart⟩
theorem Own.lt {e : TypeId} {w0 w : World} {v : Value} {ss : List ByteArray} (h : Own e w0 w v ss) {b : Nat} (hb : v.ownBlock = some b) : b < w.heap.size := (h.1.lt b hb).2
theorem IsPr.of {p : Pr} {w w1 w' : World} {u v : Value} (h1 : Own 9 w w1 u p.old) (h2 : Own 9 w1 w' v p.new) : IsPr p w w' u v :=
  ⟨h1.on h2.later, h2.base h1.later, fun b hu hv => by
    have a1 := h1.lt hu
    have a2 := h2.block b hv
    omega⟩
/-- The value of such a prim, and that its rows stand there. -/
theorem IsPr.ok {p : Pr} {w w' : World} {u v : Value} (h : IsPr p w w' u v) (h1 : p.old.length ≤ 65536) (h2 : p.new.length ≤ 65536) (h3 : p.name.size ≤ maxLen) (h4 : p.to.size ≤ maxLen) (h5 : -9223372036854775808 ≤ p.place) (h6 : p.place ≤ 9223372036854775807)
    (h7 : ∀ s ∈ p.old, s.size ≤ maxLen) (h8 : ∀ s ∈ p.new, s.size ≤ maxLen) : ∃ x : PrC, x.v = p ∧ .agg #[.int .i64 p.kind, .string p.name, .string p.to, .int .i64 p.place, u, v] = prV x ∧ PrOk w' x := by
  obtain ⟨A, c, rfl, hc, hr⟩ := h.old.row
  obtain ⟨B, d, rfl, hd, hs⟩ := h.new.row
  exact ⟨⟨p, A, _, c, B, _, d⟩, rfl, rfl, hr, hs, hc, hd, h1, h2, h3, h4, h5, h6, h7, h8⟩

/-- What a prim weighs. -/
def weightP (p : Pr) : Nat := p.name.size + p.to.size + p.old.length + p.new.length + (p.old.map ByteArray.size).sum + (p.new.map ByteArray.size).sum
def weightPs (xs : List PrC) : Nat := (xs.map fun x => weightP x.v).sum

theorem sizesP_mem {l : List ByteArray} {s : ByteArray} (h : s ∈ l) : s.size ≤ (l.map ByteArray.size).sum := by
  induction l with
  | nil => cases h
  | cons x l ih =>
    simp only [List.map_cons, List.sum_cons]
    rcases List.mem_cons.1 h with rfl | h
    · omega
    · have := ih h; omega

/-- What is asked of a prim that comes in. -/
structure CameP (w : World) (x : PrC) : Prop where
  old : Row w x.A x.n x.v.old
  new : Row w x.B x.m x.v.new
  oroom : x.n ≤ x.c
  nroom : x.m ≤ x.d
  lo : -9223372036854775808 ≤ x.v.place
  hi : x.v.place ≤ 9223372036854775807
  weigh : weightP x.v ≤ 1048576
theorem CameP.later {w w' : World} {x : PrC} (h : CameP w x) (hl : Later w w') : CameP w' x := ⟨h.old.later hl, h.new.later hl, h.oroom, h.nroom, h.lo, h.hi, h.weigh⟩
theorem CameP.ok {w : World} {x : PrC} (h : CameP w x) (hw : weightP x.v ≤ 60000) : PrOk w x := by
  have h1 := h.old.len
  have h2 := h.new.len
  unfold weightP at hw
  refine ⟨h.old, h.new, h.oroom, h.nroom, by omega, by omega, by simp only [maxLen]; omega, by simp only [maxLen]; omega, h.lo, h.hi, fun s hs => ?_, fun s hs => ?_⟩
  · have := sizesP_mem hs; simp only [maxLen]; omega
  · have := sizesP_mem hs; simp only [maxLen]; omega

/-- The slice reads as these prims. -/
structure Prims (w : World) (A : Option Addr) (n : Nat) (xs : List PrC) : Prop where
  row : RowK 6 w A n (xs.map prL)
  each : ∀ x ∈ xs, CameP w x
section
variable {w w' : World} {A : Option Addr} {n : Nat} {xs : List PrC}
theorem Prims.len (h : Prims w A n xs) : xs.length = n := by have := h.row.len; simpa using this
theorem Prims.later (h : Prims w A n xs) (hl : Later w w') : Prims w' A n xs := ⟨h.row.later hl, fun x hx => (h.each x hx).later hl⟩
theorem Prims.get (h : Prims w A n xs) {j : Nat} (hj : j < n) : ∃ b o x, A = some ⟨b, o, .none⟩ ∧ xs[j]? = some x ∧ w.cell? ⟨b, o + j * 6, .none⟩ = some (.int .i64 x.v.kind) ∧ w.cell? ⟨b, o + j * 6 + 1, .none⟩ = some (.string x.v.name) ∧ w.cell? ⟨b, o + j * 6 + 2, .none⟩ = some (.string x.v.to) ∧ w.cell? ⟨b, o + j * 6 + 3, .none⟩ = some (.int .i64 x.v.place) ∧ w.cell? ⟨b, o + j * 6 + 4, .none⟩ = some (.slice x.A x.n x.c) ∧ w.cell? ⟨b, o + j * 6 + 5, .none⟩ = some (.slice x.B x.m x.d) := by
  obtain ⟨b, o, e, cs, hcs, _, hc⟩ := h.row.get hj
  have hl : j < xs.length := by rw [h.len]; exact hj
  have hz := List.getElem?_eq_getElem hl
  simp only [List.getElem?_map, hz, Option.map_some, Option.some.injEq] at hcs
  subst hcs
  exact ⟨b, o, xs[j], e, hz, hc 0 _ rfl, hc 1 _ rfl, hc 2 _ rfl, hc 3 _ rfl, hc 4 _ rfl, hc 5 _ rfl⟩
end
theorem weightPs_take {xs : List PrC} {k : Nat} {x : PrC} (h : xs[k]? = some x) : weightPs (xs.take (k + 1)) = weightPs (xs.take k) + weightP x.v := by
  obtain ⟨hk, rfl⟩ := List.getElem?_eq_some_iff.1 h
  unfold weightPs
  rw [List.take_succ_eq_append_getElem hk, List.map_append, List.sum_append]
  simp
theorem weightPs_take_le (xs : List PrC) (k : Nat) : weightPs (xs.take k) ≤ weightPs xs := by
  have : weightPs xs = weightPs (xs.take k) + weightPs (xs.drop k) := by
    unfold weightPs
    rw [← List.sum_append, ← List.map_append, List.take_append_drop]
  omega
theorem weightPs_mem {xs : List PrC} {x : PrC} (h : x ∈ xs) : weightP x.v ≤ weightPs xs := by
  induction xs with
  | nil => cases h
  | cons y xs ih =>
    simp only [weightPs, List.map_cons, List.sum_cons] at ih ⊢
    rcases List.mem_cons.1 h with rfl | h
    · omega
    · have := ih h; omega

end Go.Proofs.YtboffgmaohcpfaaDoor

/-
  Prims that come in: from what is read as data to what the laws ask.
-/
namespace Go.Proofs.YtboffgmaohcpfaaDoor
open Go.ChangeShapes Go.WideShapes Go.ChangeAt Go.RowKit Go.Deep

def primFields : Array Field := #[{ name := "Kind", type := 3, offset := 0, embedded := false, tag := "", pkgPath := "", byteOffset := 0 }, { name := "Name", type := 9, offset := 1, embedded := false, tag := "", pkgPath := "", byteOffset := 8 }, { name := "To", type := 9, offset := 2, embedded := false, tag := "", pkgPath := "", byteOffset := 24 }, { name := "At", type := 3, offset := 3, embedded := false, tag := "", pkgPath := "", byteOffset := 40 }, { name := "Old", type := 22, offset := 4, embedded := false, tag := "", pkgPath := "", byteOffset := 48 }, { name := "New", type := 22, offset := 5, embedded := false, tag := "", pkgPath := "", byteOffset := 72 }]
theorem Tryd.primOne : oneCellFields Tryd.prog primFields = true := by kernel_rfl
theorem Tryd.primCells6 : Tryd.prog.cellsOf 24 = primFields.size := by kernel_rfl

/-- Six fields make a prim. -/
theorem prim_of {H : Type} {enc : TypeId × Value → H} {W : World} {fuel : Nat} {ys : List (DataW H × List MemPlace)} {Q : Nat → Value → Prop} (hyl : ys.length = 6)
    (hfld : ∀ (j : Nat) (f : Field), primFields[j]? = some f → ∃ (v : Value) (y : DataW H × List MemPlace), Q j v ∧ ys[j]? = some y ∧ DataW.trod enc Tryd.prog W 0 (fun _ => true) true fuel f.type [v] = some y) :
    ∃ x : PrC, (∀ (j : Nat) u, (prL x)[j]? = some u → Q j u) ∧ Row W x.A x.n x.v.old ∧ Row W x.B x.m x.v.new ∧ x.n ≤ x.c ∧ x.m ≤ x.d ∧ -9223372036854775808 ≤ x.v.place ∧ x.v.place ≤ 9223372036854775807 ∧ weightP x.v + 1 ≤ Rows.uptoBulk (.agg (ys.map (·.1))) := by
  obtain ⟨v0, y0, c0, e0, t0⟩ := hfld 0 _ rfl
  obtain ⟨v1, y1, c1, e1, t1⟩ := hfld 1 _ rfl
  obtain ⟨v2, y2, c2, e2, t2⟩ := hfld 2 _ rfl
  obtain ⟨v3, y3, c3, e3, t3⟩ := hfld 3 _ rfl
  obtain ⟨v4, y4, c4, e4, t4⟩ := hfld 4 _ rfl
  obtain ⟨v5, y5, c5, e5, t5⟩ := hfld 5 _ rfl
  obtain ⟨kd, hk, _, _⟩ := DataW.trod_int Tryd.underlying3 t0
  obtain ⟨s1, hs1, hy1, _⟩ := DataW.trod_string Tryd.underlying9 t1
  obtain ⟨s2, hs2, hy2, _⟩ := DataW.trod_string Tryd.underlying9 t2
  obtain ⟨pl, hp, _, hwf⟩ := DataW.trod_int Tryd.underlying3 t3
  obtain ⟨Al, nl, cl, l, hv4, hnc, hrow, hwl⟩ := came_lines t4
  obtain ⟨Bl, ml, dl, r, hv5, hmd, hrow2, hwr⟩ := came_lines t5
  simp only [List.cons.injEq, and_true] at hk hs1 hs2 hp
  subst hk hs1 hs2 hp hv4 hv5
  have hwf' : -9223372036854775808 ≤ pl ∧ pl ≤ 9223372036854775807 := by
    simp only [Lit.wf, Bool.and_eq_true, decide_eq_true_eq] at hwf
    exact hwf
  refine ⟨⟨⟨kd, s1, s2, pl, l, r⟩, Al, nl, cl, Bl, ml, dl⟩, fun j u hj => ?_, hrow, hrow2, hnc, hmd, hwf'.1, hwf'.2, ?_⟩
  · simp only [prL] at hj
    match j, hj with
    | 0, hj => simp at hj; subst hj; exact c0
    | 1, hj => simp at hj; subst hj; exact c1
    | 2, hj => simp at hj; subst hj; exact c2
    | 3, hj => simp at hj; subst hj; exact c3
    | 4, hj => simp at hj; subst hj; exact c4
    | 5, hj => simp at hj; subst hj; exact c5
    | j + 6, hj => simp at hj
  · match ys, hyl, e0, e1, e2, e3, e4, e5 with
    | [z0, z1, z2, z3, z4, z5], _, e0, e1, e2, e3, e4, e5 =>
      simp only [List.getElem?_cons_zero, List.getElem?_cons_succ, Option.some.injEq] at e0 e1 e2 e3 e4 e5
      subst e0 e1 e2 e3 e4 e5
      simp only [List.map_cons, List.map_nil, Rows.uptoBulk, Rows.uptoBulkAll]
      rw [hy1, hy2]
      simp only [Rows.uptoBulk, weightP]
      have l1 : s1.data.toList.length = s1.size := by rw [Array.length_toList]; rfl
      have l2 : s2.data.toList.length = s2.size := by rw [Array.length_toList]; rfl
      omega

/-- A prim that came in. -/
theorem came_prim {H : Type} {enc : TypeId × Value → H} {W : World} {cs : Array Value} {fuel : Nat} {x : DataW H × List MemPlace}
    (hf : DataW.trod enc Tryd.prog W 0 (fun _ => true) true fuel 24 (Value.agg cs).cells.toList = some x) (hb : Rows.uptoBulk x.1 ≤ 1048576) : ∃ y, Value.agg cs = prV y ∧ CameP W y := by
  obtain ⟨ys, n', _, hy, hcl, hyl, hfl⟩ := DataW.trod_struct (fs := primFields) Tryd.underlying24 hf
  rw [Tryd.primCells6] at hcl
  have hsz : primFields.size = 6 := rfl
  rw [hsz] at hcl hyl
  have hcs : (Value.agg cs).cells.toList = cs.toList := rfl
  rw [hcs] at hcl hfl
  obtain ⟨y, h1, h2, h3, h4, h5, h6, h7, h8⟩ := prim_of (W := W) (enc := enc) (fuel := n') (Q := fun j v => cs.toList[j]? = some v) hyl fun j f hj => by
    obtain ⟨ho, hk⟩ := hone_of Tryd.primOne j f hj
    have hjl : j < 6 := (Array.getElem?_eq_some_iff.1 hj).1
    have hv : cs.toList[j]? = some (cs.toList[j]'(by omega)) := List.getElem?_eq_getElem (by omega)
    have h1 := hfl j f hj
    rw [ho, hk] at h1
    have hone' : (cs.toList.drop j).take 1 = [cs.toList[j]'(by omega)] := by
      rw [List.drop_eq_getElem_cons (by omega)]
      rfl
    rw [hone'] at h1
    have hys : ys[j]? = some (ys[j]'(by omega)) := List.getElem?_eq_getElem (by omega)
    exact ⟨_, _, hv, hys, h1.trans hys⟩
  subst hy
  dsimp only at hb
  refine ⟨y, ?_, h2, h3, h4, h5, h6, h7, by omega⟩
  have : cs.toList = prL y := by
    refine List.ext_getElem? fun j => ?_
    by_cases hj : j < 6
    · have hjl : (prL y)[j]? = some ((prL y)[j]'hj) := List.getElem?_eq_getElem hj
      rw [hjl, h1 j _ hjl]
    · rw [List.getElem?_eq_none (by omega), List.getElem?_eq_none (by show 6 ≤ j; omega)]
  unfold prV
  congr 1
  exact Array.ext' this

theorem bulkP_range {H : Type} (D : Nat → DataW H) : ∀ (n : Nat) (xs : List PrC), xs.length = n → (∀ (i : Nat) x, xs[i]? = some x → weightP x.v + 1 ≤ Rows.uptoBulk (D i)) → weightPs xs + n ≤ Rows.uptoBulkAll ((List.range n).map D)
  | 0, xs, h, _ => by
    have : xs = [] := List.eq_nil_of_length_eq_zero h
    subst this; simp [weightPs]
  | n + 1, xs, h, hw => by
    have key : ∀ (l r : List (DataW H)), Rows.uptoBulkAll (l ++ r) = Rows.uptoBulkAll l + Rows.uptoBulkAll r := fun l r => by
      induction l with
      | nil => simp [Rows.uptoBulkAll]
      | cons x l ih => simp only [List.cons_append, Rows.uptoBulkAll, ih]; omega
    have ih := bulkP_range D n (xs.take n) (by rw [List.length_take]; omega) (fun i x hx => hw i x (by
      have hi : i < n := by have := (List.getElem?_eq_some_iff.1 hx).1; rw [List.length_take] at this; omega
      rwa [List.getElem?_take_of_lt hi] at hx))
    have hz : xs[n]? = some (xs[n]'(by omega)) := List.getElem?_eq_getElem (by omega)
    have h1 := hw n _ hz
    have h2 := weightPs_take hz
    rw [show xs.take (n + 1) = xs from List.take_of_length_le (by omega)] at h2
    rw [List.range_succ, List.map_append, key]
    simp only [List.map_cons, List.map_nil, Rows.uptoBulkAll]
    omega

end Go.Proofs.YtboffgmaohcpfaaDoor

/-
  A cell that is written: what stands, and what has turned.
-/
namespace Go.Proofs.YtboffgmaohcpfaaDoor
open Go.RowKit Go.Maps

/-- The first line of an own row: its cell may be written. -/
theorem Own.first {w0 w : World} {v : Value} {l : List ByteArray} (h : Own 9 w0 w v l) (h1 : 1 ≤ l.length) :
    ∃ g cap cur, v = .slice (some ⟨g, 0, none⟩) l.length cap ∧ l.length ≤ cap ∧ w0.heap.size ≤ g ∧ w.heap[g]? = some (.cells cur 9 (0, 0)) ∧ w.cell? ⟨g, 0, none⟩ = some (.string (l.getD 0 ByteArray.empty)) := by
  rcases h.1.2 with ⟨_, h0⟩ | ⟨g, cap, cur, hv, hg, hh, hnc, hm, hs, ht⟩
  · omega
  · refine ⟨g, cap, cur, hv, hnc, hg, hh, ?_⟩
    obtain ⟨A, c, hv2, _, hr⟩ := h.row
    rw [hv] at hv2
    simp only [Value.slice.injEq] at hv2
    obtain ⟨rfl, -, -⟩ := hv2
    obtain ⟨b, o, e, hc⟩ := hr.get (k := 0) (by omega)
    simp only [Option.some.injEq, Addr.mk.injEq] at e
    obtain ⟨rfl, rfl, -⟩ := e
    exact hc
theorem frozen_no {w : World} {g : Nat} {cur : Array Value} {t : TypeId} (h : w.heap[g]? = some (.cells cur t (0, 0))) (i : Nat) : w.frozen? ⟨g, i, none⟩ = false := by
  simp [World.frozen?, h]
theorem turned_set (w : World) (g i : Nat) (u : Value) : Turned g w (w.setCell ⟨g, i, none⟩ u) :=
  ⟨rfl, rfl, rfl, by simp, fun k _ hne => RowKit.Below.heap_setCell _ _ _ _ (fun e => hne (by rw [e]))⟩
/-- A block that was not there has turned, behind block B. -/
theorem Turned.more {B g : Nat} {w w' w'' : World} (h : Turned B w w') (k : Turned g w' w'') (hg : w.heap.size ≤ g) : Turned B w w'' :=
  ⟨k.os.trans h.os, k.tape.trans h.tape, k.output.trans h.output, Nat.le_trans h.size k.size, fun i hi hne => (k.block i (Nat.lt_of_lt_of_le hi h.size) (fun e => by cases e; omega)).trans (h.block i hi hne)⟩
theorem right_size {l : List ByteArray} (h : allB l = true) {s : ByteArray} (hs : s ∈ l) : s.size ≤ 60 := by
  have := List.all_eq_true.1 h s hs
  simp only [rightB, Bool.and_eq_true, decide_eq_true_eq] at this
  exact this.1
theorem reads_lt {w : World} {v : Value} {l : List ByteArray} (h : Reads w v l) (h1 : l ≠ []) : ∀ k, v.ownBlock = some k → k < w.heap.size := by
  obtain ⟨A, n, c, rfl, _, hr⟩ := h
  intro k hk
  have hn : 0 < n := by
    rcases Nat.eq_zero_or_pos n with h0 | h0
    · exact absurd (List.eq_nil_of_length_eq_zero (hr.len.trans h0)) h1
    · exact h0
  obtain ⟨b, o, rfl, hc⟩ := hr.get hn
  simp only [Value.ownBlock, Option.some.injEq] at hk
  rw [← hk]
  exact lt_of_cell hc

/-- Another block has turned: an own row stands. -/
theorem Own.other {e : TypeId} {w0 w w' : World} {v : Value} {ss : List ByteArray} {g : Nat} (h : Own e w0 w v ss) (hg : Turned g w w') (hv : v.ownBlock ≠ some g) (hl : Later w0 w') : Own e w0 w' v ss :=
  ⟨h.1.kept hg (.inr hv), hl⟩

end Go.Proofs.YtboffgmaohcpfaaDoor

/-
  What prim's Clone comes to, as a call.
-/
namespace Go.Proofs.YtboffgmaohcpfaaDoor
open Go.RowKit

/-- Block g is made of these cells. -/
def BoxAt (w : World) (g : Nat) (cs : Array Value) (t : TypeId) : Prop := w.heap[g]? = some (.cells cs t (0, 0))
section
variable {w w' : World} {g : Nat} {cs : Array Value} {t : TypeId}
theorem BoxAt.lt (h : BoxAt w g cs t) : g < w.heap.size := (Array.getElem?_eq_some_iff.1 h).1
theorem BoxAt.later (h : BoxAt w g cs t) (hl : Later w w') : BoxAt w' g cs t := (hl.block g h.lt).trans h
theorem BoxAt.other {b : Nat} (h : BoxAt w g cs t) (hg : Turned b w w') (hne : g ≠ b) : BoxAt w' g cs t := (hg.block g h.lt (by simpa using hne)).trans h
theorem BoxAt.cell (h : BoxAt w g cs t) {i : Nat} {v : Value} (hv : cs[i]? = some v) : w.cell? ⟨g, i, none⟩ = some v := by
  unfold BoxAt at h
  simp only [World.cell?, h]
  exact hv
theorem BoxAt.frozen (h : BoxAt w g cs t) (i : Nat) : w.frozen? ⟨g, i, none⟩ = false := frozen_no h i
theorem BoxAt.made (w : World) (cs : Array Value) (t : TypeId) : BoxAt (w.alloc (.cells cs t)) w.heap.size cs t := heap_alloc_new w _
theorem BoxAt.set (h : BoxAt w g cs t) (i : Nat) (v : Value) : BoxAt (w.setCell ⟨g, i, none⟩ v) g (cs.setIfInBounds i v) t := heap_setCell_same w g i cs t v h
theorem BoxAt.alloc (h : BoxAt w g cs t) (o : Obj) : BoxAt (w.alloc o) g cs t := h.later ((Later.refl w).alloc o)
/-- Six cells, written one behind the other. -/
theorem BoxAt.set6 {x0 x1 x2 x3 x4 x5 : Value} (h : BoxAt w g #[x0, x1, x2, x3, x4, x5] t) (v0 v1 v2 v3 v4 v5 : Value) : BoxAt ((((((w.setCell ⟨g, 0, none⟩ v0).setCell ⟨g, 1, none⟩ v1).setCell ⟨g, 2, none⟩ v2).setCell ⟨g, 3, none⟩ v3).setCell ⟨g, 4, none⟩ v4).setCell ⟨g, 5, none⟩ v5) g #[v0, v1, v2, v3, v4, v5] t :=
  (((((h.set 0 v0).set 1 v1).set 2 v2).set 3 v3).set 4 v4).set 5 v5
theorem turned_set6 (w : World) (g : Nat) (v0 v1 v2 v3 v4 v5 : Value) : Turned g w ((((((w.setCell ⟨g, 0, none⟩ v0).setCell ⟨g, 1, none⟩ v1).setCell ⟨g, 2, none⟩ v2).setCell ⟨g, 3, none⟩ v3).setCell ⟨g, 4, none⟩ v4).setCell ⟨g, 5, none⟩ v5) :=
  (((((turned_set w g 0 v0).trans (turned_set _ g 1 v1)).trans (turned_set _ g 2 v2)).trans (turned_set _ g 3 v3)).trans (turned_set _ g 4 v4)).trans (turned_set _ g 5 v5)
end
theorem Tryd.primSize : (Tryd.prog.info? 28).map (·.size) = some 6 := by kernel_rfl

set_option maxRecDepth 100000 in
set_option maxHeartbeats 800000 in
theorem primClone_any (x : PrC) (w : World) (hx : PrOk w x) :
    Calls Tryd.prog 18 #[prV x] w (GivesPr x.v w) := by
  obtain ⟨⟨kd, nm, to, pl, old, new⟩, A, n, c, B, m, d⟩ := x
  unfold prV
  dsimp only
  have HX := Lib.hid hx
  clear hx
  go_enter Tryd.func18, Tryd.ntmps18
  go_wp2_with fail
  have hb0 : BoxAt ((w.alloc (.cells #[.int .i64 kd, .string nm, .string to, .int .i64 pl, .slice A n c, .slice B m d] 28)).alloc (.cells #[.int .i64 0, .string ⟨#[]⟩, .string ⟨#[]⟩, .int .i64 0, .slice none 0 0, .slice none 0 0] 28)) w.heap.size #[.int .i64 kd, .string nm, .string to, .int .i64 pl, .slice A n c, .slice B m d] 28 := (BoxAt.made w _ _).alloc _
  have hb1 : BoxAt ((w.alloc (.cells #[.int .i64 kd, .string nm, .string to, .int .i64 pl, .slice A n c, .slice B m d] 28)).alloc (.cells #[.int .i64 0, .string ⟨#[]⟩, .string ⟨#[]⟩, .int .i64 0, .slice none 0 0, .slice none 0 0] 28)) (w.heap.size + 1) #[.int .i64 0, .string ⟨#[]⟩, .string ⟨#[]⟩, .int .i64 0, .slice none 0 0, .slice none 0 0] 28 := by
    have := BoxAt.made (w.alloc (.cells #[.int .i64 kd, .string nm, .string to, .int .i64 pl, .slice A n c, .slice B m d] 28)) #[.int .i64 0, .string ⟨#[]⟩, .string ⟨#[]⟩, .int .i64 0, .slice none 0 0, .slice none 0 0] 28
    simpa using this
  have hlb : Later w ((w.alloc (.cells #[.int .i64 kd, .string nm, .string to, .int .i64 pl, .slice A n c, .slice B m d] 28)).alloc (.cells #[.int .i64 0, .string ⟨#[]⟩, .string ⟨#[]⟩, .int .i64 0, .slice none 0 0, .slice none 0 0] 28)) := ((Later.refl w).alloc _).alloc _
  generalize (w.alloc (.cells #[.int .i64 kd, .string nm, .string to, .int .i64 pl, .slice A n c, .slice B m d] 28)).alloc (.cells #[.int .i64 0, .string ⟨#[]⟩, .string ⟨#[]⟩, .int .i64 0, .slice none 0 0, .slice none 0 0] 28) = wb at hb0 hb1 hlb ⊢
  have hlt := hb1.lt
  refine (clone_any A n c old wb (HX.out.old.later hlb) HX.out.omost).mono ?_
  rintro e w1 ⟨u, rfl, hu⟩
  obtain ⟨A1, c1, hv1, hcc1, hr1⟩ := hu.row
  subst hv1
  have b0 := hb0.later hu.later
  have c4 := b0.cell (i := 4) rfl
  have f4 := b0.frozen 4
  have b0' := b0.set 4 (.slice A1 old.length c1)
  have c5 := b0'.cell (i := 5) rfl
  have f5 := b0'.frozen 5
  have HB0 := Lib.hid b0'
  have HB1 := Lib.hid ((hb1.later hu.later).other (turned_set w1 w.heap.size 4 (.slice A1 old.length c1)) (by omega))
  have hle := hu.later.le
  have HL1 := Lib.hid ((hlb.trans hu.later).turn (turned_set w1 w.heap.size 4 (.slice A1 old.length c1)) (Nat.le_refl _))
  have HU := Lib.hid (hu.base hlb)
  have HU1 : Hid (Own 9 w (w1.setCell ⟨w.heap.size, 4, none⟩ (.slice A1 old.length c1)) (.slice A1 old.length c1) old) := (HU.out).other (turned_set w1 w.heap.size 4 (.slice A1 old.length c1)) (fun e => by have := hu.block _ e; omega) HL1.out
  have HUB : Hid (∀ b, (Value.slice A1 old.length c1).ownBlock = some b → wb.heap.size ≤ b) := hu.block
  clear hb0 hb1 hu b0 b0' hr1 hcc1
  go_wp2_with fail
  generalize w1.setCell ⟨w.heap.size, 4, none⟩ (.slice A1 old.length c1) = w2 at HB0 HB1 HL1 HU1 c5 f5 ⊢
  clear c4 f4 HU
  refine (clone_any B m d new w2 (HX.out.new.later HL1.out) HX.out.nmost).mono ?_
  rintro e w3 ⟨u2, rfl, hu2⟩
  obtain ⟨A3, c3, hv3, hcc3, hr3⟩ := hu2.row
  subst hv3
  have b0 := HB0.out.later hu2.later
  have b1 := HB1.out.later hu2.later
  have e5 := b0.cell (i := 5) rfl
  have g5 := b0.frozen 5
  have hlt2 := HB1.out.lt
  have d0 := b0.set 5 (.slice A3 new.length c3)
  have d1 := b1.other (turned_set w3 w.heap.size 5 (.slice A3 new.length c3)) (by omega)
  have HL4 := Lib.hid ((HL1.out.trans hu2.later).turn (turned_set w3 w.heap.size 5 (.slice A3 new.length c3)) (Nat.le_refl _))
  have HU4 : Hid (Own 9 w (w3.setCell ⟨w.heap.size, 5, none⟩ (.slice A3 new.length c3)) (.slice A1 old.length c1) old) := (HU1.out.on hu2.later).other (turned_set w3 w.heap.size 5 (.slice A3 new.length c3)) (fun e => by have := HUB.out _ e; omega) HL4.out
  have HV4 : Hid (Own 9 w (w3.setCell ⟨w.heap.size, 5, none⟩ (.slice A3 new.length c3)) (.slice A3 new.length c3) new) := (hu2.base HL1.out).other (turned_set w3 w.heap.size 5 (.slice A3 new.length c3)) (fun e => by have := hu2.block _ e; omega) HL4.out
  have HVB : Hid (∀ b, (Value.slice A3 new.length c3).ownBlock = some b → w2.heap.size ≤ b) := hu2.block
  have HUL : Hid (∀ b, (Value.slice A1 old.length c1).ownBlock = some b → b < w2.heap.size) := fun b hb => HU1.out.lt hb
  clear hu2 b0 b1 c5 f5
  have x0 := d0.cell (i := 0) rfl; have x1 := d0.cell (i := 1) rfl; have x2 := d0.cell (i := 2) rfl; have x3 := d0.cell (i := 3) rfl; have x4 := d0.cell (i := 4) rfl; have x5 := d0.cell (i := 5) rfl
  have y0 := d1.cell (i := 0) rfl; have y1 := d1.cell (i := 1) rfl; have y2 := d1.cell (i := 2) rfl; have y3 := d1.cell (i := 3) rfl; have y4 := d1.cell (i := 4) rfl; have y5 := d1.cell (i := 5) rfl
  have z0 := d1.frozen 0; have z1 := d1.frozen 1; have z2 := d1.frozen 2; have z3 := d1.frozen 3; have z4 := d1.frozen 4; have z5 := d1.frozen 5
  have HD1 := Lib.hid d1
  clear d0 d1
  go_wp2
  have hset := turned_set6 (w3.setCell ⟨w.heap.size, 5, none⟩ (.slice A3 new.length c3)) (w.heap.size + 1) (.int .i64 kd) (.string nm) (.string to) (.int .i64 pl) (.slice A1 old.length c1) (.slice A3 new.length c3)
  have hlw := HL4.out.turn hset (by omega)
  refine bodyPost_ret (results_cell_row rfl _ _ (w.heap.size + 1) 28 _ (0, 0) _ rfl (HD1.out.set6 (.int .i64 kd) (.string nm) (.string to) (.int .i64 pl) (.slice A1 old.length c1) (.slice A3 new.length c3)) Tryd.underlying28 rfl Tryd.primSize) rfl ?_
  refine ⟨(.slice A1 old.length c1), (.slice A3 new.length c3), rfl, HU4.out.other hset (fun e => ?_) hlw, HV4.out.other hset (fun e => ?_) hlw, fun b h1 h2 => ?_⟩
  · have := HUB.out _ e; omega
  · have := HVB.out _ e; omega
  · have := HUL.out _ h1
    have := HVB.out _ h2
    omega

end Go.Proofs.YtboffgmaohcpfaaDoor

/-
  What prim's Invert comes to, as a call.
-/
namespace Go.Proofs.YtboffgmaohcpfaaDoor
open Go.RowKit

set_option maxRecDepth 100000 in
set_option maxHeartbeats 800000 in
theorem primInvert_any (x : PrC) (w : World) (hx : PrOk w x) :
    Calls Tryd.prog 12 #[prV x] w (GivesPr (invertP x.v) w) := by
  have hlb : Later w ((w.alloc (.cells #[.int .i64 x.v.kind, .string x.v.name, .string x.v.to, .int .i64 x.v.place, .slice x.A x.n x.c, .slice x.B x.m x.d] 28)).alloc (.cells #[.int .i64 0, .string ⟨#[]⟩, .string ⟨#[]⟩, .int .i64 0, .slice none 0 0, .slice none 0 0] 28)) := ((Later.refl w).alloc _).alloc _
  have HC := Lib.hid (primClone_any x _ (hx.later hlb))
  clear hx
  obtain ⟨⟨kd, nm, to, pl, old, new⟩, A, n, c, B, m, d⟩ := x
  unfold prV at HC ⊢
  dsimp only at HC hlb ⊢
  go_enter Tryd.func12, Tryd.ntmps12
  go_wp2_with fail
  have hb0 : BoxAt ((w.alloc (.cells #[.int .i64 kd, .string nm, .string to, .int .i64 pl, .slice A n c, .slice B m d] 28)).alloc (.cells #[.int .i64 0, .string ⟨#[]⟩, .string ⟨#[]⟩, .int .i64 0, .slice none 0 0, .slice none 0 0] 28)) w.heap.size #[.int .i64 kd, .string nm, .string to, .int .i64 pl, .slice A n c, .slice B m d] 28 := (BoxAt.made w _ _).alloc _
  have hb1 : BoxAt ((w.alloc (.cells #[.int .i64 kd, .string nm, .string to, .int .i64 pl, .slice A n c, .slice B m d] 28)).alloc (.cells #[.int .i64 0, .string ⟨#[]⟩, .string ⟨#[]⟩, .int .i64 0, .slice none 0 0, .slice none 0 0] 28)) (w.heap.size + 1) #[.int .i64 0, .string ⟨#[]⟩, .string ⟨#[]⟩, .int .i64 0, .slice none 0 0, .slice none 0 0] 28 := by
    have := BoxAt.made (w.alloc (.cells #[.int .i64 kd, .string nm, .string to, .int .i64 pl, .slice A n c, .slice B m d] 28)) #[.int .i64 0, .string ⟨#[]⟩, .string ⟨#[]⟩, .int .i64 0, .slice none 0 0, .slice none 0 0] 28
    simpa using this
  refine HC.out.mono ?_
  clear HC
  generalize (w.alloc (.cells #[.int .i64 kd, .string nm, .string to, .int .i64 pl, .slice A n c, .slice B m d] 28)).alloc (.cells #[.int .i64 0, .string ⟨#[]⟩, .string ⟨#[]⟩, .int .i64 0, .slice none 0 0, .slice none 0 0] 28) = wb at hb0 hb1 hlb ⊢
  rintro e w1 ⟨u, v, rfl, hpr⟩
  obtain ⟨A1, c1, hv1, hcc1, hr1⟩ := hpr.old.row
  obtain ⟨A2, c2, hv2, hcc2, hr2⟩ := hpr.new.row
  subst hv1 hv2
  dsimp only at *
  have hlt := hb1.lt
  have hle := hpr.later.le
  have hb0' := (hb0.later hpr.later).alloc (.cells #[.int .i64 kd, .string nm, .string to, .int .i64 pl, .slice A1 old.length c1, .slice A2 new.length c2] 28)
  have k0 := hb0'.cell (i := 0) rfl
  have HB1 := Lib.hid (hb1.later hpr.later)
  have HP := Lib.hid (hpr.base hlb)
  have HUB : Hid (∀ b, (Value.slice A1 old.length c1).ownBlock = some b → wb.heap.size ≤ b) := hpr.old.block
  have HVB : Hid (∀ b, (Value.slice A2 new.length c2).ownBlock = some b → wb.heap.size ≤ b) := hpr.new.block
  clear hr1 hr2 hpr hb0 hb0' hb1 hlb hcc1 hcc2
  by_cases h0 : kd = 0
  · subst h0
    have E : Hid (invertP ⟨0, nm, to, pl, old, new⟩ = ⟨0, nm, to, pl, new, old⟩) := by simp [Hid, invertP]
    have d1 := HB1.out.alloc (.cells #[.int .i64 0, .string nm, .string to, .int .i64 pl, .slice A2 new.length c2, .slice A1 old.length c1] 28)
    have y0 := d1.cell (i := 0) rfl; have y1 := d1.cell (i := 1) rfl; have y2 := d1.cell (i := 2) rfl; have y3 := d1.cell (i := 3) rfl; have y4 := d1.cell (i := 4) rfl; have y5 := d1.cell (i := 5) rfl
    have z0 := d1.frozen 0; have z1 := d1.frozen 1; have z2 := d1.frozen 2; have z3 := d1.frozen 3; have z4 := d1.frozen 4; have z5 := d1.frozen 5
    have HD1 := Lib.hid d1
    clear d1
    go_wp2
    have hset := turned_set6 (w1.alloc (.cells #[.int .i64 0, .string nm, .string to, .int .i64 pl, .slice A2 new.length c2, .slice A1 old.length c1] 28)) (w.heap.size + 1) (.int .i64 0) (.string nm) (.string to) (.int .i64 pl) (.slice A2 new.length c2) (.slice A1 old.length c1)
    have hlw := (HP.out.later.alloc (.cells #[.int .i64 0, .string nm, .string to, .int .i64 pl, .slice A2 new.length c2, .slice A1 old.length c1] 28)).turn hset (by omega)
    refine bodyPost_ret (results_cell_row rfl _ _ (w.heap.size + 1) 28 _ (0, 0) _ rfl (HD1.out.set6 (.int .i64 0) (.string nm) (.string to) (.int .i64 pl) (.slice A2 new.length c2) (.slice A1 old.length c1)) Tryd.underlying28 rfl Tryd.primSize) rfl ?_
    rw [E.out]
    exact ⟨(.slice A2 new.length c2), (.slice A1 old.length c1), rfl, ((HP.out.new.alloc _).other hset (fun e => by have := HVB.out _ e; omega) hlw), ((HP.out.old.alloc _).other hset (fun e => by have := HUB.out _ e; omega) hlw), fun b h1 h2 => HP.out.apart b h2 h1⟩
  by_cases h1 : kd = 1
  · subst h1
    have E : Hid (invertP ⟨1, nm, to, pl, old, new⟩ = ⟨2, nm, to, pl, old, new⟩) := by simp [Hid, invertP]
    have d1 := HB1.out.alloc (.cells #[.int .i64 2, .string nm, .string to, .int .i64 pl, .slice A1 old.length c1, .slice A2 new.length c2] 28)
    have y0 := d1.cell (i := 0) rfl; have y1 := d1.cell (i := 1) rfl; have y2 := d1.cell (i := 2) rfl; have y3 := d1.cell (i := 3) rfl; have y4 := d1.cell (i := 4) rfl; have y5 := d1.cell (i := 5) rfl
    have z0 := d1.frozen 0; have z1 := d1.frozen 1; have z2 := d1.frozen 2; have z3 := d1.frozen 3; have z4 := d1.frozen 4; have z5 := d1.frozen 5
    have HD1 := Lib.hid d1
    clear d1
    go_wp2
    have hset := turned_set6 (w1.alloc (.cells #[.int .i64 2, .string nm, .string to, .int .i64 pl, .slice A1 old.length c1, .slice A2 new.length c2] 28)) (w.heap.size + 1) (.int .i64 2) (.string nm) (.string to) (.int .i64 pl) (.slice A1 old.length c1) (.slice A2 new.length c2)
    have hlw := (HP.out.later.alloc (.cells #[.int .i64 2, .string nm, .string to, .int .i64 pl, .slice A1 old.length c1, .slice A2 new.length c2] 28)).turn hset (by omega)
    refine bodyPost_ret (results_cell_row rfl _ _ (w.heap.size + 1) 28 _ (0, 0) _ rfl (HD1.out.set6 (.int .i64 2) (.string nm) (.string to) (.int .i64 pl) (.slice A1 old.length c1) (.slice A2 new.length c2)) Tryd.underlying28 rfl Tryd.primSize) rfl ?_
    rw [E.out]
    exact ⟨(.slice A1 old.length c1), (.slice A2 new.length c2), rfl, ((HP.out.old.alloc _).other hset (fun e => by have := HUB.out _ e; omega) hlw), ((HP.out.new.alloc _).other hset (fun e => by have := HVB.out _ e; omega) hlw), HP.out.apart⟩
  by_cases h2 : kd = 2
  · subst h2
    have E : Hid (invertP ⟨2, nm, to, pl, old, new⟩ = ⟨1, nm, to, pl, old, new⟩) := by simp [Hid, invertP]
    have d1 := HB1.out.alloc (.cells #[.int .i64 1, .string nm, .string to, .int .i64 pl, .slice A1 old.length c1, .slice A2 new.length c2] 28)
    have y0 := d1.cell (i := 0) rfl; have y1 := d1.cell (i := 1) rfl; have y2 := d1.cell (i := 2) rfl; have y3 := d1.cell (i := 3) rfl; have y4 := d1.cell (i := 4) rfl; have y5 := d1.cell (i := 5) rfl
    have z0 := d1.frozen 0; have z1 := d1.frozen 1; have z2 := d1.frozen 2; have z3 := d1.frozen 3; have z4 := d1.frozen 4; have z5 := d1.frozen 5
    have HD1 := Lib.hid d1
    clear d1
    go_wp2
    have hset := turned_set6 (w1.alloc (.cells #[.int .i64 1, .string nm, .string to, .int .i64 pl, .slice A1 old.length c1, .slice A2 new.length c2] 28)) (w.heap.size + 1) (.int .i64 1) (.string nm) (.string to) (.int .i64 pl) (.slice A1 old.length c1) (.slice A2 new.length c2)
    have hlw := (HP.out.later.alloc (.cells #[.int .i64 1, .string nm, .string to, .int .i64 pl, .slice A1 old.length c1, .slice A2 new.length c2] 28)).turn hset (by omega)
    refine bodyPost_ret (results_cell_row rfl _ _ (w.heap.size + 1) 28 _ (0, 0) _ rfl (HD1.out.set6 (.int .i64 1) (.string nm) (.string to) (.int .i64 pl) (.slice A1 old.length c1) (.slice A2 new.length c2)) Tryd.underlying28 rfl Tryd.primSize) rfl ?_
    rw [E.out]
    exact ⟨(.slice A1 old.length c1), (.slice A2 new.length c2), rfl, ((HP.out.old.alloc _).other hset (fun e => by have := HUB.out _ e; omega) hlw), ((HP.out.new.alloc _).other hset (fun e => by have := HVB.out _ e; omega) hlw), HP.out.apart⟩
  by_cases h3 : kd = 3
  · subst h3
    have E : Hid (invertP ⟨3, nm, to, pl, old, new⟩ = ⟨3, to, nm, pl, old, new⟩) := by simp [Hid, invertP]
    have d1 := HB1.out.alloc (.cells #[.int .i64 3, .string to, .string nm, .int .i64 pl, .slice A1 old.length c1, .slice A2 new.length c2] 28)
    have y0 := d1.cell (i := 0) rfl; have y1 := d1.cell (i := 1) rfl; have y2 := d1.cell (i := 2) rfl; have y3 := d1.cell (i := 3) rfl; have y4 := d1.cell (i := 4) rfl; have y5 := d1.cell (i := 5) rfl
    have z0 := d1.frozen 0; have z1 := d1.frozen 1; have z2 := d1.frozen 2; have z3 := d1.frozen 3; have z4 := d1.frozen 4; have z5 := d1.frozen 5
    have HD1 := Lib.hid d1
    clear d1
    go_wp2
    have hset := turned_set6 (w1.alloc (.cells #[.int .i64 3, .string to, .string nm, .int .i64 pl, .slice A1 old.length c1, .slice A2 new.length c2] 28)) (w.heap.size + 1) (.int .i64 3) (.string to) (.string nm) (.int .i64 pl) (.slice A1 old.length c1) (.slice A2 new.length c2)
    have hlw := (HP.out.later.alloc (.cells #[.int .i64 3, .string to, .string nm, .int .i64 pl, .slice A1 old.length c1, .slice A2 new.length c2] 28)).turn hset (by omega)
    refine bodyPost_ret (results_cell_row rfl _ _ (w.heap.size + 1) 28 _ (0, 0) _ rfl (HD1.out.set6 (.int .i64 3) (.string to) (.string nm) (.int .i64 pl) (.slice A1 old.length c1) (.slice A2 new.length c2)) Tryd.underlying28 rfl Tryd.primSize) rfl ?_
    rw [E.out]
    exact ⟨(.slice A1 old.length c1), (.slice A2 new.length c2), rfl, ((HP.out.old.alloc _).other hset (fun e => by have := HUB.out _ e; omega) hlw), ((HP.out.new.alloc _).other hset (fun e => by have := HVB.out _ e; omega) hlw), HP.out.apart⟩
  have E : Hid (invertP ⟨kd, nm, to, pl, old, new⟩ = ⟨kd, nm, to, pl, old, new⟩) := by simp [Hid, invertP, h0, h1, h2, h3]
  have d1 := HB1.out.alloc (.cells #[.int .i64 kd, .string nm, .string to, .int .i64 pl, .slice A1 old.length c1, .slice A2 new.length c2] 28)
  have y0 := d1.cell (i := 0) rfl; have y1 := d1.cell (i := 1) rfl; have y2 := d1.cell (i := 2) rfl; have y3 := d1.cell (i := 3) rfl; have y4 := d1.cell (i := 4) rfl; have y5 := d1.cell (i := 5) rfl
  have z0 := d1.frozen 0; have z1 := d1.frozen 1; have z2 := d1.frozen 2; have z3 := d1.frozen 3; have z4 := d1.frozen 4; have z5 := d1.frozen 5
  have HD1 := Lib.hid d1
  clear d1
  go_wp2
  have hset := turned_set6 (w1.alloc (.cells #[.int .i64 kd, .string nm, .string to, .int .i64 pl, .slice A1 old.length c1, .slice A2 new.length c2] 28)) (w.heap.size + 1) (.int .i64 kd) (.string nm) (.string to) (.int .i64 pl) (.slice A1 old.length c1) (.slice A2 new.length c2)
  have hlw := (HP.out.later.alloc (.cells #[.int .i64 kd, .string nm, .string to, .int .i64 pl, .slice A1 old.length c1, .slice A2 new.length c2] 28)).turn hset (by omega)
  refine bodyPost_ret (results_cell_row rfl _ _ (w.heap.size + 1) 28 _ (0, 0) _ rfl (HD1.out.set6 (.int .i64 kd) (.string nm) (.string to) (.int .i64 pl) (.slice A1 old.length c1) (.slice A2 new.length c2)) Tryd.underlying28 rfl Tryd.primSize) rfl ?_
  rw [E.out]
  exact ⟨(.slice A1 old.length c1), (.slice A2 new.length c2), rfl, ((HP.out.old.alloc _).other hset (fun e => by have := HUB.out _ e; omega) hlw), ((HP.out.new.alloc _).other hset (fun e => by have := HVB.out _ e; omega) hlw), HP.out.apart⟩

end Go.Proofs.YtboffgmaohcpfaaDoor

/-
  What slices.Equal at rows of texts comes to, as a call.
-/
namespace Go.Proofs.YtboffgmaohcpfaaDoor
open Go.RowKit

set_option maxHeartbeats 400000 in
theorem equal_any (A B : Option Addr) (n c m d : Nat) (xs ys : List ByteArray) (w : World) (hx : Row w A n xs) (hy : Row w B m ys) (hn : n ≤ 65536) (hm : m ≤ 65536) :
    Calls Tryd.prog 30 #[.slice A n c, .slice B m d] w fun e w' => e = .returned (.bool (sameB xs ys)) ∧ ∃ q, w' = w.drewN q := by
  by_cases hnm : n = m
  · subst hnm
    have HX := Lib.hid hx; clear hx
    have HY := Lib.hid hy; clear hy
    go_enter Tryd.func30, Tryd.ntmps30
    go_wp2
    go_loopg [13] n (fun g s13 wr => ∃ k q : Nat, k ≤ n ∧ n - k ≤ g ∧ s13 = .int .i64 k ∧ wr = w.drewN q ∧ Hid (xs.take k = ys.take k))
    case atStart => exact ⟨0, 0, Nat.zero_le _, by omega, rfl, rfl, by simp [Hid]⟩
    case round =>
      obtain ⟨k, q, hk, hg, rfl, rfl, heq⟩ := hrel
      by_cases hlt : k < n
      · obtain ⟨b1, o1, rfl, g1⟩ := HX.out.get hlt
        obtain ⟨b2, o2, rfl, g2⟩ := HY.out.get hlt
        generalize hxk : xs.getD k ByteArray.empty = x at g1
        generalize hyk : ys.getD k ByteArray.empty = y at g2
        have X := Lib.hid hxk; clear hxk
        have Y := Lib.hid hyk; clear hyk
        by_cases hxy : x = y
        · subst hxy
          go_wp2_with fail
          go_quiet (fail)
          go_wp2
          go_roundg (n - (k + 1))
          case measure => omega
          case rel => exact ⟨k + 1, _, by omega, by omega, by go_num, rfl, take_same (by rw [HX.out.len]; exact hlt) (by rw [HY.out.len]; exact hlt) heq.out (X.out.trans Y.out.symm)⟩
        · have hb := text_ne hxy
          go_wp2_with fail
          go_quiet (fail)
          go_wp2
          go_ret
          refine ⟨?_, _, World.drewN_drewN _ _ _⟩
          rw [beq_of_other (by rw [X.out, Y.out]; exact hxy)]
          rfl
      · have hkn : k = n := by omega
        have e : sameB xs ys = true := by
          rw [hkn, List.take_of_length_le (by rw [HX.out.len]; omega), List.take_of_length_le (by rw [HY.out.len]; omega)] at heq
          exact sameB_yes heq.out
        have E := Lib.hid e; clear e heq
        go_wp2
        go_ret
        exact ⟨by rw [E.out]; rfl, _, rfl⟩
  · have e : sameB xs ys = false := by
      refine sameB_no fun h => ?_; rw [h] at hx; exact hnm (hx.len.symm.trans hy.len)
    have E := Lib.hid e; clear e hx hy
    have hnm' : ¬ (n : Int) = (m : Int) := by omega
    go_enter Tryd.func30, Tryd.ntmps30
    go_wp2
    go_ret
    exact ⟨by rw [E.out]; rfl, 0, rfl⟩

end Go.Proofs.YtboffgmaohcpfaaDoor

/-
  What line.Same comes to, as a call.
-/
namespace Go.Proofs.YtboffgmaohcpfaaDoor
open Go.RowKit

set_option maxHeartbeats 400000 in
theorem same_any (A B : Option Addr) (n c m d : Nat) (xs ys : List ByteArray) (w : World) (hx : Row w A n xs) (hy : Row w B m ys) (hn : n ≤ 65536) (hm : m ≤ 65536) :
    Calls Tryd.prog 14 #[.slice A n c, .slice B m d] w fun e w' => e = .returned (.bool (sameB xs ys)) ∧ ∃ q, w' = w.drewN q := by
  have H := Lib.hid (equal_any A B n c m d xs ys w hx hy hn hm)
  clear hx hy
  go_enter Tryd.func14, Tryd.ntmps14
  go_wp2_with (go_at_call 30; refine H.out.mono ?_; rintro e w' ⟨rfl, q, rfl⟩)
  go_ret
  exact ⟨rfl, q, rfl⟩

end Go.Proofs.YtboffgmaohcpfaaDoor
