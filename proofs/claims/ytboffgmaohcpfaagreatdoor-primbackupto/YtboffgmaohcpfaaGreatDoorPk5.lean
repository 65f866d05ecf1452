import Derived.Test.YtboffgmaohcpfaaGreatDoorChecked
import Derived.Test.YtboffgmaohcpfaaGreatDoorPk4
import Derived.Test.YtboffgmaohcpfaaGreatDoorPk1
import Derived.Test.YtboffgmaohcpfaaGreatDoorPk3
import Derived.Deep.LoopGhost
import Derived.Lib.Hide
import Derived.Deep.QuietTactic
import Derived.BigQuiet

/-
  Prims in memory: a structure of six cells, two of them rows of lines.
-/
namespace Go.Proofs.YtboffgmaohcpfaaGreatDoor
open Go.RowKit

theorem list_ne {s : ByteArray} (h : s ≠ ByteArray.empty) : ¬ s.toList = [] := by
  rw [ByteArray.toList_eq]
  intro e
  exact h (ByteArray.ext (Array.ext' e))

/-- A prim, and where its rows stand. -/
structure PrC where
  v : Pr
  A : Option Addr
  n : Nat
  c : Nat
  B : Option Addr
  m : Nat
  d : Nat

/-- The cells of a prim, and its value. -/
def prL (x : PrC) : List Value := [.int .i64 x.v.kind, .string x.v.name, .string x.v.to, .int .i64 x.v.place, .slice x.A x.n x.c, .slice x.B x.m x.d]
def prV (x : PrC) : Value := .agg #[.int .i64 x.v.kind, .string x.v.name, .string x.v.to, .int .i64 x.v.place, .slice x.A x.n x.c, .slice x.B x.m x.d]

/-- The rows stand there, and nothing is too great. -/
structure PrOk (w : World) (x : PrC) : Prop where
  old : Row w x.A x.n x.v.old
  new : Row w x.B x.m x.v.new
  oroom : x.n ≤ x.c
  nroom : x.m ≤ x.d
  omost : x.n ≤ 65536
  nmost : x.m ≤ 65536
  name : x.v.name.size ≤ maxLen
  to : x.v.to.size ≤ maxLen
  lo : -9223372036854775808 ≤ x.v.place
  hi : x.v.place ≤ 9223372036854775807
  olds : ∀ s ∈ x.v.old, s.size ≤ maxLen
  news : ∀ s ∈ x.v.new, s.size ≤ maxLen
theorem PrOk.later {w w' : World} {x : PrC} (h : PrOk w x) (hl : Later w w') : PrOk w' x :=
  ⟨h.old.later hl, h.new.later hl, h.oroom, h.nroom, h.omost, h.nmost, h.name, h.to, h.lo, h.hi, h.olds, h.news⟩

/-- A prim that stands in new memory: its rows are of its own, and apart. -/
structure IsPr (p : Pr) (w w' : World) (u v : Value) : Prop where
  old : Own 9 w w' u p.old
  new : Own 9 w w' v p.new
  apart : ∀ b, u.ownBlock = some b → v.ownBlock ≠ some b
def GivesPr (p : Pr) (w : World) (e : Ending) (w' : World) : Prop :=
  ∃ u v, e = .returned (.agg #[.int .i64 p.kind, .string p.name, .string p.to, .int .i64 p.place, u, v]) ∧ IsPr p w w' u v

theorem IsPr.swap {p q : Pr} {w w' : World} {u v : Value} (h : IsPr p w w' u v) (h1 : q.old = p.new) (h2 : q.new = p.old) : IsPr q w w' v u :=
  ⟨by rw [h1]; exact h.new, by rw [h2]; exact h.old, fun b h3 h4 => h.apart b h4 h3⟩
theorem IsPr.as {p q : Pr} {w w' : World} {u v : Value} (h : IsPr p w w' u v) (h1 : q.old = p.old) (h2 : q.new = p.new) : IsPr q w w' u v :=
  ⟨by rw [h1]; exact h.old, by rw [h2]; exact h.new, h.apart⟩
theorem IsPr.later {p : Pr} {w w' : World} {u v : Value} (h : IsPr p w w' u v) : Later w w' := h.old.later
theorem IsPr.on {p : Pr} {w w' w'' : World} {u v : Value} (h : IsPr p w w' u v) (hl : Later w' w'') : IsPr p w w'' u v := ⟨h.old.on hl, h.new.on hl, h.apart⟩
theorem IsPr.base {p : Pr} {w0 w w' : World} {u v : Value} (h : IsPr p w w' u v) (hl : Later w0 w) : IsPr p w0 w' u v := ⟨h.old.base hl, h.new.base hl, h.apart⟩
theorem Own.lt {e : TypeId} {w0 w : World} {v : Value} {ss : List ByteArray} (h : Own e w0 w v ss) {b : Nat} (hb : v.ownBlock = some b) : b < w.heap.size := (h.1.lt b hb).2
theorem IsPr.of {p : Pr} {w w1 w' : World} {u v : Value} (h1 : Own 9 w w1 u p.old) (h2 : Own 9 w1 w' v p.new) : IsPr p w w' u v :=
  ⟨h1.on h2.later, h2.base h1.later, fun b hu hv => by
    have a1 := h1.lt hu
    have a2 := h2.block b hv
    omega⟩
/-- The value of such a prim, and that its rows stand there. -/
theorem IsPr.ok {p : Pr} {w w' : World} {u v : Value} (h : IsPr p w w' u v) (h1 : p.old.length ≤ 65536) (h2 : p.new.length ≤ 65536) (h3 : p.name.size ≤ maxLen) (h4 : p.to.size ≤ maxLen) (h5 : -9223372036854775808 ≤ p.place) (h6 : p.place ≤ 9223372036854775807)
    (h7 : ∀ s ∈ p.old, s.size ≤ maxLen) (h8 : ∀ s ∈ p.new, s.size ≤ maxLen) : ∃ x : PrC, x.v = p ∧ .agg #[.int .i64 p.kind, .string p.name, .string p.to, .int .i64 p.place, u, v] = prV x ∧ PrOk w' x := by
  obtain ⟨A, c, rfl, hc, hr⟩ := h.old.row
  obtain ⟨B, d, rfl, hd, hs⟩ := h.new.row
  exact ⟨⟨p, A, _, c, B, _, d⟩, rfl, rfl, hr, hs, hc, hd, h1, h2, h3, h4, h5, h6, h7, h8⟩

/-- What a prim weighs. -/
def weightP (p : Pr) : Nat := p.name.size + p.to.size + p.old.length + p.new.length + (p.old.map ByteArray.size).sum + (p.new.map ByteArray.size).sum
def weightPs (xs : List PrC) : Nat := (xs.map fun x => weightP x.v).sum

theorem sizesP_mem {l : List ByteArray} {s : ByteArray} (h : s ∈ l) : s.size ≤ (l.map ByteArray.size).sum := by
  induction l with
  | nil => cases h
  | cons x l ih =>
    simp only [List.map_cons, List.sum_cons]
    rcases List.mem_cons.1 h with rfl | h
    · omega
    · have := ih h; omega

/-- What is asked of a prim that comes in. -/
structure CameP (w : World) (x : PrC) : Prop where
  old : Row w x.A x.n x.v.old
  new : Row w x.B x.m x.v.new
  oroom : x.n ≤ x.c
  nroom : x.m ≤ x.d
  lo : -9223372036854775808 ≤ x.v.place
  hi : x.v.place ≤ 9223372036854775807
  weigh : weightP x.v ≤ 1048576
theorem CameP.later {w w' : World} {x : PrC} (h : CameP w x) (hl : Later w w') : CameP w' x := ⟨h.old.later hl, h.new.later hl, h.oroom, h.nroom, h.lo, h.hi, h.weigh⟩
theorem CameP.ok {w : World} {x : PrC} (h : CameP w x) (hw : weightP x.v ≤ 60000) : PrOk w x := by
  have h1 := h.old.len
  have h2 := h.new.len
  unfold weightP at hw
  refine ⟨h.old, h.new, h.oroom, h.nroom, by omega, by omega, by simp only [maxLen]; omega, by simp only [maxLen]; omega, h.lo, h.hi, fun s hs => ?_, fun s hs => ?_⟩
  · have := sizesP_mem hs; simp only [maxLen]; omega
  · have := sizesP_mem hs; simp only [maxLen]; omega

/-- The slice reads as these prims. -/
structure Prims (w : World) (A : Option Addr) (n : Nat) (xs : List PrC) : Prop where
  row : RowK 6 w A n (xs.map prL)
  each : ∀ x ∈ xs, CameP w x
section
variable {w w' : World} {A : Option Addr} {n : Nat} {xs : List PrC}
theorem Prims.len (h : Prims w A n xs) : xs.length = n := by have := h.row.len; simpa using this
theorem Prims.later (h : Prims w A n xs) (hl : Later w w') : Prims w' A n xs := ⟨h.row.later hl, fun x hx => (h.each x hx).later hl⟩
theorem Prims.get (h : Prims w A n xs) {j : Nat} (hj : j < n) : ∃ b o x, A = some ⟨b, o, .none⟩ ∧ xs[j]? = some x ∧ w.cell? ⟨b, o + j * 6, .none⟩ = some (.int .i64 x.v.kind) ∧ w.cell? ⟨b, o + j * 6 + 1, .none⟩ = some (.string x.v.name) ∧ w.cell? ⟨b, o + j * 6 + 2, .none⟩ = some (.string x.v.to) ∧ w.cell? ⟨b, o + j * 6 + 3, .none⟩ = some (.int .i64 x.v.place) ∧ w.cell? ⟨b, o + j * 6 + 4, .none⟩ = some (.slice x.A x.n x.c) ∧ w.cell? ⟨b, o + j * 6 + 5, .none⟩ = some (.slice x.B x.m x.d) := by
  obtain ⟨b, o, e, cs, hcs, _, hc⟩ := h.row.get hj
  have hl : j < xs.length := by rw [h.len]; exact hj
  have hz := List.getElem?_eq_getElem hl
  simp only [List.getElem?_map, hz, Option.map_some, Option.some.injEq] at hcs
  subst hcs
  exact ⟨b, o, xs[j], e, hz, hc 0 _ rfl, hc 1 _ rfl, hc 2 _ rfl, hc 3 _ rfl, hc 4 _ rfl, hc 5 _ rfl⟩
end
theorem weightPs_take {xs : List PrC} {k : Nat} {x : PrC} (h : xs[k]? = some x) : weightPs (xs.take (k + 1)) = weightPs (xs.take k) + weightP x.v := by
  obtain ⟨hk, rfl⟩ := List.getElem?_eq_some_iff.1 h
  unfold weightPs
  rw [List.take_succ_eq_append_getElem hk, List.map_append, List.sum_append]
  simp
theorem weightPs_take_le (xs : List PrC) (k : Nat) : weightPs (xs.take k) ≤ weightPs xs := by
  have : weightPs xs = weightPs (xs.take k) + weightPs (xs.drop k) := by
    unfold weightPs
    rw [← List.sum_append, ← List.map_append, List.take_append_drop]
  omega
theorem weightPs_mem {xs : List PrC} {x : PrC} (h : x ∈ xs) : weightP x.v ≤ weightPs xs := by
  induction xs with
  | nil => cases h
  | cons y xs ih =>
    simp only [weightPs, List.map_cons, List.sum_cons] at ih ⊢
    rcases List.mem_cons.1 h with rfl | h
    · omega
    · have := ih h; omega

end Go.Proofs.YtboffgmaohcpfaaGreatDoor

/-
  Prims that come in: from what is read as data to what the laws ask.
-/
namespace Go.Proofs.YtboffgmaohcpfaaGreatDoor
open Go.ChangeShapes Go.WideShapes Go.ChangeAt Go.RowKit Go.Deep

def primFields : Array Field := #[{ name := "Kind", type := 3, offset := 0, embedded := false, tag := "", pkgPath := "", byteOffset := 0 }, { name := "Name", type := 9, offset := 1, embedded := false, tag := "", pkgPath := "", byteOffset := 8 }, { name := "To", type := 9, offset := 2, embedded := false, tag := "", pkgPath := "", byteOffset := 24 }, { name := "At", type := 3, offset := 3, embedded := false, tag := "", pkgPath := "", byteOffset := 40 }, { name := "Old", type := 32, offset := 4, embedded := false, tag := "", pkgPath := "", byteOffset := 48 }, { name := "New", type := 32, offset := 5, embedded := false, tag := "", pkgPath := "", byteOffset := 72 }]
theorem Tryz.primOne : oneCellFields Tryz.prog primFields = true := by kernel_rfl
theorem Tryz.primCells6 : Tryz.prog.cellsOf 34 = primFields.size := by kernel_rfl

/-- Six fields make a prim. -/
theorem prim_of {H : Type} {enc : TypeId × Value → H} {W : World} {fuel : Nat} {ys : List (DataW H × List MemPlace)} {Q : Nat → Value → Prop} (hyl : ys.length = 6)
    (hfld : ∀ (j : Nat) (f : Field), primFields[j]? = some f → ∃ (v : Value) (y : DataW H × List MemPlace), Q j v ∧ ys[j]? = some y ∧ DataW.trod enc Tryz.prog W 0 (fun _ => true) true fuel f.type [v] = some y) :
    ∃ x : PrC, (∀ (j : Nat) u, (prL x)[j]? = some u → Q j u) ∧ Row W x.A x.n x.v.old ∧ Row W x.B x.m x.v.new ∧ x.n ≤ x.c ∧ x.m ≤ x.d ∧ -9223372036854775808 ≤ x.v.place ∧ x.v.place ≤ 9223372036854775807 ∧ weightP x.v + 1 ≤ Rows.uptoBulk (.agg (ys.map (·.1))) := by
  obtain ⟨v0, y0, c0, e0, t0⟩ := hfld 0 _ rfl
  obtain ⟨v1, y1, c1, e1, t1⟩ := hfld 1 _ rfl
  obtain ⟨v2, y2, c2, e2, t2⟩ := hfld 2 _ rfl
  obtain ⟨v3, y3, c3, e3, t3⟩ := hfld 3 _ rfl
  obtain ⟨v4, y4, c4, e4, t4⟩ := hfld 4 _ rfl
  obtain ⟨v5, y5, c5, e5, t5⟩ := hfld 5 _ rfl
  obtain ⟨kd, hk, _, _⟩ := DataW.trod_int Tryz.underlying3 t0
  obtain ⟨s1, hs1, hy1, _⟩ := DataW.trod_string Tryz.underlying9 t1
  obtain ⟨s2, hs2, hy2, _⟩ := DataW.trod_string Tryz.underlying9 t2
  obtain ⟨pl, hp, _, hwf⟩ := DataW.trod_int Tryz.underlying3 t3
  obtain ⟨Al, nl, cl, l, hv4, hnc, hrow, hwl⟩ := came_lines t4
  obtain ⟨Bl, ml, dl, r, hv5, hmd, hrow2, hwr⟩ := came_lines t5
  simp only [List.cons.injEq, and_true] at hk hs1 hs2 hp
  subst hk hs1 hs2 hp hv4 hv5
  have hwf' : -9223372036854775808 ≤ pl ∧ pl ≤ 9223372036854775807 := by
    simp only [Lit.wf, Bool.and_eq_true, decide_eq_true_eq] at hwf
    exact hwf
  refine ⟨⟨⟨kd, s1, s2, pl, l, r⟩, Al, nl, cl, Bl, ml, dl⟩, fun j u hj => ?_, hrow, hrow2, hnc, hmd, hwf'.1, hwf'.2, ?_⟩
  · simp only [prL] at hj
    match j, hj with
    | 0, hj => simp at hj; subst hj; exact c0
    | 1, hj => simp at hj; subst hj; exact c1
    | 2, hj => simp at hj; subst hj; exact c2
    | 3, hj => simp at hj; subst hj; exact c3
    | 4, hj => simp at hj; subst hj; exact c4
    | 5, hj => simp at hj; subst hj; exact c5
    | j + 6, hj => simp at hj
  · match ys, hyl, e0, e1, e2, e3, e4, e5 with
    | [z0, z1, z2, z3, z4, z5], _, e0, e1, e2, e3, e4, e5 =>
      simp only [List.getElem?_cons_zero, List.getElem?_cons_succ, Option.some.injEq] at e0 e1 e2 e3 e4 e5
      subst e0 e1 e2 e3 e4 e5
      simp only [List.map_cons, List.map_nil, Rows.uptoBulk, Rows.uptoBulkAll]
      rw [hy1, hy2]
      simp only [Rows.uptoBulk, weightP]
      have l1 : s1.data.toList.length = s1.size := by rw [Array.length_toList]; rfl
      have l2 : s2.data.toList.length = s2.size := by rw [Array.length_toList]; rfl
      omega

/-- A prim that came in. -/
theorem came_prim {H : Type} {enc : TypeId × Value → H} {W : World} {cs : Array Value} {fuel : Nat} {x : DataW H × List MemPlace}
    (hf : DataW.trod enc Tryz.prog W 0 (fun _ => true) true fuel 34 (Value.agg cs).cells.toList = some x) (hb : Rows.uptoBulk x.1 ≤ 1048576) : ∃ y, Value.agg cs = prV y ∧ CameP W y := by
  obtain ⟨ys, n', _, hy, hcl, hyl, hfl⟩ := DataW.trod_struct (fs := primFields) Tryz.underlying34 hf
  rw [Tryz.primCells6] at hcl
  have hsz : primFields.size = 6 := rfl
  rw [hsz] at hcl hyl
  have hcs : (Value.agg cs).cells.toList = cs.toList := rfl
  rw [hcs] at hcl hfl
  obtain ⟨y, h1, h2, h3, h4, h5, h6, h7, h8⟩ := prim_of (W := W) (enc := enc) (fuel := n') (Q := fun j v => cs.toList[j]? = some v) hyl fun j f hj => by
    obtain ⟨ho, hk⟩ := hone_of Tryz.primOne j f hj
    have hjl : j < 6 := (Array.getElem?_eq_some_iff.1 hj).1
    have hv : cs.toList[j]? = some (cs.toList[j]'(by omega)) := List.getElem?_eq_getElem (by omega)
    have h1 := hfl j f hj
    rw [ho, hk] at h1
    have hone' : (cs.toList.drop j).take 1 = [cs.toList[j]'(by omega)] := by
      rw [List.drop_eq_getElem_cons (by omega)]
      rfl
    rw [hone'] at h1
    have hys : ys[j]? = some (ys[j]'(by omega)) := List.getElem?_eq_getElem (by omega)
    exact ⟨_, _, hv, hys, h1.trans hys⟩
  subst hy
  dsimp only at hb
  refine ⟨y, ?_, h2, h3, h4, h5, h6, h7, by omega⟩
  have : cs.toList = prL y := by
    refine List.ext_getElem? fun j => ?_
    by_cases hj : j < 6
    · have hjl : (prL y)[j]? = some ((prL y)[j]'hj) := List.getElem?_eq_getElem hj
      rw [hjl, h1 j _ hjl]
    · rw [List.getElem?_eq_none (by omega), List.getElem?_eq_none (by show 6 ≤ j; omega)]
  unfold prV
  congr 1
  exact Array.ext' this

theorem bulkP_range {H : Type} (D : Nat → DataW H) : ∀ (n : Nat) (xs : List PrC), xs.length = n → (∀ (i : Nat) x, xs[i]? = some x → weightP x.v + 1 ≤ Rows.uptoBulk (D i)) → weightPs xs + n ≤ Rows.uptoBulkAll ((List.range n).map D)
  | 0, xs, h, _ => by
    have : xs = [] := List.eq_nil_of_length_eq_zero h
    subst this; simp [weightPs]
  | n + 1, xs, h, hw => by
    have key : ∀ (l r : List (DataW H)), Rows.uptoBulkAll (l ++ r) = Rows.uptoBulkAll l + Rows.uptoBulkAll r := fun l r => by
      induction l with
      | nil => simp [Rows.uptoBulkAll]
      | cons x l ih => simp only [List.cons_append, Rows.uptoBulkAll, ih]; omega
    have ih := bulkP_range D n (xs.take n) (by rw [List.length_take]; omega) (fun i x hx => hw i x (by
      have hi : i < n := by have := (List.getElem?_eq_some_iff.1 hx).1; rw [List.length_take] at this; omega
      rwa [List.getElem?_take_of_lt hi] at hx))
    have hz : xs[n]? = some (xs[n]'(by omega)) := List.getElem?_eq_getElem (by omega)
    have h1 := hw n _ hz
    have h2 := weightPs_take hz
    rw [show xs.take (n + 1) = xs from List.take_of_length_le (by omega)] at h2
    rw [List.range_succ, List.map_append, key]
    simp only [List.map_cons, List.map_nil, Rows.uptoBulkAll]
    omega

end Go.Proofs.YtboffgmaohcpfaaGreatDoor

/-
  Rows of prims that come in.
-/
namespace Go.Proofs.YtboffgmaohcpfaaGreatDoor
open Go.ChangeShapes Go.WideShapes Go.ChangeAt Go.RowKit Go.Deep

/-- What is asked of prims that come in. -/
structure CamePs (w : World) (A : Option Addr) (n : Nat) (xs : List PrC) : Prop where
  prims : Prims w A n xs
  many : n ≤ 1048576
  weigh : weightPs xs ≤ 1048576

/-- Prims that came in, nil or not. -/
theorem came_prims {H : Type} {enc : TypeId × Value → H} {W : World} {v : Value} {fuel : Nat} {x : DataW H × List MemPlace}
    (hf : DataW.trod enc Tryz.prog W 0 (fun _ => true) true fuel 23 [v] = some x) (hb : Rows.uptoBulk x.1 ≤ 1048576) : ∃ A n c xs, v = .slice A n c ∧ CamePs W A n xs := by
  rcases open_slice_fields (fs := primFields) Tryz.underlying23 Tryz.underlying34 Tryz.primOne Tryz.primCells6 hf with ⟨hcs, hx⟩ | ⟨a, len, cap, m, D, Pl, hcs, hl, hm, hx, hi⟩
  · simp at hcs
    exact ⟨none, 0, 0, [], hcs, ⟨RowK.none, (fun o ho => by cases ho)⟩, Nat.zero_le _, by simp [weightPs]⟩
  · simp only [if_true] at hm
    have hsz : primFields.size = 6 := rfl
    have hbk : Rows.uptoBulkAll ((List.range len).map D) ≤ 1048576 := by
      subst hx
      simp only [Rows.uptoBulk] at hb
      omega
    have hel : ∀ i, i < len → ∃ x : PrC, (∀ (j : Nat) u, (prL x)[j]? = some u → W.cell? (a.add (i * 6 + j)) = some u) ∧ Row W x.A x.n x.v.old ∧ Row W x.B x.m x.v.new ∧ x.n ≤ x.c ∧ x.m ≤ x.d ∧ -9223372036854775808 ≤ x.v.place ∧ x.v.place ≤ 9223372036854775807 ∧ weightP x.v + 1 ≤ Rows.uptoBulk (D i) := fun i hil => by
      obtain ⟨ys, n, hD, hyl, hfld⟩ := hi i (by omega)
      rw [hsz] at hyl hfld
      rw [hD]
      exact prim_of hyl hfld
    obtain ⟨xs, hol, hoq⟩ := list_of len hel
    have hwt := bulkP_range D len xs hol fun i o ho => (hoq i o ho).2.2.2.2.2.2.2
    simp at hcs
    have hmem : ∀ x ∈ xs, CameP W x := fun x hx => by
      obtain ⟨i, hio⟩ := List.getElem?_of_mem hx
      obtain ⟨_, h2, h3, h4, h5, h6, h7, _⟩ := hoq i x hio
      have := weightPs_mem hx
      exact ⟨h2, h3, h4, h5, h6, h7, by omega⟩
    refine ⟨some a, len, cap, xs, hcs, ⟨⟨by simp [hol], fun cs hcs => ?_, fun h0 => ?_⟩, hmem⟩, by omega, by omega⟩
    · obtain ⟨o, _, rfl⟩ := List.mem_map.1 hcs
      rfl
    · obtain ⟨b, off, spot⟩ := a
      have h00 := (hoq 0 (xs[0]'(by omega)) (List.getElem?_eq_getElem (by omega))).1 0 _ rfl
      have hspot : spot = none := by simpa [Addr.add] using World.cell?_spot h00
      subst hspot
      refine ⟨b, off, rfl, fun j i cs u hj hi => ?_⟩
      rw [List.getElem?_map] at hj
      obtain ⟨o, ho, rfl⟩ := Option.map_eq_some_iff.1 hj
      have := (hoq j o ho).1 i u hi
      rw [plain_add, ← Nat.add_assoc] at this
      exact this

end Go.Proofs.YtboffgmaohcpfaaGreatDoor

/-
  The document's trees in memory: rows of files, each a name and a row of lines; Get.
-/
namespace Go.Proofs.YtboffgmaohcpfaaGreatDoor
open Go.RowKit Go.Maps

def cellsF (z : Fl Held) : List (List Value) := z.map fun f => [.string f.1, f.2.1]
theorem cellsF_length (z : Fl Held) : (cellsF z).length = z.length := by simp [cellsF]

/-- The slice reads as these files. -/
structure RefRow (w : World) (A : Option Addr) (n : Nat) (z : Fl Held) : Prop where
  row : RowK 2 w A n (cellsF z)
  reads : ∀ f ∈ z, Reads w f.2.1 f.2.2

/-- The value is a tree of the document's. -/
def RefAt (w : World) (v : Value) (t : Tr) : Prop := ∃ A n c z, v = .slice A n c ∧ n ≤ c ∧ RefRow w A n z ∧ mapT (·.2) z = t

section
variable {w w' : World} {A : Option Addr} {n : Nat} {z : Fl Held} {v : Value} {t : Tr}
theorem RefRow.len (h : RefRow w A n z) : z.length = n := by rw [← cellsF_length]; exact h.row.len
theorem RefRow.later (h : RefRow w A n z) (hl : Later w w') : RefRow w' A n z := ⟨h.row.later hl, fun f hf => (h.reads f hf).later hl⟩
theorem RefAt.later (h : RefAt w v t) (hl : Later w w') : RefAt w' v t := by
  obtain ⟨A, n, c, z, e, hc, hr, ht⟩ := h; exact ⟨A, n, c, z, e, hc, hr.later hl, ht⟩
theorem RefRow.none : RefRow w A 0 [] := ⟨RowK.none, fun f hf => by cases hf⟩
theorem RefAt.nil (w : World) : RefAt w (.slice none 0 0) [] := ⟨Option.none, 0, 0, [], rfl, Nat.le_refl _, RefRow.none, rfl⟩
theorem RowK.turned {k B : Nat} {css : List (List Value)} (h : RowK k w A n css) (hg : Turned B w w') {es : Array MapEntry} {c : Nat} (hm : w.heap[B]? = some (.map es c)) : RowK k w' A n css :=
  ⟨h.1, h.2.1, fun hn => by
    obtain ⟨b, o, e, hc⟩ := h.2.2 hn
    exact ⟨b, o, e, fun j i cs v h1 h2 => hg.cell (hc j i cs v h1 h2) (not_map hm (hc j i cs v h1 h2))⟩⟩
/-- A map has turned: the document's tree stands. -/
theorem RefAt.turned {B : Nat} (h : RefAt w v t) (hg : Turned B w w') {es : Array MapEntry} {c : Nat} (hm : w.heap[B]? = some (.map es c)) : RefAt w' v t := by
  obtain ⟨A, n, c, z, e, hc, hr, ht⟩ := h
  exact ⟨A, n, c, z, e, hc, ⟨hr.row.turned hg hm, fun f hf => (hr.reads f hf).turned hg hm⟩, ht⟩
theorem RefRow.get (h : RefRow w A n z) {j : Nat} (hj : j < n) : ∃ b o f, A = some ⟨b, o, .none⟩ ∧ z[j]? = some f ∧ w.cell? ⟨b, o + j * 2, .none⟩ = some (.string f.1) ∧ w.cell? ⟨b, o + j * 2 + 1, .none⟩ = some f.2.1 := by
  obtain ⟨b, o, e, cs, hcs, _, hc⟩ := h.row.get hj
  have hl : j < z.length := by rw [h.len]; exact hj
  have hz := List.getElem?_eq_getElem hl
  simp only [cellsF, List.getElem?_map, hz, Option.map_some, Option.some.injEq] at hcs
  subst hcs
  exact ⟨b, o, z[j], e, hz, hc 0 _ rfl, hc 1 _ rfl⟩
end

section
variable {α : Type}
theorem get_at {t : Fl α} {n : ByteArray} {k : Nat} {f : ByteArray × α} (hk : t[k]? = some f) (hf : f.1 = n) (hno : ∀ (j : Nat) g, j < k → t[j]? = some g → g.1 ≠ n) : getT t n = some f.2 := by
  unfold getT
  have : t.find? (fun f => decide (f.1 = n)) = some f := by
    obtain ⟨hlt, rfl⟩ := List.getElem?_eq_some_iff.1 hk
    rw [List.find?_eq_some_iff_getElem]
    refine ⟨by simpa using hf, k, hlt, rfl, fun j hj => ?_⟩
    have := hno j _ hj (List.getElem?_eq_getElem (by omega))
    simpa using this
  rw [this]; rfl
theorem get_none_at {t : Fl α} {n : ByteArray} (hno : ∀ (j : Nat) g, t[j]? = some g → g.1 ≠ n) : getT t n = none := getT_none.2 fun f hf => by
  obtain ⟨j, hj⟩ := List.getElem?_of_mem hf
  exact hno j f hj
end

/-- What Get tells of a row of files. -/
def got (o : Option Held) : Value := match o with | some x => x.1 | none => .slice none 0 0

set_option maxHeartbeats 400000 in
theorem refGet_any (A : Option Addr) (n c : Nat) (z : Fl Held) (nm : ByteArray) (w : World) (hx : RefRow w A n z) (hn : n ≤ 65536) :
    Calls Tryz.prog 24 #[.slice A n c, .string nm] w fun e w' => e = .returned (.tuple #[got (getT z nm), .bool (hasT z nm)]) ∧ w = w' := by
  have HX := Lib.hid hx; clear hx
  go_enter Tryz.func24, Tryz.ntmps24
  go_wp2
  go_loop [6] (fun i => ∃ k : Nat, k ≤ n ∧ i = .int .i64 k ∧ Hid (∀ (j : Nat) g, j < k → z[j]? = some g → g.1 ≠ nm)) (fun i => n - (intOf i).toNat)
  case atStart => exact ⟨0, Nat.zero_le _, rfl, fun j g hj => absurd hj (Nat.not_lt_zero _)⟩
  case round =>
    obtain ⟨k, hk, rfl, hno⟩ := hrel
    by_cases hlt : k < n
    · obtain ⟨b, o, f, rfl, hz, g1, g2⟩ := HX.out.get hlt
      by_cases he : f.1 = nm
      · have hg := get_at hz he hno.out
        have E : Hid (got (getT z nm) = f.2.1 ∧ hasT z nm = true) := ⟨by rw [hg]; rfl, getT_has hg⟩
        rw [he] at g1
        generalize f.2.1 = v at g2 E
        clear hg hno hz he
        go_wp2
        go_ret2
        exact ⟨by rw [E.out.1, E.out.2]; rfl, rfl⟩
      · have hb := text_ne he
        have HN : Hid (∀ (j : Nat) g, j < k + 1 → z[j]? = some g → g.1 ≠ nm) := fun j g hj hg => by
          by_cases e : j = k
          · subst e; rw [hz] at hg; cases hg; exact he
          · exact hno.out j g (by omega) hg
        generalize f.1 = fn at g1 hb
        clear hno hz he
        go_wp2
        exact ⟨⟨k + 1, by omega, by go_num, HN⟩, by simp [intOf]; omega⟩
    · have hg : getT z nm = none := get_none_at fun j g hj => hno.out j g (by have := (List.getElem?_eq_some_iff.1 hj).1; rw [HX.out.len] at this; omega) hj
      have E : Hid (got (getT z nm) = .slice none 0 0 ∧ hasT z nm = false) := ⟨by rw [hg]; rfl, by unfold hasT; rw [hg]; rfl⟩
      clear hg hno
      go_wp2
      go_ret2
      exact ⟨by rw [E.out.1, E.out.2]; rfl, rfl⟩

end Go.Proofs.YtboffgmaohcpfaaGreatDoor

/-
  What the document's Without and With come to, as calls.
-/
namespace Go.Proofs.YtboffgmaohcpfaaGreatDoor
open Go.RowKit Go.Maps

theorem RowK.two (w : World) (a b : Value) (t : TypeId) : RowK 2 (w.alloc (.cells #[a, b] t)) (some ⟨w.heap.size, 0, .none⟩) 1 [[a, b]] := RowK.one w [a, b] t

theorem Tryz.fileInfo : (Tryz.prog.info? 66).map (fun i => (i.zero, i.size, i.bytes)) = some (some (.agg #[.string ByteArray.empty, .slice none 0 0]), 2, 40) := by kernel_rfl

/-- A row of files of new memory. -/
def GivesRef (z : Fl Held) (w : World) (e : Ending) (w' : World) : Prop := ∃ A n c, e = .returned (.slice A n c) ∧ n ≤ c ∧ RefRow w' A n z ∧ Later w w'

theorem file_one (fn : ByteArray) (A : Option Addr) (n c : Nat) : ∀ cs ∈ [[Value.string fn, Value.slice A n c]], ∀ u ∈ cs, u.oneCell' = true := by
  intro cs hcs u hu
  simp at hcs; subst hcs
  simp at hu
  rcases hu with rfl | rfl <;> rfl

theorem filter_next {α : Type} {z : List α} {k : Nat} {f : α} (h : z[k]? = some f) (p : α → Bool) : (z.take (k + 1)).filter p = (z.take k).filter p ++ (if p f then [f] else []) := by
  obtain ⟨hk, rfl⟩ := List.getElem?_eq_some_iff.1 h
  rw [List.take_succ_eq_append_getElem hk, List.filter_append, List.filter_cons, List.filter_nil]

theorem gives_own {z : Fl Held} {w wr : World} {v : Value} (h : OwnK 66 2 w wr v (cellsF z)) (hr : ∀ f ∈ z, Reads wr f.2.1 f.2.2) : GivesRef z w (.returned v) wr := by
  obtain ⟨A, c, hv, hcc, hrow⟩ := h.row
  rw [cellsF_length] at hv hcc hrow
  exact ⟨A, _, c, by rw [hv], hcc, ⟨hrow, hr⟩, h.later⟩

set_option maxHeartbeats 400000 in
theorem refWithout_any (A : Option Addr) (n c : Nat) (z : Fl Held) (nm : ByteArray) (w : World) (hx : RefRow w A n z) (hn : n ≤ 65536) :
    Calls Tryz.prog 27 #[.slice A n c, .string nm] w (GivesRef (withoutT z nm) w) := by
  have HX := Lib.hid hx; clear hx
  obtain ⟨i0, hi, hz0, hz1, hz2⟩ := info_parts Tryz.fileInfo
  go_enter Tryz.func27, Tryz.ntmps27
  go_wp2
  go_loopg [5, 6] (n + 1) (fun g s5 s6 wr => ∃ (k : Nat) (v : Value), k ≤ n ∧ n - k ≤ g ∧ s6 = .int .i64 k ∧ s5 = v ∧ Hid (OwnK 66 2 w wr v (cellsF ((z.take k).filter fun f => decide (f.1 ≠ nm)))))
  case atStart => exact ⟨0, _, Nat.zero_le _, by omega, rfl, rfl, OwnK.nil (Later.refl w)⟩
  case round =>
    obtain ⟨k, v, hk, hg, rfl, rfl, ho⟩ := hrel
    by_cases hlt : k < n
    · obtain ⟨b, o, f, rfl, hz, g1, g2⟩ := (HX.out.later ho.out.later).get hlt
      obtain ⟨A2, n2, c2, hv2, -, -⟩ := HX.out.reads f (List.mem_of_getElem? hz)
      have hstep := filter_next hz (fun f => decide (f.1 ≠ nm))
      have hlen : (cellsF ((z.take k).filter fun f => decide (f.1 ≠ nm))).length ≤ 65536 := by
        rw [cellsF_length]
        have h1 := List.length_filter_le (fun f : ByteArray × Held => decide (f.1 ≠ nm)) (z.take k)
        rw [List.length_take] at h1; omega
      by_cases he : f.1 = nm
      · have HE : Hid ((z.take (k + 1)).filter (fun f => decide (f.1 ≠ nm)) = (z.take k).filter fun f => decide (f.1 ≠ nm)) := by rw [hstep]; simp [Hid, he]
        rw [he] at g1
        clear hstep hz he hv2 g2
        go_wp2
        go_roundg (n - (k + 1))
        case measure => omega
        case rel => exact ⟨k + 1, _, by omega, Nat.le_refl _, by go_num, rfl, by rw [HE.out]; exact ho.out⟩
      · have HE : Hid ((z.take (k + 1)).filter (fun f => decide (f.1 ≠ nm)) = (z.take k).filter (fun f => decide (f.1 ≠ nm)) ++ [f]) := by rw [hstep]; simp [Hid, he]
        have hb := text_ne he
        have HF : Hid (f = (f.1, (Value.slice A2 n2 c2, f.2.2))) := by show f = _; rw [← hv2]
        rw [hv2] at g2
        generalize f.1 = fn at g1 hb HF
        generalize f.2.2 = fl at HF
        clear hstep hz he hv2
        go_wp2_with (at_builtin; refine wpList_append_rowK rfl _ _ 29 rfl i0 _ 40 Tryz.underlying29 hi hz0 hz1 hz2 rfl (by decide) (ho.out.alloc _) rfl _ _ _ _ rfl (RowK.two _ _ _ _) (file_one _ _ _ _) (by omega) (by omega) ?_; intro v2 w2 hown2 hg2; have HO2 := Lib.hid hown2; clear hown2 hg2)
        go_roundg (n - (k + 1))
        case measure => omega
        case rel =>
          refine ⟨k + 1, _, by omega, Nat.le_refl _, by go_num, rfl, ?_⟩
          rw [HE.out, HF.out]
          have := HO2.out
          simpa [cellsF, Hid] using this
    · have e : z.take k = z := List.take_of_length_le (by rw [HX.out.len]; omega)
      rw [e] at ho
      clear e
      go_wp2
      go_ret
      exact gives_own ho.out fun f hf => (HX.out.reads f (List.mem_filter.1 hf).1).later ho.out.later

theorem run_gtr (a b : ByteArray) (w : World) : (binOp .gtr 9 (.string a) (.string b)).run Tryz.prog w = .ok (.bool (ltN b a)) w := by
  have e : (!(Op.bytesLess a.toList b.toList || a.toList == b.toList)) = ltN b a := by
    rw [less_is, text_beq]
    by_cases h : a = b
    · subst h; simp [ltN_irrefl]
    · rcases ltN_total h with k | k
      · simp [k, ltN_asymm k]
      · simp [k, ltN_asymm k, h]
  rw [← e]
  simp [binOp, Op.stringOp]

set_option maxRecDepth 100000 in
set_option maxHeartbeats 1000000 in
theorem refWith_any (A : Option Addr) (n c : Nat) (z : Fl Held) (nm : ByteArray) (Al : Option Addr) (nl cl : Nat) (l : List ByteArray) (w : World) (hx : RefRow w A n z) (hl : Reads w (.slice Al nl cl) l) (hn : n ≤ 65536) :
    Calls Tryz.prog 26 #[.slice A n c, .string nm, .slice Al nl cl] w (GivesRef (withT z nm (.slice Al nl cl, l)) w) := by
  have HX := Lib.hid hx; have HL := Lib.hid hl; clear hl
  obtain ⟨i0, hi, hz0, hz1, hz2⟩ := info_parts Tryz.fileInfo
  have HC := Lib.hid (refWithout_any A n c z nm w hx hn)
  have hzn := without_length z nm
  rw [hx.len] at hzn
  clear hx
  go_enter Tryz.func26, Tryz.ntmps26
  go_wp2_with fail
  refine HC.out.mono ?_
  rintro e w1 ⟨A1, n1, c1, rfl, hnc1, hr1, hl1⟩
  have hn1 : n1 ≤ 65536 := by rw [← hr1.len]; omega
  have HR1 := Lib.hid hr1; have HL1 := Lib.hid hl1; clear hr1 hl1
  generalize hu : withoutT z nm = u at HR1 hzn
  have HU := Lib.hid hu; clear hu
  go_wp2
  go_loopg [7, 9] (n1 + 1) (fun g s7 s9 wr => ∃ (k : Nat) (v : Value), k ≤ n1 ∧ n1 - k ≤ g ∧ s9 = .int .i64 k ∧ s7 = v ∧ Hid (OwnK 66 2 w1 wr v (cellsF ((u.take k).filter fun f => ltN f.1 nm))))
  case atStart => exact ⟨0, _, Nat.zero_le _, by omega, rfl, rfl, OwnK.nil (Later.refl w1)⟩
  case round =>
    obtain ⟨k, v, hk, hg, rfl, rfl, ho⟩ := hrel
    by_cases hlt : k < n1
    · obtain ⟨b, o, f, rfl, hz, g1, g2⟩ := (HR1.out.later ho.out.later).get hlt
      obtain ⟨A2, n2, c2, hv2, -, -⟩ := HR1.out.reads f (List.mem_of_getElem? hz)
      have hstep := filter_next hz (fun f => ltN f.1 nm)
      have hlen : ((u.take k).filter fun f => ltN f.1 nm).length ≤ 65536 := by
        have h1 := List.length_filter_le (fun f : ByteArray × Held => ltN f.1 nm) (u.take k)
        rw [List.length_take] at h1; omega
      by_cases he : ltN f.1 nm = true
      · have HE : Hid ((u.take (k + 1)).filter (fun f => ltN f.1 nm) = (u.take k).filter (fun f => ltN f.1 nm) ++ [f]) := by rw [hstep]; simp [Hid, he]
        have hb : Op.bytesLess f.1.toList nm.toList = true := by rw [less_is]; exact he
        have HF : Hid (f = (f.1, (Value.slice A2 n2 c2, f.2.2))) := by show f = _; rw [← hv2]
        rw [hv2] at g2
        generalize f.1 = fn at g1 hb HF
        generalize f.2.2 = fl at HF
        clear hstep hz he hv2
        go_wp2_with (at_builtin; refine wpList_append_rowK rfl _ _ 29 rfl i0 _ 40 Tryz.underlying29 hi hz0 hz1 hz2 rfl (by decide) (ho.out.alloc _) rfl _ _ _ _ rfl (RowK.two _ _ _ _) (file_one _ _ _ _) (by rw [cellsF_length]; omega) (by omega) ?_; intro v2 w2 hown2 hg2; have HO2 := Lib.hid hown2; clear hown2 hg2)
        go_roundg (n1 - (k + 1))
        case measure => omega
        case rel =>
          refine ⟨k + 1, _, by omega, Nat.le_refl _, by go_num, rfl, ?_⟩
          rw [HE.out, HF.out]
          have := HO2.out
          simpa [cellsF, Hid] using this
      · have he' : ltN f.1 nm = false := by simpa using he
        have HE : Hid ((u.take (k + 1)).filter (fun f => ltN f.1 nm) = (u.take k).filter fun f => ltN f.1 nm) := by rw [hstep]; simp [Hid, he']
        have hb : Op.bytesLess f.1.toList nm.toList = false := by rw [less_is]; exact he'
        generalize f.1 = fn at g1 hb
        clear hstep hz he he' hv2 g2
        go_wp2
        go_roundg (n1 - (k + 1))
        case measure => omega
        case rel => exact ⟨k + 1, _, by omega, Nat.le_refl _, by go_num, rfl, by rw [HE.out]; exact ho.out⟩
    · have e : u.take k = u := List.take_of_length_le (by rw [HR1.out.len]; omega)
      rw [e] at ho
      have hle1 : (u.filter fun f => ltN f.1 nm).length ≤ 65536 := by
        have h1 := List.length_filter_le (fun f : ByteArray × Held => ltN f.1 nm) u
        rw [HR1.out.len] at h1; omega
      clear e
      go_wp2_with (at_builtin; refine wpList_append_rowK rfl _ _ 29 rfl i0 _ 40 Tryz.underlying29 hi hz0 hz1 hz2 rfl (by decide) (ho.out.alloc _) rfl _ _ _ _ rfl (RowK.two _ _ _ _) (file_one _ _ _ _) (by rw [cellsF_length]; omega) (by omega) ?_; intro v3 w3 hown3 hg3; have HO3 := Lib.hid hown3; clear hown3 hg3)
      have hO4 : OwnK 66 2 w1 w3 v3 (cellsF ((u.filter fun f => ltN f.1 nm) ++ [(nm, (Value.slice Al nl cl, l))])) := by
        have := HO3.out
        simpa [cellsF] using this
      generalize hP : (u.filter fun f => ltN f.1 nm) ++ [(nm, (Value.slice Al nl cl, l))] = pre at hO4
      have HP := Lib.hid hP
      have hpl : pre.length ≤ 65537 := by rw [← hP, List.length_append, List.length_singleton]; omega
      have HO4 := Lib.hid hO4
      clear hO4 HO3 ho hle1 hP hg hlt hk
      go_loopg [7, 10] (n1 + 1) (fun g s7 s10 wr => ∃ (k : Nat) (v : Value), k ≤ n1 ∧ n1 - k ≤ g ∧ s10 = .int .i64 k ∧ s7 = v ∧ Hid (OwnK 66 2 w1 wr v (cellsF (pre ++ (u.take k).filter fun f => ltN nm f.1))))
      case atStart => exact ⟨0, _, Nat.zero_le _, by omega, rfl, rfl, by simpa [Hid] using HO4.out⟩
      case round =>
        obtain ⟨k, v, hk, hg, rfl, rfl, ho⟩ := hrel
        by_cases hlt : k < n1
        · obtain ⟨b, o, f, rfl, hz, g1, g2⟩ := (HR1.out.later ho.out.later).get hlt
          obtain ⟨A2, n2, c2, hv2, -, -⟩ := HR1.out.reads f (List.mem_of_getElem? hz)
          have hstep := filter_next hz (fun f => ltN nm f.1)
          have hlen : ((u.take k).filter fun f => ltN nm f.1).length ≤ 65536 := by
            have h1 := List.length_filter_le (fun f : ByteArray × Held => ltN nm f.1) (u.take k)
            rw [List.length_take] at h1; omega
          by_cases he : ltN nm f.1 = true
          · have HE : Hid ((u.take (k + 1)).filter (fun f => ltN nm f.1) = (u.take k).filter (fun f => ltN nm f.1) ++ [f]) := by rw [hstep]; simp [Hid, he]
            have hb : ∀ w, (binOp .gtr 9 (.string f.1) (.string nm)).run Tryz.prog w = .ok (.bool true) w := fun w => by rw [run_gtr, he]
            have HF : Hid (f = (f.1, (Value.slice A2 n2 c2, f.2.2))) := by show f = _; rw [← hv2]
            rw [hv2] at g2
            generalize f.1 = fn at g1 hb HF
            generalize f.2.2 = fl at HF
            clear hstep hz he hv2
            go_wp2_with (at_builtin; refine wpList_append_rowK rfl _ _ 29 rfl i0 _ 40 Tryz.underlying29 hi hz0 hz1 hz2 rfl (by decide) (ho.out.alloc _) rfl _ _ _ _ rfl (RowK.two _ _ _ _) (file_one _ _ _ _) (by rw [cellsF_length, List.length_append]; omega) (by omega) ?_; intro v2 w2 hown2 hg2; have HO2 := Lib.hid hown2; clear hown2 hg2)
            go_roundg (n1 - (k + 1))
            case measure => omega
            case rel =>
              refine ⟨k + 1, _, by omega, Nat.le_refl _, by go_num, rfl, ?_⟩
              rw [HE.out, HF.out]
              have := HO2.out
              simpa [cellsF, Hid] using this
          · have he' : ltN nm f.1 = false := by simpa using he
            have HE : Hid ((u.take (k + 1)).filter (fun f => ltN nm f.1) = (u.take k).filter fun f => ltN nm f.1) := by rw [hstep]; simp [Hid, he']
            have hb : ∀ w, (binOp .gtr 9 (.string f.1) (.string nm)).run Tryz.prog w = .ok (.bool false) w := fun w => by rw [run_gtr, he']
            generalize f.1 = fn at g1 hb
            clear hstep hz he he' hv2 g2
            go_wp2
            go_roundg (n1 - (k + 1))
            case measure => omega
            case rel => exact ⟨k + 1, _, by omega, Nat.le_refl _, by go_num, rfl, by rw [HE.out]; exact ho.out⟩
        · have e : u.take k = u := List.take_of_length_le (by rw [HR1.out.len]; omega)
          rw [e] at ho
          have HW : Hid (withT z nm (.slice Al nl cl, l) = pre ++ u.filter fun f => ltN nm f.1) := by
            show _ = _
            rw [← HP.out, ← HU.out]; simp [withT]
          clear e
          go_wp2
          go_ret
          rw [HW.out]
          obtain ⟨A9, n9, c9, h1, h2, h3, h4⟩ := gives_own ho.out fun f hf => by
            rcases List.mem_append.1 hf with hf | hf
            · rw [← HP.out] at hf
              rcases List.mem_append.1 hf with hf | hf
              · exact (HR1.out.reads f (List.mem_filter.1 hf).1).later ho.out.later
              · simp at hf; subst hf
                exact (HL.out.later HL1.out).later ho.out.later
            · exact (HR1.out.reads f (List.mem_filter.1 hf).1).later ho.out.later
          exact ⟨A9, n9, c9, h1, h2, h3, HL1.out.trans h4⟩

end Go.Proofs.YtboffgmaohcpfaaGreatDoor

/-
  What tree.Named and the document's Named come to, as calls.
-/
namespace Go.Proofs.YtboffgmaohcpfaaGreatDoor
open Go.RowKit

theorem nameByte_iff (c : UInt8) : nameByte c = true ↔ (97 ≤ (c.toNat : Int) ∧ (c.toNat : Int) ≤ 122) ∨ (48 ≤ (c.toNat : Int) ∧ (c.toNat : Int) ≤ 57) ∨ (c.toNat : Int) = 46 ∨ (c.toNat : Int) = 45 ∨ (c.toNat : Int) = 95 ∨ (c.toNat : Int) = 47 := by
  have e : ∀ d : UInt8, c = d ↔ (c.toNat : Int) = d.toNat := fun d => ⟨fun h => by rw [h], fun h => UInt8.toNat.inj (by omega)⟩
  simp only [nameByte, Bool.or_eq_true, Bool.and_eq_true, decide_eq_true_eq, UInt8.le_iff_toNat_le, beq_iff_eq, e]
  simp only [UInt8.reduceToNat]
  omega

set_option maxHeartbeats 400000 in
theorem fits_any (c : UInt8) (w : World) : Calls Tryz.prog 62 #[.int .u8 (c.toNat : Int)] w fun e w' => e = .returned (.bool (nameByte c)) ∧ w = w' := by
  have hc := nameByte_iff c
  generalize nameByte c = b at hc ⊢
  have HC := Lib.hid hc; clear hc
  have h0 : (0 : Int) ≤ (c.toNat : Int) := by omega
  have h1 : (c.toNat : Int) < 256 := by have := c.toNat_lt; omega
  generalize (c.toNat : Int) = n at *
  go_enter Tryz.func62, Tryz.ntmps62
  go_wp2
  all_goals
    go_ret
    refine ⟨ret_bool ?_, rfl⟩
    rw [Bool.eq_iff_iff, HC.out]
    simp_all
    try omega

theorem named_no {s : ByteArray} {k : Nat} {c : UInt8} (hk : (bytes s)[k]? = some c) (hc : nameByte c = false) : namedB s = false := by
  have : (bytes s).all nameByte = false := List.all_eq_false.2 ⟨c, List.mem_of_getElem? hk, by simp [hc]⟩
  simp [namedB, this]
theorem named_yes {s : ByteArray} (h : ∀ (k : Nat) (c : UInt8), (bytes s)[k]? = some c → nameByte c = true) : namedB s = (decide (1 ≤ s.size) && decide (s.size ≤ 24)) := by
  have : (bytes s).all nameByte = true := List.all_eq_true.2 fun c hc => by
    obtain ⟨k, hk⟩ := List.getElem?_of_mem hc
    exact h k c hk
  simp [namedB, this]

set_option maxHeartbeats 400000 in
theorem named_any (s : ByteArray) (w : World) (hs : s.size ≤ maxLen) : Calls Tryz.prog 41 #[.string s] w fun e w' => e = .returned (.bool (namedB s)) ∧ w = w' := by
  unfold maxLen at hs
  by_cases h1 : s.size < 1
  · have e : namedB s = false := by simp [namedB]; omega
    have E := Lib.hid e; clear e
    have hd : decide ((s.size : Int) < 1) = true := by simp; omega
    go_enter Tryz.func41, Tryz.ntmps41
    go_wp2
    go_ret
    exact ⟨ret_bool E.out.symm, rfl⟩
  · have hd : decide ((s.size : Int) < 1) = false := by simp; omega
    by_cases h2 : 24 < s.size
    · have e : namedB s = false := by simp [namedB]; omega
      have E := Lib.hid e; clear e
      have hd2 : decide ((24 : Int) < s.size) = true := by simp; omega
      go_enter Tryz.func41, Tryz.ntmps41
      go_wp2
      go_ret
      exact ⟨ret_bool E.out.symm, rfl⟩
    · have hd2 : decide ((24 : Int) < s.size) = false := by simp; omega
      go_enter Tryz.func41, Tryz.ntmps41
      go_wp2
      clear hd hd2
      go_loop [14] (fun i => ∃ k : Nat, k ≤ s.size ∧ i = .int .i64 k ∧ Hid (∀ (j : Nat) (c : UInt8), j < k → (bytes s)[j]? = some c → nameByte c = true)) (fun i => s.size - (intOf i).toNat)
      case atStart => exact ⟨0, Nat.zero_le _, rfl, fun j c hj => absurd hj (Nat.not_lt_zero _)⟩
      case round =>
        obtain ⟨k, hk, rfl, hno⟩ := hrel
        by_cases hlt : k < s.size
        · have hat : (bytes s)[k]? = some s[k] := byte_at hlt
          have hf := fits_any s[k] w
          cases hb : nameByte s[k]
          · rw [hb] at hf
            have e := named_no hat hb
            have E := Lib.hid e
            have HF := Lib.hid hf
            clear hf hb e hat hno
            go_wp2_with (go_at_call 62; refine HF.out.mono ?_; rintro e w' ⟨rfl, rfl⟩)
            go_ret
            exact ⟨ret_bool E.out.symm, rfl⟩
          · rw [hb] at hf
            have HA : Hid (∀ (j : Nat) (c : UInt8), j < k + 1 → (bytes s)[j]? = some c → nameByte c = true) := fun j c hj hjc => by
              by_cases e : j = k
              · subst e; rw [hat] at hjc; cases hjc; exact hb
              · exact hno.out j c (by omega) hjc
            have HF := Lib.hid hf
            clear hf hb hat hno
            go_wp2_with (go_at_call 62; refine HF.out.mono ?_; rintro e w' ⟨rfl, rfl⟩)
            exact ⟨⟨k + 1, by omega, by go_num, HA⟩, by simp [intOf]; omega⟩
        · have e : namedB s = true := by
            rw [named_yes fun j c hc => hno.out j c (by have := (List.getElem?_eq_some_iff.1 hc).1; rw [bytes_length] at this; omega) hc]
            simp; omega
          have E := Lib.hid e; clear e hno
          go_wp2
          go_ret
          exact ⟨ret_bool E.out.symm, rfl⟩

set_option maxHeartbeats 800000 in
theorem refNamed_any (s : ByteArray) (w : World) (hs : s.size ≤ maxLen) : Calls Tryz.prog 44 #[.string s] w fun e w' => e = .returned (.bool (namedB s)) ∧ w = w' := by
  unfold maxLen at hs
  go_enter Tryz.func44, Tryz.ntmps44
  go_wp2
  go_loop [3] (fun i => ∃ k : Nat, k ≤ s.size ∧ i = .int .i64 k ∧ Hid (∀ (j : Nat) (c : UInt8), j < k → (bytes s)[j]? = some c → nameByte c = true)) (fun i => s.size - (intOf i).toNat)
  case atStart => exact ⟨0, Nat.zero_le _, rfl, fun j c hj => absurd hj (Nat.not_lt_zero _)⟩
  case round =>
    obtain ⟨k, hk, rfl, hno⟩ := hrel
    by_cases hlt : k < s.size
    · have hat : (bytes s)[k]? = some s[k] := byte_at hlt
      have hc := nameByte_iff s[k]
      cases hb : nameByte s[k]
      · have e := named_no hat hb
        have E := Lib.hid e
        rw [hb] at hc
        have HC := Lib.hid hc
        clear hb e hat hno hc
        go_wp2
        all_goals first
          | (go_ret; exact ⟨ret_bool E.out.symm, rfl⟩)
          | (exfalso; have := HC.out; simp at this; simp_all; try omega)
      · have HA : Hid (∀ (j : Nat) (c : UInt8), j < k + 1 → (bytes s)[j]? = some c → nameByte c = true) := fun j c hj hjc => by
          by_cases e : j = k
          · subst e; rw [hat] at hjc; cases hjc; exact hb
          · exact hno.out j c (by omega) hjc
        rw [hb] at hc
        have HC := Lib.hid hc
        clear hb hat hno hc
        go_wp2
        all_goals first
          | exact ⟨⟨k + 1, by omega, by go_num, HA⟩, by simp [intOf]; omega⟩
          | (exfalso; have := HC.out; simp at this; simp_all; try omega)
    · have e : namedB s = (decide (1 ≤ s.size) && decide (s.size ≤ 24)) := named_yes fun j c hc => hno.out j c (by have := (List.getElem?_eq_some_iff.1 hc).1; rw [bytes_length] at this; omega) hc
      have E := Lib.hid e; clear e hno
      go_wp2
      all_goals
        go_ret
        refine ⟨ret_bool ?_, rfl⟩
        rw [E.out, Bool.eq_iff_iff]
        simp only [Bool.and_eq_true, decide_eq_true_eq]
        try simp
        try omega

end Go.Proofs.YtboffgmaohcpfaaGreatDoor
