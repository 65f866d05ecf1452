import Derived.Test.YtomboeiaajggoaaRows
import Derived.Test.YtomboeiaajggoaaChecked
import Derived.Test.YtomboeiaajggoaaPk5
import Derived.ProofKit
import Derived.OpenShut
import Derived.SizedLaws
import Derived.SliceStrings
import Derived.Deep.Slices
import Derived.Deep.Fields
import Derived.ChangeSame
import Derived.Deep.DeepHandedRow
import Derived.Lib.LaidTab
import Derived.LaidSub
import Derived.Test.YtomboeiaajggoaaPk16
import Derived.ChangeSlices
import Derived.Test.YtomboeiaajggoaaPk24
import Derived.Test.YtomboeiaajggoaaPk26

/-
  What comes in, read as data: rows of lines, rows of structures.
-/
namespace Go.Proofs.Ytomboeiaajggoaa
open Go.ChangeShapes Go.WideShapes Go.ChangeAt Go.RowKit Go.Deep

theorem Try.own : ownKnob Try.prog.godebug = none := by kernel_rfl
theorem Try.laidOut : laidOutB Try.prog = true := by kernel_rfl
theorem Try.cells9 : Try.prog.cellsOf 9 = 1 := by kernel_rfl

section
variable {H : Type} {enc : TypeId × Value → H} {P : Program} {w : World} {base : Nat} {spare : Nat → Bool} {held : Bool}
/-- A slice of structures, each field one cell: the cells, and each field's reading. -/
theorem open_slice_fields {t e : TypeId} {fs : Array Field} {fuel : Nat} {cs : List Value} {x : DataW H × List MemPlace} (ht : P.underlying t = some (.slice e)) (he : P.underlying e = some (.struct fs))
    (hone : oneCellFields P fs = true) (hC : P.cellsOf e = fs.size) (h : DataW.trod enc P w base spare held fuel t cs = some x) :
    (cs = [.slice none 0 0] ∧ x = (.nil, [])) ∨
    ∃ (a : Addr) (len cap m : Nat) (D : Nat → DataW H) (Pl : Nat → List MemPlace), cs = [.slice (some a) len cap] ∧ len ≤ cap ∧ m = (if spare a.block then cap else len) ∧
      x = (.slice ((List.range len).map D) ((List.range (m - len)).map fun j => D (len + j)), MemPlace.row a (m * fs.size) ++ (List.range m).flatMap Pl) ∧
      ∀ i, i < m → ∃ (ys : List (DataW H × List MemPlace)) (n : Nat), D i = .agg (ys.map (·.1)) ∧ ys.length = fs.size ∧
        ∀ (j : Nat) (f : Field), fs[j]? = some f → ∃ (v : Value) (y : DataW H × List MemPlace), w.cell? (a.add (i * fs.size + j)) = some v ∧ ys[j]? = some y ∧ DataW.trod enc P w base spare held n f.type [v] = some y := by
  rcases open_slice ht h with h0 | ⟨a, len, cap, m, n, D, Pl, hcs, _, hl, _, hmm, hx, hi⟩
  · exact .inl h0
  · refine .inr ⟨a, len, cap, m, D, Pl, hcs, hl, hmm, by rw [hC] at hx; exact hx, fun i him => ?_⟩
    obtain ⟨cs', hc, ht'⟩ := hi i him
    rw [hC] at hc
    obtain ⟨ys, n', _, hy, _, hyl, hf⟩ := DataW.trod_struct he ht'
    obtain ⟨_, _, hat⟩ := World.cells?_some hc
    simp only [Prod.mk.injEq] at hy
    have hcl : cs'.length = fs.size := by assumption
    refine ⟨ys, n', hy.1, hyl, fun j f hj => ?_⟩
    obtain ⟨ho, hk⟩ := hone_of hone j f hj
    have hjl : j < fs.size := (Array.getElem?_eq_some_iff.1 hj).1
    have hcell := hat j hjl
    have hv : cs'[j]? = some (cs'[j]'(by omega)) := List.getElem?_eq_getElem (by omega)
    have h1 := hf j f hj
    rw [ho, hk] at h1
    have hone' : (cs'.drop j).take 1 = [cs'[j]'(by omega)] := by
      rw [List.drop_eq_getElem_cons (by omega)]
      rfl
    rw [hone'] at h1
    have hys : ys[j]? = some (ys[j]'(by omega)) := List.getElem?_eq_getElem (by omega)
    refine ⟨_, _, ?_, hys, h1.trans hys⟩
    rw [← Go.Deep.add_add, hcell, hv]
end

theorem list_of {α : Type} {Q : Nat → α → Prop} : ∀ n : Nat, (∀ i, i < n → ∃ x, Q i x) → ∃ l : List α, l.length = n ∧ ∀ (i : Nat) x, l[i]? = some x → Q i x
  | 0, _ => ⟨[], rfl, fun i x h => by simp at h⟩
  | n + 1, h => by
    obtain ⟨l, hl, hq⟩ := list_of n fun i hi => h i (by omega)
    obtain ⟨x, hx⟩ := h n (by omega)
    refine ⟨l ++ [x], by simp [hl], fun i y hy => ?_⟩
    rcases Nat.lt_or_ge i n with hi | hi
    · rw [List.getElem?_append_left (by omega)] at hy
      exact hq i y hy
    · rw [List.getElem?_append_right (by omega), hl] at hy
      have hi0 : i - n = 0 := by
        rcases Nat.eq_zero_or_pos (i - n) with h0 | h0
        · exact h0
        · rw [List.getElem?_eq_none (by simp; omega)] at hy; cases hy
      rw [hi0] at hy
      simp at hy
      subst hy
      obtain rfl : i = n := by omega
      exact hx

theorem bulk_strs {H : Type} (ss : List ByteArray) : Rows.uptoBulkAll (strs (H := H) ss) = ss.length + (ss.map ByteArray.size).sum := by
  induction ss with
  | nil => rfl
  | cons s ss ih =>
    simp only [strs, List.map_cons, Rows.uptoBulkAll, Rows.uptoBulk, List.length_cons, List.sum_cons] at ih ⊢
    rw [ih]
    have : s.data.toList.length = s.size := by rw [Array.length_toList]; rfl
    omega

/-- A row of lines that came in, nil or not, and what it weighs. -/
theorem came_lines {H : Type} {enc : TypeId × Value → H} {W : World} {v : Value} {fuel : Nat} {x : DataW H × List MemPlace}
    (hf : DataW.trod enc Try.prog W 0 (fun _ => true) true fuel 39 [v] = some x) : ∃ A n c ss, v = .slice A n c ∧ n ≤ c ∧ Row W A n ss ∧ ss.length + (ss.map ByteArray.size).sum ≤ Rows.uptoBulk x.1 := by
  rcases open_strings Try.underlying39 Try.underlying9 Try.cells9 hf with ⟨hcs, hx⟩ | ⟨a, len, cap, ss, hcs, _, hl, hm, hz, hx, hcell, _⟩
  · simp at hcs
    exact ⟨none, 0, 0, [], hcs, Nat.le_refl _, Row.none, by simp⟩
  · simp at hcs
    subst hx
    simp only [if_true] at hz
    obtain ⟨b, off, spot⟩ := a
    refine ⟨_, len, cap, ss.take len, hcs, hl, ⟨by rw [List.length_take]; omega, fun h0 => ?_⟩, ?_⟩
    · have hspot : spot = none := by simpa [Addr.add] using World.cell?_spot (hcell 0 (by omega))
      subst hspot
      refine ⟨b, off, rfl, fun j s hs => ?_⟩
      have hj : j < len := by
        have := (List.getElem?_eq_some_iff.1 hs).1
        rw [List.length_take] at this; omega
      rw [List.getElem?_take_of_lt hj] at hs
      have := hcell j (by omega)
      rw [plain_add] at this
      rw [this]
      simp [List.getD, hs]
    · simp only [Rows.uptoBulk]
      rw [bulk_strs (ss.take len)]
      omega

end Go.Proofs.Ytomboeiaajggoaa

/-
  Prims that come in: from what is read as data to what the laws ask.
-/
namespace Go.Proofs.Ytomboeiaajggoaa
open Go.ChangeShapes Go.WideShapes Go.ChangeAt Go.RowKit Go.Deep

def primFields : Array Field := #[{ name := "Kind", type := 3, offset := 0, embedded := false, tag := "", pkgPath := "", byteOffset := 0 }, { name := "Name", type := 9, offset := 1, embedded := false, tag := "", pkgPath := "", byteOffset := 8 }, { name := "To", type := 9, offset := 2, embedded := false, tag := "", pkgPath := "", byteOffset := 24 }, { name := "At", type := 3, offset := 3, embedded := false, tag := "", pkgPath := "", byteOffset := 40 }, { name := "Old", type := 39, offset := 4, embedded := false, tag := "", pkgPath := "", byteOffset := 48 }, { name := "New", type := 39, offset := 5, embedded := false, tag := "", pkgPath := "", byteOffset := 72 }]
theorem Try.primOne : oneCellFields Try.prog primFields = true := by kernel_rfl
theorem Try.primCells6 : Try.prog.cellsOf 68 = primFields.size := by kernel_rfl

/-- Six fields make a prim. -/
theorem prim_of {H : Type} {enc : TypeId × Value → H} {W : World} {fuel : Nat} {ys : List (DataW H × List MemPlace)} {Q : Nat → Value → Prop} (hyl : ys.length = 6)
    (hfld : ∀ (j : Nat) (f : Field), primFields[j]? = some f → ∃ (v : Value) (y : DataW H × List MemPlace), Q j v ∧ ys[j]? = some y ∧ DataW.trod enc Try.prog W 0 (fun _ => true) true fuel f.type [v] = some y) :
    ∃ x : PrC, (∀ (j : Nat) u, (prL x)[j]? = some u → Q j u) ∧ Row W x.A x.n x.v.old ∧ Row W x.B x.m x.v.new ∧ x.n ≤ x.c ∧ x.m ≤ x.d ∧ -9223372036854775808 ≤ x.v.place ∧ x.v.place ≤ 9223372036854775807 ∧ weightP x.v + 1 ≤ Rows.uptoBulk (.agg (ys.map (·.1))) := by
  obtain ⟨v0, y0, c0, e0, t0⟩ := hfld 0 _ rfl
  obtain ⟨v1, y1, c1, e1, t1⟩ := hfld 1 _ rfl
  obtain ⟨v2, y2, c2, e2, t2⟩ := hfld 2 _ rfl
  obtain ⟨v3, y3, c3, e3, t3⟩ := hfld 3 _ rfl
  obtain ⟨v4, y4, c4, e4, t4⟩ := hfld 4 _ rfl
  obtain ⟨v5, y5, c5, e5, t5⟩ := hfld 5 _ rfl
  obtain ⟨kd, hk, _, _⟩ := DataW.trod_int Try.underlying3 t0
  obtain ⟨s1, hs1, hy1, _⟩ := DataW.trod_string Try.underlying9 t1
  obtain ⟨s2, hs2, hy2, _⟩ := DataW.trod_string Try.underlying9 t2
  obtain ⟨pl, hp, _, hwf⟩ := DataW.trod_int Try.underlying3 t3
  obtain ⟨Al, nl, cl, l, hv4, hnc, hrow, hwl⟩ := came_lines t4
  obtain ⟨Bl, ml, dl, r, hv5, hmd, hrow2, hwr⟩ := came_lines t5
  simp only [List.cons.injEq, and_true] at hk hs1 hs2 hp
  subst hk hs1 hs2 hp hv4 hv5
  have hwf' : -9223372036854775808 ≤ pl ∧ pl ≤ 9223372036854775807 := by
    simp only [Lit.wf, Bool.and_eq_true, decide_eq_true_eq] at hwf
    exact hwf
  refine ⟨⟨⟨kd, s1, s2, pl, l, r⟩, Al, nl, cl, Bl, ml, dl⟩, fun j u hj => ?_, hrow, hrow2, hnc, hmd, hwf'.1, hwf'.2, ?_⟩
  · simp only [prL] at hj
    match j, hj with
    | 0, hj => simp at hj; subst hj; exact c0
    | 1, hj => simp at hj; subst hj; exact c1
    | 2, hj => simp at hj; subst hj; exact c2
    | 3, hj => simp at hj; subst hj; exact c3
    | 4, hj => simp at hj; subst hj; exact c4
    | 5, hj => simp at hj; subst hj; exact c5
    | j + 6, hj => simp at hj
  · match ys, hyl, e0, e1, e2, e3, e4, e5 with
    | [z0, z1, z2, z3, z4, z5], _, e0, e1, e2, e3, e4, e5 =>
      simp only [List.getElem?_cons_zero, List.getElem?_cons_succ, Option.some.injEq] at e0 e1 e2 e3 e4 e5
      subst e0 e1 e2 e3 e4 e5
      simp only [List.map_cons, List.map_nil, Rows.uptoBulk, Rows.uptoBulkAll]
      rw [hy1, hy2]
      simp only [Rows.uptoBulk, weightP]
      have l1 : s1.data.toList.length = s1.size := by rw [Array.length_toList]; rfl
      have l2 : s2.data.toList.length = s2.size := by rw [Array.length_toList]; rfl
      omega

/-- A prim that came in. -/
theorem came_prim {H : Type} {enc : TypeId × Value → H} {W : World} {cs : Array Value} {fuel : Nat} {x : DataW H × List MemPlace}
    (hf : DataW.trod enc Try.prog W 0 (fun _ => true) true fuel 68 (Value.agg cs).cells.toList = some x) (hb : Rows.uptoBulk x.1 ≤ 1048576) : ∃ y, Value.agg cs = prV y ∧ CameP W y := by
  obtain ⟨ys, n', _, hy, hcl, hyl, hfl⟩ := DataW.trod_struct (fs := primFields) Try.underlying68 hf
  rw [Try.primCells6] at hcl
  have hsz : primFields.size = 6 := rfl
  rw [hsz] at hcl hyl
  have hcs : (Value.agg cs).cells.toList = cs.toList := rfl
  rw [hcs] at hcl hfl
  obtain ⟨y, h1, h2, h3, h4, h5, h6, h7, h8⟩ := prim_of (W := W) (enc := enc) (fuel := n') (Q := fun j v => cs.toList[j]? = some v) hyl fun j f hj => by
    obtain ⟨ho, hk⟩ := hone_of Try.primOne j f hj
    have hjl : j < 6 := (Array.getElem?_eq_some_iff.1 hj).1
    have hv : cs.toList[j]? = some (cs.toList[j]'(by omega)) := List.getElem?_eq_getElem (by omega)
    have h1 := hfl j f hj
    rw [ho, hk] at h1
    have hone' : (cs.toList.drop j).take 1 = [cs.toList[j]'(by omega)] := by
      rw [List.drop_eq_getElem_cons (by omega)]
      rfl
    rw [hone'] at h1
    have hys : ys[j]? = some (ys[j]'(by omega)) := List.getElem?_eq_getElem (by omega)
    exact ⟨_, _, hv, hys, h1.trans hys⟩
  subst hy
  dsimp only at hb
  refine ⟨y, ?_, h2, h3, h4, h5, h6, h7, by omega⟩
  have : cs.toList = prL y := by
    refine List.ext_getElem? fun j => ?_
    by_cases hj : j < 6
    · have hjl : (prL y)[j]? = some ((prL y)[j]'hj) := List.getElem?_eq_getElem hj
      rw [hjl, h1 j _ hjl]
    · rw [List.getElem?_eq_none (by omega), List.getElem?_eq_none (by show 6 ≤ j; omega)]
  unfold prV
  congr 1
  exact Array.ext' this

theorem bulkP_range {H : Type} (D : Nat → DataW H) : ∀ (n : Nat) (xs : List PrC), xs.length = n → (∀ (i : Nat) x, xs[i]? = some x → weightP x.v + 1 ≤ Rows.uptoBulk (D i)) → weightPs xs + n ≤ Rows.uptoBulkAll ((List.range n).map D)
  | 0, xs, h, _ => by
    have : xs = [] := List.eq_nil_of_length_eq_zero h
    subst this; simp [weightPs]
  | n + 1, xs, h, hw => by
    have key : ∀ (l r : List (DataW H)), Rows.uptoBulkAll (l ++ r) = Rows.uptoBulkAll l + Rows.uptoBulkAll r := fun l r => by
      induction l with
      | nil => simp [Rows.uptoBulkAll]
      | cons x l ih => simp only [List.cons_append, Rows.uptoBulkAll, ih]; omega
    have ih := bulkP_range D n (xs.take n) (by rw [List.length_take]; omega) (fun i x hx => hw i x (by
      have hi : i < n := by have := (List.getElem?_eq_some_iff.1 hx).1; rw [List.length_take] at this; omega
      rwa [List.getElem?_take_of_lt hi] at hx))
    have hz : xs[n]? = some (xs[n]'(by omega)) := List.getElem?_eq_getElem (by omega)
    have h1 := hw n _ hz
    have h2 := weightPs_take hz
    rw [show xs.take (n + 1) = xs from List.take_of_length_le (by omega)] at h2
    rw [List.range_succ, List.map_append, key]
    simp only [List.map_cons, List.map_nil, Rows.uptoBulkAll]
    omega

end Go.Proofs.Ytomboeiaajggoaa

/-
  Rows of prims that come in.
-/
namespace Go.Proofs.Ytomboeiaajggoaa
open Go.ChangeShapes Go.WideShapes Go.ChangeAt Go.RowKit Go.Deep

/-- What is asked of prims that come in. -/
structure CamePs (w : World) (A : Option Addr) (n : Nat) (xs : List PrC) : Prop where
  prims : Prims w A n xs
  many : n ≤ 1048576
  weigh : weightPs xs ≤ 1048576

/-- Prims that came in, nil or not. -/
theorem came_prims {H : Type} {enc : TypeId × Value → H} {W : World} {v : Value} {fuel : Nat} {x : DataW H × List MemPlace}
    (hf : DataW.trod enc Try.prog W 0 (fun _ => true) true fuel 23 [v] = some x) (hb : Rows.uptoBulk x.1 ≤ 1048576) : ∃ A n c xs, v = .slice A n c ∧ CamePs W A n xs := by
  rcases open_slice_fields (fs := primFields) Try.underlying23 Try.underlying68 Try.primOne Try.primCells6 hf with ⟨hcs, hx⟩ | ⟨a, len, cap, m, D, Pl, hcs, hl, hm, hx, hi⟩
  · simp at hcs
    exact ⟨none, 0, 0, [], hcs, ⟨RowK.none, (fun o ho => by cases ho)⟩, Nat.zero_le _, by simp [weightPs]⟩
  · simp only [if_true] at hm
    have hsz : primFields.size = 6 := rfl
    have hbk : Rows.uptoBulkAll ((List.range len).map D) ≤ 1048576 := by
      subst hx
      simp only [Rows.uptoBulk] at hb
      omega
    have hel : ∀ i, i < len → ∃ x : PrC, (∀ (j : Nat) u, (prL x)[j]? = some u → W.cell? (a.add (i * 6 + j)) = some u) ∧ Row W x.A x.n x.v.old ∧ Row W x.B x.m x.v.new ∧ x.n ≤ x.c ∧ x.m ≤ x.d ∧ -9223372036854775808 ≤ x.v.place ∧ x.v.place ≤ 9223372036854775807 ∧ weightP x.v + 1 ≤ Rows.uptoBulk (D i) := fun i hil => by
      obtain ⟨ys, n, hD, hyl, hfld⟩ := hi i (by omega)
      rw [hsz] at hyl hfld
      rw [hD]
      exact prim_of hyl hfld
    obtain ⟨xs, hol, hoq⟩ := list_of len hel
    have hwt := bulkP_range D len xs hol fun i o ho => (hoq i o ho).2.2.2.2.2.2.2
    simp at hcs
    have hmem : ∀ x ∈ xs, CameP W x := fun x hx => by
      obtain ⟨i, hio⟩ := List.getElem?_of_mem hx
      obtain ⟨_, h2, h3, h4, h5, h6, h7, _⟩ := hoq i x hio
      have := weightPs_mem hx
      exact ⟨h2, h3, h4, h5, h6, h7, by omega⟩
    refine ⟨some a, len, cap, xs, hcs, ⟨⟨by simp [hol], fun cs hcs => ?_, fun h0 => ?_⟩, hmem⟩, by omega, by omega⟩
    · obtain ⟨o, _, rfl⟩ := List.mem_map.1 hcs
      rfl
    · obtain ⟨b, off, spot⟩ := a
      have h00 := (hoq 0 (xs[0]'(by omega)) (List.getElem?_eq_getElem (by omega))).1 0 _ rfl
      have hspot : spot = none := by simpa [Addr.add] using World.cell?_spot h00
      subst hspot
      refine ⟨b, off, rfl, fun j i cs u hj hi => ?_⟩
      rw [List.getElem?_map] at hj
      obtain ⟨o, ho, rfl⟩ := Option.map_eq_some_iff.1 hj
      have := (hoq j o ho).1 i u hi
      rw [plain_add, ← Nat.add_assoc] at this
      exact this

end Go.Proofs.Ytomboeiaajggoaa

/-
  What is asked of patches that come in.
-/
namespace Go.Proofs.Ytomboeiaajggoaa
open Go.RowKit Go.Maps

/-- What a patch weighs. -/
def weightN (x : PaC) : Nat := x.v.note.size + x.nd + x.nl + weightPs x.xs
def weightNs (xs : List PaC) : Nat := (xs.map weightN).sum
theorem weightNs_take {xs : List PaC} {k : Nat} {x : PaC} (h : xs[k]? = some x) : weightNs (xs.take (k + 1)) = weightNs (xs.take k) + weightN x := by
  obtain ⟨hk, rfl⟩ := List.getElem?_eq_some_iff.1 h
  unfold weightNs
  rw [List.take_succ_eq_append_getElem hk, List.map_append, List.sum_append]
  simp
theorem weightNs_mem {xs : List PaC} {x : PaC} (h : x ∈ xs) : weightN x ≤ weightNs xs := by
  induction xs with
  | nil => cases h
  | cons y xs ih =>
    simp only [weightNs, List.map_cons, List.sum_cons] at ih ⊢
    rcases List.mem_cons.1 h with rfl | h
    · omega
    · have := ih h; omega
structure CameN (w : World) (x : PaC) : Prop where
  deps : RowK 1 w x.D x.nd (x.v.deps.map numL)
  droom : x.nd ≤ x.cd
  prims : Prims w x.L x.nl x.xs
  is : valsP x.xs = x.v.l
  lroom : x.nl ≤ x.cl
  lo : -9223372036854775808 ≤ x.v.id
  hi : x.v.id ≤ 9223372036854775807
  note : x.v.note.size ≤ maxLen
  dlo : ∀ d ∈ x.v.deps, -9223372036854775808 ≤ d
  dhi : ∀ d ∈ x.v.deps, d ≤ 9223372036854775807
  weigh : weightN x ≤ 1048576
theorem CameN.later {w w' : World} {x : PaC} (h : CameN w x) (hl : Later w w') : CameN w' x := ⟨h.deps.later hl, h.droom, h.prims.later hl, h.is, h.lroom, h.lo, h.hi, h.note, h.dlo, h.dhi, h.weigh⟩
theorem CameN.ok {w : World} {x : PaC} (h : CameN w x) (hw : weightN x ≤ 6000) : PaOk w x := by
  unfold weightN at hw
  exact ⟨h.deps, h.prims.ok (by omega), h.is, h.droom, h.lroom, by omega, by omega, h.note, h.lo, h.hi, h.dlo, h.dhi⟩
/-- A row of such. -/
structure CameNs (w : World) (A : Option Addr) (n c : Nat) (xs : List PaC) : Prop where
  row : RowK 4 w A n (xs.map paL)
  room : n ≤ c
  each : ∀ x ∈ xs, CameN w x
  weigh : weightNs xs + n ≤ 1048576
theorem CameNs.later {w w' : World} {A : Option Addr} {n c : Nat} {xs : List PaC} (h : CameNs w A n c xs) (hl : Later w w') : CameNs w' A n c xs := ⟨h.row.later hl, h.room, fun x hx => (h.each x hx).later hl, h.weigh⟩
theorem CameNs.len {w : World} {A : Option Addr} {n c : Nat} {xs : List PaC} (h : CameNs w A n c xs) : xs.length = n := by have := h.row.len; simpa using this
theorem CameNs.ok {w : World} {A : Option Addr} {n c : Nat} {xs : List PaC} (h : CameNs w A n c xs) (hw : weightNs xs ≤ 6000) : NsOk w A n xs :=
  ⟨h.row, fun x hx => (h.each x hx).ok (by have := weightNs_mem hx; omega)⟩

end Go.Proofs.Ytomboeiaajggoaa

/-
  Patches that come in, and rows of them: from what is read as data to what the laws ask.
-/
namespace Go.Proofs.Ytomboeiaajggoaa
open Go.ChangeShapes Go.WideShapes Go.ChangeAt Go.RowKit Go.Deep

theorem bulk_lits {H : Type} (k : IntKind) (zs : List Int) : Rows.uptoBulkAll (lits (H := H) k zs) = zs.length := by
  induction zs with
  | nil => rfl
  | cons z zs ih =>
    simp only [lits, List.map_cons, Rows.uptoBulkAll, Rows.uptoBulk, List.length_cons] at ih ⊢
    rw [ih]
    omega
theorem Try.cells3 : Try.prog.cellsOf 3 = 1 := by kernel_rfl
/-- Numbers that came in, nil or not. -/
theorem came_nums {H : Type} {enc : TypeId × Value → H} {W : World} {v : Value} {fuel : Nat} {x : DataW H × List MemPlace}
    (hf : DataW.trod enc Try.prog W 0 (fun _ => true) true fuel 22 [v] = some x) : ∃ (A : Option Addr) (n c : Nat) (zs : List Int), v = .slice A n c ∧ n ≤ c ∧ RowK 1 W A n (zs.map numL) ∧ n + 1 ≤ Rows.uptoBulk x.1 ∧ ∀ z ∈ zs, -9223372036854775808 ≤ z ∧ z ≤ 9223372036854775807 := by
  rcases open_ints Try.underlying22 Try.underlying3 Try.cells3 hf with ⟨hcs, hx⟩ | ⟨a, len, cap, zs, hcs, _, hl, hm, hz, hx, hcell, hwf⟩
  · simp at hcs
    subst hx
    exact ⟨none, 0, 0, [], hcs, Nat.le_refl _, RowK.none, by simp [Rows.uptoBulk], fun z hz => by cases hz⟩
  · simp at hcs
    subst hx
    simp only [if_true] at hz
    obtain ⟨b, off, spot⟩ := a
    refine ⟨_, len, cap, zs.take len, hcs, hl, ⟨by rw [List.length_map, List.length_take]; omega, (fun cs hcs => by obtain ⟨d, _, rfl⟩ := List.mem_map.1 hcs; rfl), fun h0 => ?_⟩, ?_, fun z hz => ?_⟩
    · have hspot : spot = none := by simpa [Addr.add] using World.cell?_spot (hcell 0 (by omega))
      subst hspot
      refine ⟨b, off, rfl, fun j i cs v hj hi => ?_⟩
      rw [List.getElem?_map] at hj
      obtain ⟨d, hd, rfl⟩ := Option.map_eq_some_iff.1 hj
      have hjl : j < len := by
        have := (List.getElem?_eq_some_iff.1 hd).1
        rw [List.length_take] at this; omega
      rw [List.getElem?_take_of_lt hjl] at hd
      match i, hi with
      | 0, hi =>
        simp only [numL, List.getElem?_cons_zero, Option.some.injEq] at hi
        subst hi
        have := hcell j (by omega)
        rw [plain_add] at this
        rw [Nat.mul_one, Nat.add_zero, this]
        simp [List.getD, hd]
      | i + 1, hi => simp [numL] at hi
    · simp only [Rows.uptoBulk]
      rw [bulk_lits, List.length_take]
      omega
    · have := hwf z (List.mem_of_mem_take hz)
      simp only [Lit.wf, Bool.and_eq_true, decide_eq_true_eq] at this
      exact this
/-- Prims that came in, nil or not, with room and weight. -/
theorem came_prims2 {H : Type} {enc : TypeId × Value → H} {W : World} {v : Value} {fuel : Nat} {x : DataW H × List MemPlace}
    (hf : DataW.trod enc Try.prog W 0 (fun _ => true) true fuel 23 [v] = some x) (hb : Rows.uptoBulk x.1 ≤ 1048576) : ∃ A n c xs, v = .slice A n c ∧ n ≤ c ∧ Prims W A n xs ∧ weightPs xs + n + 1 ≤ Rows.uptoBulk x.1 := by
  rcases open_slice_fields (fs := primFields) Try.underlying23 Try.underlying68 Try.primOne Try.primCells6 hf with ⟨hcs, hx⟩ | ⟨a, len, cap, m, D, Pl, hcs, hl, hm, hx, hi⟩
  · simp at hcs
    subst hx
    exact ⟨none, 0, 0, [], hcs, Nat.le_refl _, ⟨RowK.none, (fun o ho => by cases ho)⟩, by simp [weightPs, Rows.uptoBulk]⟩
  · simp only [if_true] at hm
    have hsz : primFields.size = 6 := rfl
    have hbk : Rows.uptoBulkAll ((List.range len).map D) + 1 ≤ Rows.uptoBulk x.1 := by
      subst hx
      simp only [Rows.uptoBulk]
      omega
    have hel : ∀ i, i < len → ∃ x : PrC, (∀ (j : Nat) u, (prL x)[j]? = some u → W.cell? (a.add (i * 6 + j)) = some u) ∧ Row W x.A x.n x.v.old ∧ Row W x.B x.m x.v.new ∧ x.n ≤ x.c ∧ x.m ≤ x.d ∧ -9223372036854775808 ≤ x.v.place ∧ x.v.place ≤ 9223372036854775807 ∧ weightP x.v + 1 ≤ Rows.uptoBulk (D i) := fun i hil => by
      obtain ⟨ys, n, hD, hyl, hfld⟩ := hi i (by omega)
      rw [hsz] at hyl hfld
      rw [hD]
      exact prim_of hyl hfld
    obtain ⟨xs, hol, hoq⟩ := list_of len hel
    have hwt := bulkP_range D len xs hol fun i o ho => (hoq i o ho).2.2.2.2.2.2.2
    simp at hcs
    have hmem : ∀ x ∈ xs, CameP W x := fun x hx => by
      obtain ⟨i, hio⟩ := List.getElem?_of_mem hx
      obtain ⟨_, h2, h3, h4, h5, h6, h7, _⟩ := hoq i x hio
      have := weightPs_mem hx
      exact ⟨h2, h3, h4, h5, h6, h7, by omega⟩
    refine ⟨some a, len, cap, xs, hcs, hl, ⟨⟨by simp [hol], fun cs hcs => ?_, fun h0 => ?_⟩, hmem⟩, by omega⟩
    · obtain ⟨o, _, rfl⟩ := List.mem_map.1 hcs
      rfl
    · obtain ⟨b, off, spot⟩ := a
      have h00 := (hoq 0 (xs[0]'(by omega)) (List.getElem?_eq_getElem (by omega))).1 0 _ rfl
      have hspot : spot = none := by simpa [Addr.add] using World.cell?_spot h00
      subst hspot
      refine ⟨b, off, rfl, fun j i cs u hj hi => ?_⟩
      rw [List.getElem?_map] at hj
      obtain ⟨o, ho, rfl⟩ := Option.map_eq_some_iff.1 hj
      have := (hoq j o ho).1 i u hi
      rw [plain_add, ← Nat.add_assoc] at this
      exact this

def patchFields : Array Field := #[{ name := "Id", type := 3, offset := 0, embedded := false, tag := "", pkgPath := "", byteOffset := 0 }, { name := "Note", type := 9, offset := 1, embedded := false, tag := "", pkgPath := "", byteOffset := 8 }, { name := "Deps", type := 22, offset := 2, embedded := false, tag := "", pkgPath := "", byteOffset := 24 }, { name := "L", type := 23, offset := 3, embedded := false, tag := "", pkgPath := "", byteOffset := 48 }]
theorem Try.patchOne : oneCellFields Try.prog patchFields = true := by kernel_rfl
theorem Try.patchCells4 : Try.prog.cellsOf 25 = patchFields.size := by kernel_rfl

/-- Four fields make a patch. -/
theorem patch_of {H : Type} {enc : TypeId × Value → H} {W : World} {fuel : Nat} {ys : List (DataW H × List MemPlace)} {Q : Nat → Value → Prop} (hyl : ys.length = 4) (hb : Rows.uptoBulk (.agg (ys.map (·.1))) ≤ 1048576)
    (hfld : ∀ (j : Nat) (f : Field), patchFields[j]? = some f → ∃ (v : Value) (y : DataW H × List MemPlace), Q j v ∧ ys[j]? = some y ∧ DataW.trod enc Try.prog W 0 (fun _ => true) true fuel f.type [v] = some y) :
    ∃ x : PaC, (∀ (j : Nat) u, (paL x)[j]? = some u → Q j u) ∧ CameN W x ∧ weightN x + 1 ≤ Rows.uptoBulk (.agg (ys.map (·.1))) := by
  obtain ⟨v0, y0, c0, e0, t0⟩ := hfld 0 _ rfl
  obtain ⟨v1, y1, c1, e1, t1⟩ := hfld 1 _ rfl
  obtain ⟨v2, y2, c2, e2, t2⟩ := hfld 2 _ rfl
  obtain ⟨v3, y3, c3, e3, t3⟩ := hfld 3 _ rfl
  obtain ⟨kd, hk, _, hwf⟩ := DataW.trod_int Try.underlying3 t0
  obtain ⟨s1, hs1, hy1, hsm⟩ := DataW.trod_string Try.underlying9 t1
  obtain ⟨Dl, nd, cd, zs, hv2, hdc, hrow, hwd, hzs⟩ := came_nums t2
  match ys, hyl, e0, e1, e2, e3 with
  | [z0, z1, z2, z3], _, e0, e1, e2, e3 =>
    simp only [List.getElem?_cons_zero, List.getElem?_cons_succ, Option.some.injEq] at e0 e1 e2 e3
    subst e0 e1 e2 e3
    simp only [List.map_cons, List.map_nil, Rows.uptoBulk, Rows.uptoBulkAll] at hb ⊢
    obtain ⟨Ll, nl, cl, xs, hv3, hlc, hps, hwl⟩ := came_prims2 t3 (by omega)
    simp only [List.cons.injEq, and_true] at hk hs1
    subst hk hs1 hv2 hv3
    have hwf' : -9223372036854775808 ≤ kd ∧ kd ≤ 9223372036854775807 := by
      simp only [Lit.wf, Bool.and_eq_true, decide_eq_true_eq] at hwf
      exact hwf
    rw [hy1] at hb ⊢
    have l1 : s1.data.toList.length = s1.size := by rw [Array.length_toList]; rfl
    simp only [Rows.uptoBulk] at hb ⊢
    have hzl : zs.length = nd := by have := hrow.len; simpa using this
    refine ⟨⟨⟨kd, s1, zs, valsP xs⟩, Dl, nd, cd, Ll, nl, cl, xs⟩, fun j u hj => ?_, ⟨hrow, hdc, hps, rfl, hlc, hwf'.1, hwf'.2, hsm, fun d hd => (hzs d hd).1, fun d hd => (hzs d hd).2, ?_⟩, ?_⟩
    · simp only [paL] at hj
      match j, hj with
      | 0, hj => simp at hj; subst hj; exact c0
      | 1, hj => simp at hj; subst hj; exact c1
      | 2, hj => simp at hj; subst hj; exact c2
      | 3, hj => simp at hj; subst hj; exact c3
      | j + 4, hj => simp at hj
    · simp only [weightN]; omega
    · simp only [weightN]; omega

/-- A patch that came in. -/
theorem came_patch {H : Type} {enc : TypeId × Value → H} {W : World} {cs : Array Value} {fuel : Nat} {x : DataW H × List MemPlace}
    (hf : DataW.trod enc Try.prog W 0 (fun _ => true) true fuel 25 (Value.agg cs).cells.toList = some x) (hb : Rows.uptoBulk x.1 ≤ 1048576) : ∃ y, Value.agg cs = paV y ∧ CameN W y ∧ weightN y + 1 ≤ Rows.uptoBulk x.1 := by
  obtain ⟨ys, n', _, hy, hcl, hyl, hfl⟩ := DataW.trod_struct (fs := patchFields) Try.underlying25 hf
  rw [Try.patchCells4] at hcl
  have hsz : patchFields.size = 4 := rfl
  rw [hsz] at hcl hyl
  have hcs : (Value.agg cs).cells.toList = cs.toList := rfl
  rw [hcs] at hcl hfl
  subst hy
  dsimp only at hb
  obtain ⟨y, h1, h2, h3⟩ := patch_of (W := W) (enc := enc) (fuel := n') (Q := fun j v => cs.toList[j]? = some v) hyl hb fun j f hj => by
    obtain ⟨ho, hk⟩ := hone_of Try.patchOne j f hj
    have hjl : j < 4 := (Array.getElem?_eq_some_iff.1 hj).1
    have hv : cs.toList[j]? = some (cs.toList[j]'(by omega)) := List.getElem?_eq_getElem (by omega)
    have h1 := hfl j f hj
    rw [ho, hk] at h1
    have hone' : (cs.toList.drop j).take 1 = [cs.toList[j]'(by omega)] := by
      rw [List.drop_eq_getElem_cons (by omega)]
      rfl
    rw [hone'] at h1
    have hys : ys[j]? = some (ys[j]'(by omega)) := List.getElem?_eq_getElem (by omega)
    exact ⟨_, _, hv, hys, h1.trans hys⟩
  refine ⟨y, ?_, h2, h3⟩
  have : cs.toList = paL y := by
    refine List.ext_getElem? fun j => ?_
    by_cases hj : j < 4
    · have hjl : (paL y)[j]? = some ((paL y)[j]'hj) := List.getElem?_eq_getElem hj
      rw [hjl, h1 j _ hjl]
    · rw [List.getElem?_eq_none (by omega), List.getElem?_eq_none (by show 4 ≤ j; omega)]
  unfold paV
  congr 1
  exact Array.ext' this

theorem bulkN_range {H : Type} (D : Nat → DataW H) : ∀ (n : Nat) (xs : List PaC), xs.length = n → (∀ (i : Nat) x, xs[i]? = some x → weightN x + 1 ≤ Rows.uptoBulk (D i)) → weightNs xs + n ≤ Rows.uptoBulkAll ((List.range n).map D)
  | 0, xs, h, _ => by
    have : xs = [] := List.eq_nil_of_length_eq_zero h
    subst this; simp [weightNs]
  | n + 1, xs, h, hw => by
    have key : ∀ (l r : List (DataW H)), Rows.uptoBulkAll (l ++ r) = Rows.uptoBulkAll l + Rows.uptoBulkAll r := fun l r => by
      induction l with
      | nil => simp [Rows.uptoBulkAll]
      | cons x l ih => simp only [List.cons_append, Rows.uptoBulkAll, ih]; omega
    have ih := bulkN_range D n (xs.take n) (by rw [List.length_take]; omega) (fun i x hx => hw i x (by
      have hi : i < n := by have := (List.getElem?_eq_some_iff.1 hx).1; rw [List.length_take] at this; omega
      rwa [List.getElem?_take_of_lt hi] at hx))
    have hz : xs[n]? = some (xs[n]'(by omega)) := List.getElem?_eq_getElem (by omega)
    have h1 := hw n _ hz
    have h2 := weightNs_take hz
    rw [show xs.take (n + 1) = xs from List.take_of_length_le (by omega)] at h2
    rw [List.range_succ, List.map_append, key]
    simp only [List.map_cons, List.map_nil, Rows.uptoBulkAll]
    omega
theorem bulk_range_mem {H : Type} (D : Nat → DataW H) : ∀ (n i : Nat), i < n → Rows.uptoBulk (D i) ≤ Rows.uptoBulkAll ((List.range n).map D)
  | 0, _, h => absurd h (Nat.not_lt_zero _)
  | n + 1, i, h => by
    have key : ∀ (l r : List (DataW H)), Rows.uptoBulkAll (l ++ r) = Rows.uptoBulkAll l + Rows.uptoBulkAll r := fun l r => by
      induction l with
      | nil => simp [Rows.uptoBulkAll]
      | cons x l ih => simp only [List.cons_append, Rows.uptoBulkAll, ih]; omega
    rw [List.range_succ, List.map_append, key]
    simp only [List.map_cons, List.map_nil, Rows.uptoBulkAll]
    rcases Nat.lt_or_ge i n with hi | hi
    · have := bulk_range_mem D n i hi; omega
    · obtain rfl : i = n := by omega
      omega

/-- Patches that came in, nil or not. -/
theorem came_patches {H : Type} {enc : TypeId × Value → H} {W : World} {v : Value} {fuel : Nat} {x : DataW H × List MemPlace}
    (hf : DataW.trod enc Try.prog W 0 (fun _ => true) true fuel 37 [v] = some x) (hb : Rows.uptoBulk x.1 ≤ 1048576) : ∃ A n c xs, v = .slice A n c ∧ CameNs W A n c xs := by
  rcases open_slice_fields (fs := patchFields) Try.underlying37 Try.underlying25 Try.patchOne Try.patchCells4 hf with ⟨hcs, hx⟩ | ⟨a, len, cap, m, D, Pl, hcs, hl, hm, hx, hi⟩
  · simp at hcs
    exact ⟨none, 0, 0, [], hcs, RowK.none, Nat.le_refl _, (fun o ho => by cases ho), by simp [weightNs]⟩
  · simp only [if_true] at hm
    have hsz : patchFields.size = 4 := rfl
    have hbk : Rows.uptoBulkAll ((List.range len).map D) + 1 ≤ 1048576 := by
      subst hx
      simp only [Rows.uptoBulk] at hb
      omega
    have hel : ∀ i, i < len → ∃ x : PaC, (∀ (j : Nat) u, (paL x)[j]? = some u → W.cell? (a.add (i * 4 + j)) = some u) ∧ CameN W x ∧ weightN x + 1 ≤ Rows.uptoBulk (D i) := fun i hil => by
      obtain ⟨ys, n, hD, hyl, hfld⟩ := hi i (by omega)
      rw [hsz] at hyl hfld
      have hbi := bulk_range_mem D len i hil
      rw [hD] at hbi ⊢
      exact patch_of hyl (by omega) hfld
    obtain ⟨xs, hol, hoq⟩ := list_of len hel
    have hwt := bulkN_range D len xs hol fun i o ho => (hoq i o ho).2.2
    simp at hcs
    have hmem : ∀ x ∈ xs, CameN W x := fun x hx => by
      obtain ⟨i, hio⟩ := List.getElem?_of_mem hx
      exact (hoq i x hio).2.1
    refine ⟨some a, len, cap, xs, hcs, ⟨by simp [hol], fun cs hcs => ?_, fun h0 => ?_⟩, hl, hmem, by omega⟩
    · obtain ⟨o, _, rfl⟩ := List.mem_map.1 hcs
      rfl
    · obtain ⟨b, off, spot⟩ := a
      have h00 := (hoq 0 (xs[0]'(by omega)) (List.getElem?_eq_getElem (by omega))).1 0 _ rfl
      have hspot : spot = none := by simpa [Addr.add] using World.cell?_spot h00
      subst hspot
      refine ⟨b, off, rfl, fun j i cs u hj hi => ?_⟩
      rw [List.getElem?_map] at hj
      obtain ⟨o, ho, rfl⟩ := Option.map_eq_some_iff.1 hj
      have := (hoq j o ho).1 i u hi
      rw [plain_add, ← Nat.add_assoc] at this
      exact this

end Go.Proofs.Ytomboeiaajggoaa

/-
  More operations of a region that draws its order: a call of nothing, two Bools.
-/
namespace Go.Proofs.Ytomboeiaajggoaa
open Go.RowKit Go.Maps

section
variable {ops : Array Oper} {Q : Exit → Act → World → Prop} {K : Act → World → Prop} {i : Nat} {dst : Option Tmp} {js : List Nat} {a : Act} {w w0 : World}
theorem OpIs.call0 {f : FuncId} {Post : Ending → World → Prop} (h : OpIs ops i (.call { callee := .value (.func f), args := #[], argTypes := #[] }) dst js) (hf : ∀ args w, (callFunc f args).run Try.prog w = .ok (.enter f args) w)
    (hc : Calls Try.prog f #[] w Post) (hk : ∀ e w', Post e w' → ∃ u, e = .returned u ∧ K (a.put dst u) w') : wpOp Try.prog ops Q i K a w :=
  h.go fun o h1 h2 => by
    have hr : (execOp a.eval o).run Try.prog w = .ok (.enter f #[]) w := by
      unfold execOp
      rw [h1]
      simp only [resolve, invoke, Sem.run_bind, List.map_toArray, List.map_nil]
      go_simp
    unfold Oper.wp
    rw [hr]
    show Calls _ _ _ _ _
    refine hc.mono ?_
    intro e w' hp
    obtain ⟨u, rfl, hku⟩ := hk e w' hp
    dsimp only
    rw [h2]
    exact hku
theorem OpIs.eqlB {j k : Tmp} {b : Bool} (h : OpIs ops i (.binOp .eql 4 (.tmp j) (.tmp k) 4) dst js) (he : a.eval (.tmp j) = .bool b) (he2 : a.eval (.tmp k) = .bool b) (hk : K (a.put dst (.bool true)) w) : wpOp Try.prog ops Q i K a w :=
  h.go fun op h1 h2 => by
    have hr : (execOp a.eval op).run Try.prog w = .ok (.value (.bool true)) w := by
      clear hk
      unfold execOp
      rw [h1]
      dsimp only
      rw [he, he2]
      cases b <;> go_simp
    unfold Oper.wp
    rw [hr]
    show K _ _
    rw [h2]
    exact hk
end

end Go.Proofs.Ytomboeiaajggoaa

/-
  More operations of a region that draws its order: comparisons of numbers, rows of numbers.
-/
namespace Go.Proofs.Ytomboeiaajggoaa
open Go.RowKit Go.Maps

section
variable {ops : Array Oper} {Q : Exit → Act → World → Prop} {K : Act → World → Prop} {i : Nat} {dst : Option Tmp} {js : List Nat} {a : Act} {w w0 : World}
theorem OpIs.lssC {k : Tmp} {x z : Int} {b : Bool} (h : OpIs ops i (.binOp .lss 3 (.tmp k) (.const (.int .i64 z)) 3) dst js) (he : a.eval (.tmp k) = .int .i64 x) (hb : decide (x < z) = b) (hk : K (a.put dst (.bool b)) w) : wpOp Try.prog ops Q i K a w :=
  h.go fun op h1 h2 => by
    have hr : (execOp a.eval op).run Try.prog w = .ok (.value (.bool b)) w := by
      clear hk
      subst hb
      unfold execOp
      rw [h1]
      dsimp only
      rw [he]
      go_simp
    unfold Oper.wp
    rw [hr]
    show K _ _
    rw [h2]
    exact hk
theorem OpIs.gtrC {k : Tmp} {x z : Int} {b : Bool} (h : OpIs ops i (.binOp .gtr 3 (.tmp k) (.const (.int .i64 z)) 3) dst js) (he : a.eval (.tmp k) = .int .i64 x) (hb : decide (z < x) = b) (hk : K (a.put dst (.bool b)) w) : wpOp Try.prog ops Q i K a w :=
  h.go fun op h1 h2 => by
    have hr : (execOp a.eval op).run Try.prog w = .ok (.value (.bool b)) w := by
      clear hk
      subst hb
      unfold execOp
      rw [h1]
      dsimp only
      rw [he]
      go_simp
    unfold Oper.wp
    rw [hr]
    show K _ _
    rw [h2]
    exact hk
theorem OpIs.leqTT {j k : Tmp} {x z : Int} {b : Bool} (h : OpIs ops i (.binOp .leq 3 (.tmp j) (.tmp k) 3) dst js) (he : a.eval (.tmp j) = .int .i64 x) (he2 : a.eval (.tmp k) = .int .i64 z) (hb : decide (x ≤ z) = b) (hk : K (a.put dst (.bool b)) w) : wpOp Try.prog ops Q i K a w :=
  h.go fun op h1 h2 => by
    have hr : (execOp a.eval op).run Try.prog w = .ok (.value (.bool b)) w := by
      clear hk
      subst hb
      unfold execOp
      rw [h1]
      dsimp only
      rw [he, he2]
      go_simp
    unfold Oper.wp
    rw [hr]
    show K _ _
    rw [h2]
    exact hk
theorem OpIs.eqlTT {j k : Tmp} {x z : Int} {b : Bool} (h : OpIs ops i (.binOp .eql 3 (.tmp j) (.tmp k) 3) dst js) (he : a.eval (.tmp j) = .int .i64 x) (he2 : a.eval (.tmp k) = .int .i64 z) (hb : decide (x = z) = b) (hk : K (a.put dst (.bool b)) w) : wpOp Try.prog ops Q i K a w :=
  h.go fun op h1 h2 => by
    have hr : (execOp a.eval op).run Try.prog w = .ok (.value (.bool b)) w := by
      clear hk
      subst hb
      unfold execOp
      rw [h1]
      dsimp only
      rw [he, he2]
      go_simp
      rfl
    unfold Oper.wp
    rw [hr]
    show K _ _
    rw [h2]
    exact hk
theorem OpIs.subC {k : Tmp} {j : Nat} (h : OpIs ops i (.binOp .sub 3 (.tmp k) (.const (.int .i64 1)) 3) dst js) (he : a.eval (.tmp k) = .int .i64 (j + 1 : Nat)) (hj : j ≤ 1000000) (hk : K (a.put dst (.int .i64 (j : Nat))) w) : wpOp Try.prog ops Q i K a w :=
  h.go fun op h1 h2 => by
    have hr : (execOp a.eval op).run Try.prog w = .ok (.value (.int .i64 (j : Nat))) w := by
      clear hk
      unfold execOp
      rw [h1]
      dsimp only
      rw [he]
      go_simp
      rw [IntKind.wrap_i64] <;> omega
    unfold Oper.wp
    rw [hr]
    show K _ _
    rw [h2]
    exact hk
theorem OpIs.indexI7 {j k : Tmp} {g o n c m : Nat} (h : OpIs ops i (.indexAddr 22 (.tmp j) (.tmp k)) dst js) (hj : a.eval (.tmp j) = .slice (some ⟨g, o, none⟩) n c) (hk' : a.eval (.tmp k) = .int .i64 (m : Nat)) (hm : m < n) (hk : K (a.put dst (.pointer (some ⟨g, o + m, none⟩))) w) : wpOp Try.prog ops Q i K a w :=
  h.go fun op h1 h2 => by
    have hr : (execOp a.eval op).run Try.prog w = .ok (.value (.pointer (some ⟨g, o + m, none⟩))) w := by
      clear hk
      unfold execOp
      rw [h1]
      dsimp only
      rw [hj, hk']
      go_simp
    unfold Oper.wp
    rw [hr]
    show K _ _
    rw [h2]
    exact hk
end
theorem OpG.skipU {P : Program} {ops : Array Oper} {Q : Exit → Act → World → Prop} {K : Act → World → Prop} {i g : Nat} {d e : Tmp} {op : Op} {js : List Nat} {a : Act} {w : World} (h : OpG ops i op (some e) js g d) (hv : a.eval (.tmp d) = undef) (hd : d < a.tmps.size) (hk : K (a.put (some e) undef) w) : wpOp P ops Q i K a w := by
  obtain ⟨o, h1, -, h3, h4, -, h6⟩ := h
  unfold wpOp
  rw [h1]
  have e2 : ¬ Region.wanted o (yielded ops a.tmps) = true := by
    have ht : a.tmps[d]? = some undef := by
      rw [Array.getElem?_eq_getElem hd]
      have := hv
      simp only [Act.eval, Array.getD, hd, dif_pos] at this
      exact congrArg some this
    simp only [Region.wanted, h4, yielded]
    rw [h6]
    simp [ht, undef]
  dsimp only
  rw [if_neg e2, h3]
  exact hk
theorem OpN.skipU {P : Program} {ops : Array Oper} {Q : Exit → Act → World → Prop} {K : Act → World → Prop} {i g : Nat} {d e : Tmp} {op : Op} {js : List Nat} {a : Act} {w : World} (h : OpN ops i op (some e) js g d) (hv : a.eval (.tmp d) = undef) (hd : d < a.tmps.size) (hk : K (a.put (some e) undef) w) : wpOp P ops Q i K a w := by
  obtain ⟨o, h1, -, h3, h4, -, h6⟩ := h
  unfold wpOp
  rw [h1]
  have e2 : ¬ Region.wanted o (yielded ops a.tmps) = true := by
    have ht : a.tmps[d]? = some undef := by
      rw [Array.getElem?_eq_getElem hd]
      have := hv
      simp only [Act.eval, Array.getD, hd, dif_pos] at this
      exact congrArg some this
    simp only [Region.wanted, h4, yielded]
    rw [h6]
    simp [ht, undef]
  dsimp only
  rw [if_neg e2, h3]
  exact hk

end Go.Proofs.Ytomboeiaajggoaa
