import Derived.Test.YtomboeiaajggoaaGreatDoorRows
import Derived.Test.YtomboeiaajggoaaGreatDoorChecked
import Derived.Test.YtomboeiaajggoaaGreatDoorPk25
import Derived.ProofKit
import Derived.OpenShut
import Derived.SizedLaws
import Derived.SliceStrings
import Derived.Deep.Slices
import Derived.Deep.Fields
import Derived.ChangeSame
import Derived.Deep.DeepHandedRow
import Derived.Lib.LaidTab
import Derived.LaidSub
import Derived.Test.YtomboeiaajggoaaGreatDoorPk3
import Derived.Test.YtomboeiaajggoaaGreatDoorPk22
import Derived.Test.YtomboeiaajggoaaGreatDoorPk24
import Derived.Test.YtomboeiaajggoaaGreatDoorPk15
import Derived.Test.YtomboeiaajggoaaGreatDoorPk18
import Derived.Test.YtomboeiaajggoaaGreatDoorPk6
import Derived.Test.YtomboeiaajggoaaGreatDoorPk17
import Derived.Test.YtomboeiaajggoaaGreatDoorPk8

/-
  The table of powers of ten, off the rows' list; a world in which the tables stand.
-/
namespace Go.Proofs.YtomboeiaajggoaaGreatDoor
open Go.ChangeShapes Go.WideShapes Go.ChangeAt Go.RowKit Go.Deep

theorem Tryz.gTab : Tryz.prog.globalNamed "internal/strconv.uint64pow10" = some 0 := by kernel_rfl
theorem Tryz.gTabType : (Tryz.prog.globals[0]?).map (·.type) = some 180 := by kernel_rfl
theorem Tryz.gTabCells : Tryz.prog.cellsOf 180 = 20 := by kernel_rfl
theorem Tryz.cells97 : Tryz.prog.cellsOf 148 = 1 := by kernel_rfl

def laidList : List (String × DataW Unit) := [("math/bits.deBruijn32tab", Rows.laid_math_bits_deBruijn32tab), ("math/bits.deBruijn64tab", Rows.laid_math_bits_deBruijn64tab), ("internal/strconv.uint64pow10", Rows.laid_internal_strconv_uint64pow10)]

/-- What the rows' list gives: the table of powers of ten. -/
theorem tab_of {W : World} (h : laidMetH Tryz.prog laidList W) : Tab W := by
  have h1 := laidMetH.filter (fun x => x.1 == "internal/strconv.uint64pow10") h
  have e : laidList.filter (fun x => x.1 == "internal/strconv.uint64pow10") = [("internal/strconv.uint64pow10", Lib.tabData .u64 Lib.pow10Tab)] := by kernel_rfl
  rw [e] at h1
  exact Lib.tabIs_of_head (rest := []) Tryz.gTab Tryz.gTabType Tryz.underlying180 Tryz.underlying148 Tryz.cells97 Tryz.gTabCells h1

/-- A variable's cells, set. -/
def setVar (h : Array Obj) (g : Nat) (cs : List Value) : Array Obj := h.modify g fun | .cells _ t frozen => .cells cs.toArray t frozen | o => o

/-- A world in which the tables hold what their initialisers lay. -/
noncomputable def laidWorld (os : Os) : World :=
  { World.holding Tryz.prog os ⟨#[], #[], []⟩ with
    heap := setVar (setVar (setVar (World.holding Tryz.prog os ⟨#[], #[], []⟩).heap 0 (Lib.pow10Tab.map (Value.int .u64)))
      1 (([0, 1, 28, 2, 29, 14, 24, 3, 30, 22, 20, 15, 25, 17, 4, 8, 31, 27, 13, 23, 21, 19, 16, 7, 26, 12, 18, 6, 11, 5, 10, 9] : List Int).map (Value.int .u8)))
      2 (([0, 1, 56, 2, 57, 49, 28, 3, 61, 58, 42, 50, 38, 29, 17, 4, 62, 47, 59, 36, 45, 43, 51, 22, 53, 39, 33, 30, 24, 18, 12, 5, 63, 55, 48, 27, 60, 41, 37, 16, 46, 35, 44, 21, 52, 32, 23, 11, 54, 26, 40, 15, 34, 20, 31, 10, 25, 14, 19, 9, 13, 8, 7, 6] : List Int).map (Value.int .u8)) }

end Go.Proofs.YtomboeiaajggoaaGreatDoor

/-
  What comes in, read as data: rows of lines, rows of structures.
-/
namespace Go.Proofs.YtomboeiaajggoaaGreatDoor
open Go.ChangeShapes Go.WideShapes Go.ChangeAt Go.RowKit Go.Deep

theorem Tryz.own : ownKnob Tryz.prog.godebug = none := by kernel_rfl
theorem Tryz.laidOut : laidOutB Tryz.prog = true := by kernel_rfl
theorem Tryz.cells9 : Tryz.prog.cellsOf 9 = 1 := by kernel_rfl

section
variable {H : Type} {enc : TypeId × Value → H} {P : Program} {w : World} {base : Nat} {spare : Nat → Bool} {held : Bool}
/-- A slice of structures, each field one cell: the cells, and each field's reading. -/
theorem open_slice_fields {t e : TypeId} {fs : Array Field} {fuel : Nat} {cs : List Value} {x : DataW H × List MemPlace} (ht : P.underlying t = some (.slice e)) (he : P.underlying e = some (.struct fs))
    (hone : oneCellFields P fs = true) (hC : P.cellsOf e = fs.size) (h : DataW.trod enc P w base spare held fuel t cs = some x) :
    (cs = [.slice none 0 0] ∧ x = (.nil, [])) ∨
    ∃ (a : Addr) (len cap m : Nat) (D : Nat → DataW H) (Pl : Nat → List MemPlace), cs = [.slice (some a) len cap] ∧ len ≤ cap ∧ m = (if spare a.block then cap else len) ∧
      x = (.slice ((List.range len).map D) ((List.range (m - len)).map fun j => D (len + j)), MemPlace.row a (m * fs.size) ++ (List.range m).flatMap Pl) ∧
      ∀ i, i < m → ∃ (ys : List (DataW H × List MemPlace)) (n : Nat), D i = .agg (ys.map (·.1)) ∧ ys.length = fs.size ∧
        ∀ (j : Nat) (f : Field), fs[j]? = some f → ∃ (v : Value) (y : DataW H × List MemPlace), w.cell? (a.add (i * fs.size + j)) = some v ∧ ys[j]? = some y ∧ DataW.trod enc P w base spare held n f.type [v] = some y := by
  rcases open_slice ht h with h0 | ⟨a, len, cap, m, n, D, Pl, hcs, _, hl, _, hmm, hx, hi⟩
  · exact .inl h0
  · refine .inr ⟨a, len, cap, m, D, Pl, hcs, hl, hmm, by rw [hC] at hx; exact hx, fun i him => ?_⟩
    obtain ⟨cs', hc, ht'⟩ := hi i him
    rw [hC] at hc
    obtain ⟨ys, n', _, hy, _, hyl, hf⟩ := DataW.trod_struct he ht'
    obtain ⟨_, _, hat⟩ := World.cells?_some hc
    simp only [Prod.mk.injEq] at hy
    have hcl : cs'.length = fs.size := by assumption
    refine ⟨ys, n', hy.1, hyl, fun j f hj => ?_⟩
    obtain ⟨ho, hk⟩ := hone_of hone j f hj
    have hjl : j < fs.size := (Array.getElem?_eq_some_iff.1 hj).1
    have hcell := hat j hjl
    have hv : cs'[j]? = some (cs'[j]'(by omega)) := List.getElem?_eq_getElem (by omega)
    have h1 := hf j f hj
    rw [ho, hk] at h1
    have hone' : (cs'.drop j).take 1 = [cs'[j]'(by omega)] := by
      rw [List.drop_eq_getElem_cons (by omega)]
      rfl
    rw [hone'] at h1
    have hys : ys[j]? = some (ys[j]'(by omega)) := List.getElem?_eq_getElem (by omega)
    refine ⟨_, _, ?_, hys, h1.trans hys⟩
    rw [← Go.Deep.add_add, hcell, hv]
end

theorem list_of {α : Type} {Q : Nat → α → Prop} : ∀ n : Nat, (∀ i, i < n → ∃ x, Q i x) → ∃ l : List α, l.length = n ∧ ∀ (i : Nat) x, l[i]? = some x → Q i x
  | 0, _ => ⟨[], rfl, fun i x h => by simp at h⟩
  | n + 1, h => by
    obtain ⟨l, hl, hq⟩ := list_of n fun i hi => h i (by omega)
    obtain ⟨x, hx⟩ := h n (by omega)
    refine ⟨l ++ [x], by simp [hl], fun i y hy => ?_⟩
    rcases Nat.lt_or_ge i n with hi | hi
    · rw [List.getElem?_append_left (by omega)] at hy
      exact hq i y hy
    · rw [List.getElem?_append_right (by omega), hl] at hy
      have hi0 : i - n = 0 := by
        rcases Nat.eq_zero_or_pos (i - n) with h0 | h0
        · exact h0
        · rw [List.getElem?_eq_none (by simp; omega)] at hy; cases hy
      rw [hi0] at hy
      simp at hy
      subst hy
      obtain rfl : i = n := by omega
      exact hx

theorem bulk_strs {H : Type} (ss : List ByteArray) : Rows.uptoBulkAll (strs (H := H) ss) = ss.length + (ss.map ByteArray.size).sum := by
  induction ss with
  | nil => rfl
  | cons s ss ih =>
    simp only [strs, List.map_cons, Rows.uptoBulkAll, Rows.uptoBulk, List.length_cons, List.sum_cons] at ih ⊢
    rw [ih]
    have : s.data.toList.length = s.size := by rw [Array.length_toList]; rfl
    omega

/-- A row of lines that came in, nil or not, and what it weighs. -/
theorem came_lines {H : Type} {enc : TypeId × Value → H} {W : World} {v : Value} {fuel : Nat} {x : DataW H × List MemPlace}
    (hf : DataW.trod enc Tryz.prog W 0 (fun _ => true) true fuel 32 [v] = some x) : ∃ A n c ss, v = .slice A n c ∧ n ≤ c ∧ Row W A n ss ∧ ss.length + (ss.map ByteArray.size).sum ≤ Rows.uptoBulk x.1 := by
  rcases open_strings Tryz.underlying32 Tryz.underlying9 Tryz.cells9 hf with ⟨hcs, hx⟩ | ⟨a, len, cap, ss, hcs, _, hl, hm, hz, hx, hcell, _⟩
  · simp at hcs
    exact ⟨none, 0, 0, [], hcs, Nat.le_refl _, Row.none, by simp⟩
  · simp at hcs
    subst hx
    simp only [if_true] at hz
    obtain ⟨b, off, spot⟩ := a
    refine ⟨_, len, cap, ss.take len, hcs, hl, ⟨by rw [List.length_take]; omega, fun h0 => ?_⟩, ?_⟩
    · have hspot : spot = none := by simpa [Addr.add] using World.cell?_spot (hcell 0 (by omega))
      subst hspot
      refine ⟨b, off, rfl, fun j s hs => ?_⟩
      have hj : j < len := by
        have := (List.getElem?_eq_some_iff.1 hs).1
        rw [List.length_take] at this; omega
      rw [List.getElem?_take_of_lt hj] at hs
      have := hcell j (by omega)
      rw [plain_add] at this
      rw [this]
      simp [List.getD, hs]
    · simp only [Rows.uptoBulk]
      rw [bulk_strs (ss.take len)]
      omega

end Go.Proofs.YtomboeiaajggoaaGreatDoor

/-
  Calls that come in: from what is read as data to what the laws ask.
-/
namespace Go.Proofs.YtomboeiaajggoaaGreatDoor
open Go.ChangeShapes Go.WideShapes Go.ChangeAt Go.RowKit Go.Deep

theorem bulk_range {H : Type} (D : Nat → DataW H) : ∀ (n : Nat) (os : List OpC), os.length = n → (∀ (i : Nat) x, os[i]? = some x → weight x.v + 1 ≤ Rows.uptoBulk (D i)) → weightL os + n ≤ Rows.uptoBulkAll ((List.range n).map D)
  | 0, os, h, _ => by
    have : os = [] := List.eq_nil_of_length_eq_zero h
    subst this; simp [weightL]
  | n + 1, os, h, hw => by
    have key : ∀ (l r : List (DataW H)), Rows.uptoBulkAll (l ++ r) = Rows.uptoBulkAll l + Rows.uptoBulkAll r := fun l r => by
      induction l with
      | nil => simp [Rows.uptoBulkAll]
      | cons x l ih => simp only [List.cons_append, Rows.uptoBulkAll, ih]; omega
    have ih := bulk_range D n (os.take n) (by rw [List.length_take]; omega) (fun i x hx => hw i x (by
      have hi : i < n := by have := (List.getElem?_eq_some_iff.1 hx).1; rw [List.length_take] at this; omega
      rwa [List.getElem?_take_of_lt hi] at hx))
    have hz : os[n]? = some (os[n]'(by omega)) := List.getElem?_eq_getElem (by omega)
    have h1 := hw n _ hz
    have h2 := weight_take hz
    rw [show os.take (n + 1) = os from List.take_of_length_le (by omega)] at h2
    rw [List.range_succ, List.map_append, key]
    simp only [List.map_cons, List.map_nil, Rows.uptoBulkAll]
    omega

def opFields : Array Field := #[{ name := "Kind", type := 3, offset := 0, embedded := false, tag := "", pkgPath := "", byteOffset := 0 }, { name := "Name", type := 9, offset := 1, embedded := false, tag := "", pkgPath := "", byteOffset := 8 }, { name := "To", type := 9, offset := 2, embedded := false, tag := "", pkgPath := "", byteOffset := 24 }, { name := "L", type := 32, offset := 3, embedded := false, tag := "", pkgPath := "", byteOffset := 40 }]
theorem Tryz.opOne : oneCellFields Tryz.prog opFields = true := by kernel_rfl
theorem Tryz.opCells4 : Tryz.prog.cellsOf 92 = opFields.size := by kernel_rfl

/-- Calls that came in, nil or not. -/
theorem came_script {H : Type} {enc : TypeId × Value → H} {W : World} {v : Value} {fuel : Nat} {x : DataW H × List MemPlace}
    (hf : DataW.trod enc Tryz.prog W 0 (fun _ => true) true fuel 45 [v] = some x) (hb : Rows.uptoBulk x.1 ≤ 1048576) : ∃ A n c os, v = .slice A n c ∧ CameS W A n os := by
  rcases open_slice_fields (fs := opFields) Tryz.underlying45 Tryz.underlying92 Tryz.opOne Tryz.opCells4 hf with ⟨hcs, hx⟩ | ⟨a, len, cap, m, D, Pl, hcs, hl, hm, hx, hi⟩
  · simp at hcs
    exact ⟨none, 0, 0, [], hcs, ⟨RowK.none, (fun o ho => by cases ho)⟩, Nat.zero_le _, by simp [weightL]⟩
  · simp only [if_true] at hm
    have hsz : opFields.size = 4 := rfl
    have hel : ∀ i, i < len → ∃ o : OpC, (∀ (j : Nat) u, (opCells o)[j]? = some u → W.cell? (a.add (i * 4 + j)) = some u) ∧ Row W o.A o.n o.v.l ∧ o.n ≤ o.c ∧ weight o.v + 1 ≤ Rows.uptoBulk (D i) := fun i hil => by
      obtain ⟨ys, n, hD, hyl, hfld⟩ := hi i (by omega)
      obtain ⟨v0, y0, c0, e0, t0⟩ := hfld 0 _ rfl
      obtain ⟨v1, y1, c1, e1, t1⟩ := hfld 1 _ rfl
      obtain ⟨v2, y2, c2, e2, t2⟩ := hfld 2 _ rfl
      obtain ⟨v3, y3, c3, e3, t3⟩ := hfld 3 _ rfl
      obtain ⟨kd, hk, _, _⟩ := DataW.trod_int Tryz.underlying3 t0
      obtain ⟨s1, hs1, hy1, _⟩ := DataW.trod_string Tryz.underlying9 t1
      obtain ⟨s2, hs2, hy2, _⟩ := DataW.trod_string Tryz.underlying9 t2
      obtain ⟨Al, nl, cl, l, hv3, hnc, hrow, hwl⟩ := came_lines t3
      simp only [List.cons.injEq, and_true] at hk hs1 hs2
      subst hk hs1 hs2 hv3
      rw [hsz] at c0 c1 c2 c3 hyl
      refine ⟨⟨⟨kd, s1, s2, l⟩, Al, nl, cl⟩, fun j u hj => ?_, hrow, hnc, ?_⟩
      · simp only [opCells] at hj
        match j, hj with
        | 0, hj => simp at hj; subst hj; exact c0
        | 1, hj => simp at hj; subst hj; exact c1
        | 2, hj => simp at hj; subst hj; exact c2
        | 3, hj => simp at hj; subst hj; exact c3
        | j + 4, hj => simp at hj
      · match ys, hyl, e0, e1, e2, e3 with
        | [z0, z1, z2, z3], _, e0, e1, e2, e3 =>
          simp only [List.getElem?_cons_zero, List.getElem?_cons_succ, Option.some.injEq] at e0 e1 e2 e3
          subst e0 e1 e2 e3
          rw [hD]
          simp only [List.map_cons, List.map_nil, Rows.uptoBulk, Rows.uptoBulkAll]
          rw [hy1, hy2]
          simp only [Rows.uptoBulk, weight]
          have l1 : s1.data.toList.length = s1.size := by rw [Array.length_toList]; rfl
          have l2 : s2.data.toList.length = s2.size := by rw [Array.length_toList]; rfl
          omega
    obtain ⟨os, hol, hoq⟩ := list_of len hel
    have hwt := bulk_range D len os hol fun i o ho => (hoq i o ho).2.2.2
    have hbk : Rows.uptoBulkAll ((List.range len).map D) ≤ 1048576 := by
      subst hx
      simp only [Rows.uptoBulk] at hb
      omega
    simp at hcs
    have hmem : ∀ o ∈ os, Row W o.A o.n o.v.l ∧ o.n ≤ o.c := fun o ho => by
      obtain ⟨i, hio⟩ := List.getElem?_of_mem ho
      have := hoq i o hio
      exact ⟨this.2.1, this.2.2.1⟩
    refine ⟨some a, len, cap, os, hcs, ⟨⟨by simp [hol], fun cs hcs => ?_, fun h0 => ?_⟩, fun o ho => hmem o ho⟩, by omega, by omega⟩
    · obtain ⟨o, _, rfl⟩ := List.mem_map.1 hcs
      rfl
    · obtain ⟨b, off, spot⟩ := a
      have h00 := (hoq 0 (os[0]'(by omega)) (List.getElem?_eq_getElem (by omega))).1 0 _ rfl
      have hspot : spot = none := by simpa [Addr.add] using World.cell?_spot h00
      subst hspot
      refine ⟨b, off, rfl, fun j i cs u hj hi => ?_⟩
      rw [List.getElem?_map] at hj
      obtain ⟨o, ho, rfl⟩ := Option.map_eq_some_iff.1 hj
      have := (hoq j o ho).1 i u hi
      rw [plain_add, ← Nat.add_assoc] at this
      exact this

end Go.Proofs.YtomboeiaajggoaaGreatDoor

/-
  Prims that come in: from what is read as data to what the laws ask.
-/
namespace Go.Proofs.YtomboeiaajggoaaGreatDoor
open Go.ChangeShapes Go.WideShapes Go.ChangeAt Go.RowKit Go.Deep

def primFields : Array Field := #[{ name := "Kind", type := 3, offset := 0, embedded := false, tag := "", pkgPath := "", byteOffset := 0 }, { name := "Name", type := 9, offset := 1, embedded := false, tag := "", pkgPath := "", byteOffset := 8 }, { name := "To", type := 9, offset := 2, embedded := false, tag := "", pkgPath := "", byteOffset := 24 }, { name := "At", type := 3, offset := 3, embedded := false, tag := "", pkgPath := "", byteOffset := 40 }, { name := "Old", type := 32, offset := 4, embedded := false, tag := "", pkgPath := "", byteOffset := 48 }, { name := "New", type := 32, offset := 5, embedded := false, tag := "", pkgPath := "", byteOffset := 72 }]
theorem Tryz.primOne : oneCellFields Tryz.prog primFields = true := by kernel_rfl
theorem Tryz.primCells6 : Tryz.prog.cellsOf 70 = primFields.size := by kernel_rfl

/-- Six fields make a prim. -/
theorem prim_of {H : Type} {enc : TypeId × Value → H} {W : World} {fuel : Nat} {ys : List (DataW H × List MemPlace)} {Q : Nat → Value → Prop} (hyl : ys.length = 6)
    (hfld : ∀ (j : Nat) (f : Field), primFields[j]? = some f → ∃ (v : Value) (y : DataW H × List MemPlace), Q j v ∧ ys[j]? = some y ∧ DataW.trod enc Tryz.prog W 0 (fun _ => true) true fuel f.type [v] = some y) :
    ∃ x : PrC, (∀ (j : Nat) u, (prL x)[j]? = some u → Q j u) ∧ Row W x.A x.n x.v.old ∧ Row W x.B x.m x.v.new ∧ x.n ≤ x.c ∧ x.m ≤ x.d ∧ -9223372036854775808 ≤ x.v.place ∧ x.v.place ≤ 9223372036854775807 ∧ weightP x.v + 1 ≤ Rows.uptoBulk (.agg (ys.map (·.1))) := by
  obtain ⟨v0, y0, c0, e0, t0⟩ := hfld 0 _ rfl
  obtain ⟨v1, y1, c1, e1, t1⟩ := hfld 1 _ rfl
  obtain ⟨v2, y2, c2, e2, t2⟩ := hfld 2 _ rfl
  obtain ⟨v3, y3, c3, e3, t3⟩ := hfld 3 _ rfl
  obtain ⟨v4, y4, c4, e4, t4⟩ := hfld 4 _ rfl
  obtain ⟨v5, y5, c5, e5, t5⟩ := hfld 5 _ rfl
  obtain ⟨kd, hk, _, _⟩ := DataW.trod_int Tryz.underlying3 t0
  obtain ⟨s1, hs1, hy1, _⟩ := DataW.trod_string Tryz.underlying9 t1
  obtain ⟨s2, hs2, hy2, _⟩ := DataW.trod_string Tryz.underlying9 t2
  obtain ⟨pl, hp, _, hwf⟩ := DataW.trod_int Tryz.underlying3 t3
  obtain ⟨Al, nl, cl, l, hv4, hnc, hrow, hwl⟩ := came_lines t4
  obtain ⟨Bl, ml, dl, r, hv5, hmd, hrow2, hwr⟩ := came_lines t5
  simp only [List.cons.injEq, and_true] at hk hs1 hs2 hp
  subst hk hs1 hs2 hp hv4 hv5
  have hwf' : -9223372036854775808 ≤ pl ∧ pl ≤ 9223372036854775807 := by
    simp only [Lit.wf, Bool.and_eq_true, decide_eq_true_eq] at hwf
    exact hwf
  refine ⟨⟨⟨kd, s1, s2, pl, l, r⟩, Al, nl, cl, Bl, ml, dl⟩, fun j u hj => ?_, hrow, hrow2, hnc, hmd, hwf'.1, hwf'.2, ?_⟩
  · simp only [prL] at hj
    match j, hj with
    | 0, hj => simp at hj; subst hj; exact c0
    | 1, hj => simp at hj; subst hj; exact c1
    | 2, hj => simp at hj; subst hj; exact c2
    | 3, hj => simp at hj; subst hj; exact c3
    | 4, hj => simp at hj; subst hj; exact c4
    | 5, hj => simp at hj; subst hj; exact c5
    | j + 6, hj => simp at hj
  · match ys, hyl, e0, e1, e2, e3, e4, e5 with
    | [z0, z1, z2, z3, z4, z5], _, e0, e1, e2, e3, e4, e5 =>
      simp only [List.getElem?_cons_zero, List.getElem?_cons_succ, Option.some.injEq] at e0 e1 e2 e3 e4 e5
      subst e0 e1 e2 e3 e4 e5
      simp only [List.map_cons, List.map_nil, Rows.uptoBulk, Rows.uptoBulkAll]
      rw [hy1, hy2]
      simp only [Rows.uptoBulk, weightP]
      have l1 : s1.data.toList.length = s1.size := by rw [Array.length_toList]; rfl
      have l2 : s2.data.toList.length = s2.size := by rw [Array.length_toList]; rfl
      omega

/-- A prim that came in. -/
theorem came_prim {H : Type} {enc : TypeId × Value → H} {W : World} {cs : Array Value} {fuel : Nat} {x : DataW H × List MemPlace}
    (hf : DataW.trod enc Tryz.prog W 0 (fun _ => true) true fuel 70 (Value.agg cs).cells.toList = some x) (hb : Rows.uptoBulk x.1 ≤ 1048576) : ∃ y, Value.agg cs = prV y ∧ CameP W y := by
  obtain ⟨ys, n', _, hy, hcl, hyl, hfl⟩ := DataW.trod_struct (fs := primFields) Tryz.underlying70 hf
  rw [Tryz.primCells6] at hcl
  have hsz : primFields.size = 6 := rfl
  rw [hsz] at hcl hyl
  have hcs : (Value.agg cs).cells.toList = cs.toList := rfl
  rw [hcs] at hcl hfl
  obtain ⟨y, h1, h2, h3, h4, h5, h6, h7, h8⟩ := prim_of (W := W) (enc := enc) (fuel := n') (Q := fun j v => cs.toList[j]? = some v) hyl fun j f hj => by
    obtain ⟨ho, hk⟩ := hone_of Tryz.primOne j f hj
    have hjl : j < 6 := (Array.getElem?_eq_some_iff.1 hj).1
    have hv : cs.toList[j]? = some (cs.toList[j]'(by omega)) := List.getElem?_eq_getElem (by omega)
    have h1 := hfl j f hj
    rw [ho, hk] at h1
    have hone' : (cs.toList.drop j).take 1 = [cs.toList[j]'(by omega)] := by
      rw [List.drop_eq_getElem_cons (by omega)]
      rfl
    rw [hone'] at h1
    have hys : ys[j]? = some (ys[j]'(by omega)) := List.getElem?_eq_getElem (by omega)
    exact ⟨_, _, hv, hys, h1.trans hys⟩
  subst hy
  dsimp only at hb
  refine ⟨y, ?_, h2, h3, h4, h5, h6, h7, by omega⟩
  have : cs.toList = prL y := by
    refine List.ext_getElem? fun j => ?_
    by_cases hj : j < 6
    · have hjl : (prL y)[j]? = some ((prL y)[j]'hj) := List.getElem?_eq_getElem hj
      rw [hjl, h1 j _ hjl]
    · rw [List.getElem?_eq_none (by omega), List.getElem?_eq_none (by show 6 ≤ j; omega)]
  unfold prV
  congr 1
  exact Array.ext' this

theorem bulkP_range {H : Type} (D : Nat → DataW H) : ∀ (n : Nat) (xs : List PrC), xs.length = n → (∀ (i : Nat) x, xs[i]? = some x → weightP x.v + 1 ≤ Rows.uptoBulk (D i)) → weightPs xs + n ≤ Rows.uptoBulkAll ((List.range n).map D)
  | 0, xs, h, _ => by
    have : xs = [] := List.eq_nil_of_length_eq_zero h
    subst this; simp [weightPs]
  | n + 1, xs, h, hw => by
    have key : ∀ (l r : List (DataW H)), Rows.uptoBulkAll (l ++ r) = Rows.uptoBulkAll l + Rows.uptoBulkAll r := fun l r => by
      induction l with
      | nil => simp [Rows.uptoBulkAll]
      | cons x l ih => simp only [List.cons_append, Rows.uptoBulkAll, ih]; omega
    have ih := bulkP_range D n (xs.take n) (by rw [List.length_take]; omega) (fun i x hx => hw i x (by
      have hi : i < n := by have := (List.getElem?_eq_some_iff.1 hx).1; rw [List.length_take] at this; omega
      rwa [List.getElem?_take_of_lt hi] at hx))
    have hz : xs[n]? = some (xs[n]'(by omega)) := List.getElem?_eq_getElem (by omega)
    have h1 := hw n _ hz
    have h2 := weightPs_take hz
    rw [show xs.take (n + 1) = xs from List.take_of_length_le (by omega)] at h2
    rw [List.range_succ, List.map_append, key]
    simp only [List.map_cons, List.map_nil, Rows.uptoBulkAll]
    omega

end Go.Proofs.YtomboeiaajggoaaGreatDoor

/-
  Rows of prims that come in.
-/
namespace Go.Proofs.YtomboeiaajggoaaGreatDoor
open Go.ChangeShapes Go.WideShapes Go.ChangeAt Go.RowKit Go.Deep

/-- What is asked of prims that come in. -/
structure CamePs (w : World) (A : Option Addr) (n : Nat) (xs : List PrC) : Prop where
  prims : Prims w A n xs
  many : n ≤ 1048576
  weigh : weightPs xs ≤ 1048576

/-- Prims that came in, nil or not. -/
theorem came_prims {H : Type} {enc : TypeId × Value → H} {W : World} {v : Value} {fuel : Nat} {x : DataW H × List MemPlace}
    (hf : DataW.trod enc Tryz.prog W 0 (fun _ => true) true fuel 22 [v] = some x) (hb : Rows.uptoBulk x.1 ≤ 1048576) : ∃ A n c xs, v = .slice A n c ∧ CamePs W A n xs := by
  rcases open_slice_fields (fs := primFields) Tryz.underlying22 Tryz.underlying70 Tryz.primOne Tryz.primCells6 hf with ⟨hcs, hx⟩ | ⟨a, len, cap, m, D, Pl, hcs, hl, hm, hx, hi⟩
  · simp at hcs
    exact ⟨none, 0, 0, [], hcs, ⟨RowK.none, (fun o ho => by cases ho)⟩, Nat.zero_le _, by simp [weightPs]⟩
  · simp only [if_true] at hm
    have hsz : primFields.size = 6 := rfl
    have hbk : Rows.uptoBulkAll ((List.range len).map D) ≤ 1048576 := by
      subst hx
      simp only [Rows.uptoBulk] at hb
      omega
    have hel : ∀ i, i < len → ∃ x : PrC, (∀ (j : Nat) u, (prL x)[j]? = some u → W.cell? (a.add (i * 6 + j)) = some u) ∧ Row W x.A x.n x.v.old ∧ Row W x.B x.m x.v.new ∧ x.n ≤ x.c ∧ x.m ≤ x.d ∧ -9223372036854775808 ≤ x.v.place ∧ x.v.place ≤ 9223372036854775807 ∧ weightP x.v + 1 ≤ Rows.uptoBulk (D i) := fun i hil => by
      obtain ⟨ys, n, hD, hyl, hfld⟩ := hi i (by omega)
      rw [hsz] at hyl hfld
      rw [hD]
      exact prim_of hyl hfld
    obtain ⟨xs, hol, hoq⟩ := list_of len hel
    have hwt := bulkP_range D len xs hol fun i o ho => (hoq i o ho).2.2.2.2.2.2.2
    simp at hcs
    have hmem : ∀ x ∈ xs, CameP W x := fun x hx => by
      obtain ⟨i, hio⟩ := List.getElem?_of_mem hx
      obtain ⟨_, h2, h3, h4, h5, h6, h7, _⟩ := hoq i x hio
      have := weightPs_mem hx
      exact ⟨h2, h3, h4, h5, h6, h7, by omega⟩
    refine ⟨some a, len, cap, xs, hcs, ⟨⟨by simp [hol], fun cs hcs => ?_, fun h0 => ?_⟩, hmem⟩, by omega, by omega⟩
    · obtain ⟨o, _, rfl⟩ := List.mem_map.1 hcs
      rfl
    · obtain ⟨b, off, spot⟩ := a
      have h00 := (hoq 0 (xs[0]'(by omega)) (List.getElem?_eq_getElem (by omega))).1 0 _ rfl
      have hspot : spot = none := by simpa [Addr.add] using World.cell?_spot h00
      subst hspot
      refine ⟨b, off, rfl, fun j i cs u hj hi => ?_⟩
      rw [List.getElem?_map] at hj
      obtain ⟨o, ho, rfl⟩ := Option.map_eq_some_iff.1 hj
      have := (hoq j o ho).1 i u hi
      rw [plain_add, ← Nat.add_assoc] at this
      exact this

end Go.Proofs.YtomboeiaajggoaaGreatDoor

/-
  The guards of layer 5's laws; rows that came in.
-/
namespace Go.Proofs.YtomboeiaajggoaaGreatDoor
open Go.RowKit Go.Maps

def fr (A : Option Addr) (n c : Nat) (xs : List PrC) : FR := ⟨A, n, c, xs⟩
theorem few_one {A1 : Option Addr} {n1 c1 : Nat} {xs : List PrC} {w m1 : World} (hx : CamePs w A1 n1 xs) (hl : Later w m1) : Calls Tryz.prog 6 #[.slice (some ⟨m1.heap.size, 0, none⟩) 1 1] (m1.alloc (.cells #[.slice A1 n1 c1] 22)) (Says (fewB [fr A1 n1 c1 xs]) (m1.alloc (.cells #[.slice A1 n1 c1] 22))) := by
  refine few5_any _ 1 _ _ rfl (by omega) (fun k q hq => ?_) (fun r hr => ?_)
  · match k, hq with
    | 0, hq => cases hq; exact (BoxAt.made m1 _ _).cell (i := 0) rfl
    | k + 1, hq => simp at hq
  · simp only [List.mem_cons, List.not_mem_nil, or_false] at hr
    subst hr
    exact ⟨hx.prims.later (hl.alloc _), hx.many, by have := hx.weigh; dsimp only [fr]; omega⟩
theorem few_two {A1 A2 : Option Addr} {n1 c1 n2 c2 : Nat} {xs ys : List PrC} {w m1 : World} (hx : CamePs w A1 n1 xs) (hy : CamePs w A2 n2 ys) (hl : Later w m1) : Calls Tryz.prog 6 #[.slice (some ⟨m1.heap.size, 0, none⟩) 2 2] (m1.alloc (.cells #[.slice A1 n1 c1, .slice A2 n2 c2] 22)) (Says (fewB [fr A1 n1 c1 xs, fr A2 n2 c2 ys]) (m1.alloc (.cells #[.slice A1 n1 c1, .slice A2 n2 c2] 22))) := by
  refine few5_any _ 2 _ _ rfl (by omega) (fun k q hq => ?_) (fun r hr => ?_)
  · match k, hq with
    | 0, hq => cases hq; exact (BoxAt.made m1 _ _).cell (i := 0) rfl
    | 1, hq => cases hq; exact (BoxAt.made m1 _ _).cell (i := 1) rfl
    | k + 2, hq => simp at hq
  · simp only [List.mem_cons, List.not_mem_nil, or_false] at hr
    rcases hr with rfl | rfl
    · exact ⟨hx.prims.later (hl.alloc _), hx.many, by have := hx.weigh; dsimp only [fr]; omega⟩
    · exact ⟨hy.prims.later (hl.alloc _), hy.many, by have := hy.weigh; dsimp only [fr]; omega⟩
theorem fewB_one {A1 : Option Addr} {n1 c1 : Nat} {xs : List PrC} (h : fewB [fr A1 n1 c1 xs] = true) : n1 ≤ 40 ∧ weightPs xs ≤ 6000 := by
  simp [fewB, sumB, sumN, fr] at h
  omega
theorem fewB_two {A1 A2 : Option Addr} {n1 c1 n2 c2 : Nat} {xs ys : List PrC} (h : fewB [fr A1 n1 c1 xs, fr A2 n2 c2 ys] = true) : n1 + n2 ≤ 40 ∧ weightPs xs + weightPs ys ≤ 6000 := by
  simp [fewB, sumB, sumN, fr] at h
  omega
theorem linesS_weight (xs : List PrC) : linesS (valsP xs) ≤ weightPs xs := by
  induction xs with
  | nil => exact Nat.le_refl _
  | cons x xs ih =>
    have h1 : weightPs (x :: xs) = weightP x.v + weightPs xs := by simp [weightPs]
    have h2 : linesS (valsP (x :: xs)) = x.v.old.length + x.v.new.length + linesS (valsP xs) := linesS_cons _ _
    rw [h1, h2]
    unfold weightP
    omega
theorem new_r {A : Option Addr} {n c : Nat} {xs : List PrC} {w m : World} (hx : CamePs w A n xs) (hl : Later w m) (hw : weightPs xs ≤ 6000) (hn : n ≤ 40) : Calls Tryz.prog 8 #[.slice A n c] m (GivesV (valsP xs) m) := by
  refine (lawNew_any A n c xs m ((hx.prims.ok (by omega)).later hl) (by omega)).mono ?_
  rintro e w1 ⟨v1, xs1, rfl, ho, hv⟩
  exact ⟨v1, rfl, ho.val hv, ho.later⟩
theorem CamePs.length {A : Option Addr} {n : Nat} {xs : List PrC} {w : World} (hx : CamePs w A n xs) : (valsP xs).length = n := by
  rw [valsP_length]
  have := hx.prims.row.len
  simpa using this
section
variable {t u : Tr} {l : List Pr} {k h : Nat}
theorem applyS_sized (hs : Sized k h t) (ha : applyS t l = (u, 0)) (hk : k + l.length ≤ 200) (hh : h + linesS l ≤ 20000) : Sized 200 20000 u := by
  have h1 := runS_sized (l := l) hs
  rw [applyS_ok.1 ha] at h1
  exact h1.mono hk hh
end

end Go.Proofs.YtomboeiaajggoaaGreatDoor

/-
  Operations over the document's own prims, of a region that draws its order.
-/
namespace Go.Proofs.YtomboeiaajggoaaGreatDoor
open Go.RowKit Go.Maps

section
variable {ops : Array Oper} {Q : Exit → Act → World → Prop} {K : Act → World → Prop} {i : Nat} {dst : Option Tmp} {js : List Nat} {a : Act} {w w0 : World}
theorem OpIs.indexR {j k : Tmp} {g o n c m : Nat} (h : OpIs ops i (.indexAddr 22 (.tmp j) (.tmp k)) dst js) (hj : a.eval (.tmp j) = .slice (some ⟨g, o, none⟩) n c) (hk' : a.eval (.tmp k) = .int .i64 (m : Nat)) (hm : m < n) (hk : K (a.put dst (.pointer (some ⟨g, o + m * 6, none⟩))) w) : wpOp Tryz.prog ops Q i K a w :=
  h.go fun op h1 h2 => by
    have hr : (execOp a.eval op).run Tryz.prog w = .ok (.value (.pointer (some ⟨g, o + m * 6, none⟩))) w := by
      unfold execOp
      rw [h1]
      dsimp only
      rw [hj, hk']
      go_simp
    unfold Oper.wp
    rw [hr]
    show K _ _
    rw [h2]
    exact hk
theorem OpIs.loadR {k : Tmp} {g o m n : Nat} {x : PrC} {xs : List PrC} (h : OpIs ops i (.load 70 (.tmp k)) dst js) (he : a.eval (.tmp k) = .pointer (some ⟨g, o + m * 6, none⟩)) (hr : RowK 6 w (some ⟨g, o, none⟩) n (xs.map prL)) (hx : xs[m]? = some x) (hk : K (a.put dst (prV x)) w) : wpOp Tryz.prog ops Q i K a w :=
  h.go fun op h1 h2 => by
    have hm : m < n := by
      have := hr.len
      simp only [List.length_map] at this
      have := (List.getElem?_eq_some_iff.1 hx).1
      omega
    obtain ⟨b', o', q, hA, hz, g0, g1, g2, g3, g4, g5⟩ := hr.getP hm
    cases hA
    rw [hx] at hz
    cases hz
    have hrun : (execOp a.eval op).run Tryz.prog w = .ok (.value (prV x)) w := by
      clear hr hk hx
      unfold prV execOp
      rw [h1]
      dsimp only
      rw [he]
      go_simp
    unfold Oper.wp
    rw [hrun]
    show K _ _
    rw [h2]
    exact hk
theorem OpIs.allocR (h : OpIs ops i (.alloc 70) dst js) (hk : K (a.put dst (.pointer (some ⟨w.heap.size, 0, none⟩))) (w.alloc (.cells zeroL 70))) : wpOp Tryz.prog ops Q i K a w :=
  h.go fun o h1 h2 => by
    have hr : (execOp a.eval o).run Tryz.prog w = .ok (.value (.pointer (some ⟨w.heap.size, 0, none⟩))) (w.alloc (.cells zeroL 70)) := by
      unfold execOp
      rw [h1]
      go_simp
      rfl
    unfold Oper.wp
    rw [hr]
    show K _ _
    rw [h2]
    exact hk
theorem OpIs.storeR {j k : Tmp} {g : Nat} {x : PrC} {cs : Array Value} (h : OpIs ops i (.store 70 (.tmp j) (.tmp k)) none js) (hj : a.eval (.tmp j) = .pointer (some ⟨g, 0, none⟩)) (hv : a.eval (.tmp k) = prV x) (hb : BoxAt w g cs 70) (hs : cs.size = 6)
    (hk : ∀ w', BoxAt w' g (prL x).toArray 70 → Turned g w w' → K a w') : wpOp Tryz.prog ops Q i K a w :=
  h.go fun o h1 h2 => by
    match cs, hs with
    | ⟨[x0, x1, x2, x3, x4, x5]⟩, _ =>
      have y0 : w.cell? ⟨g, 0, none⟩ = some x0 := hb.cell rfl
      have y1 : w.cell? ⟨g, 1, none⟩ = some x1 := hb.cell rfl
      have y2 : w.cell? ⟨g, 2, none⟩ = some x2 := hb.cell rfl
      have y3 : w.cell? ⟨g, 3, none⟩ = some x3 := hb.cell rfl
      have y4 : w.cell? ⟨g, 4, none⟩ = some x4 := hb.cell rfl
      have y5 : w.cell? ⟨g, 5, none⟩ = some x5 := hb.cell rfl
      have z0 := hb.frozen 0; have z1 := hb.frozen 1; have z2 := hb.frozen 2; have z3 := hb.frozen 3; have z4 := hb.frozen 4; have z5 := hb.frozen 5
      have hb' := hb.set6 (.int .i64 x.v.kind) (.string x.v.name) (.string x.v.to) (.int .i64 x.v.place) (.slice x.A x.n x.c) (.slice x.B x.m x.d)
      have ht := turned_set6 w g (.int .i64 x.v.kind) (.string x.v.name) (.string x.v.to) (.int .i64 x.v.place) (.slice x.A x.n x.c) (.slice x.B x.m x.d)
      have hr : (execOp a.eval o).run Tryz.prog w = .ok .skip ((((((w.setCell ⟨g, 0, none⟩ (.int .i64 x.v.kind)).setCell ⟨g, 1, none⟩ (.string x.v.name)).setCell ⟨g, 2, none⟩ (.string x.v.to)).setCell ⟨g, 3, none⟩ (.int .i64 x.v.place)).setCell ⟨g, 4, none⟩ (.slice x.A x.n x.c)).setCell ⟨g, 5, none⟩ (.slice x.B x.m x.d)) := by
        clear hb hb' ht hk
        unfold prV at hv
        unfold execOp
        rw [h1]
        dsimp only
        rw [hj, hv]
        go_simp
      unfold Oper.wp
      rw [hr]
      show K _ _
      rw [h2]
      exact hk _ hb' ht
theorem OpIs.addI {j k : Tmp} {m n : Nat} (h : OpIs ops i (.binOp .add 3 (.tmp j) (.tmp k) 3) dst js) (hj : a.eval (.tmp j) = .int .i64 (m : Nat)) (hk' : a.eval (.tmp k) = .int .i64 (n : Nat)) (hb : m + n ≤ 1000000) (hk : K (a.put dst (.int .i64 (m + n : Nat))) w) : wpOp Tryz.prog ops Q i K a w :=
  h.go fun op h1 h2 => by
    have hr : (execOp a.eval op).run Tryz.prog w = .ok (.value (.int .i64 (m + n : Nat))) w := by
      unfold execOp
      rw [h1]
      dsimp only
      rw [hj, hk']
      go_simp
      rw [IntKind.wrap_i64]
      omega
    unfold Oper.wp
    rw [hr]
    show K _ _
    rw [h2]
    exact hk
theorem OpIs.addC {j : Tmp} {m : Nat} (h : OpIs ops i (.binOp .add 3 (.tmp j) (.const (.int .i64 1)) 3) dst js) (hj : a.eval (.tmp j) = .int .i64 (m : Nat)) (hb : m ≤ 1000000) (hk : K (a.put dst (.int .i64 (m + 1 : Nat))) w) : wpOp Tryz.prog ops Q i K a w :=
  h.go fun op h1 h2 => by
    have hr : (execOp a.eval op).run Tryz.prog w = .ok (.value (.int .i64 (m + 1 : Nat))) w := by
      unfold execOp
      rw [h1]
      dsimp only
      rw [hj]
      go_simp
      rw [IntKind.wrap_i64]
      omega
    unfold Oper.wp
    rw [hr]
    show K _ _
    rw [h2]
    exact hk
end

end Go.Proofs.YtomboeiaajggoaaGreatDoor

/-
  What the document's at and in come to, as calls.
-/
namespace Go.Proofs.YtomboeiaajggoaaGreatDoor
open Go.RowKit Go.Maps

set_option maxRecDepth 100000 in
theorem refAt_exact (kd : Int) (nm to : ByteArray) (pl : Int) (A B : Option Addr) (n c m d : Nat) (k : Int) (w : World) :
    Calls Tryz.prog 109 #[.agg #[.int .i64 kd, .string nm, .string to, .int .i64 pl, .slice A n c, .slice B m d], .int .i64 k] w fun e w' => e = .returned (.agg #[.int .i64 kd, .string nm, .string to, .int .i64 k, .slice A n c, .slice B m d]) ∧ w' = (w.alloc (.cells #[.int .i64 kd, .string nm, .string to, .int .i64 k, .slice A n c, .slice B m d] 70)).alloc (.cells #[.int .i64 kd, .string nm, .string to, .int .i64 k, .slice A n c, .slice B m d] 70) := by
  go_enter Tryz.func109, Tryz.ntmps109
  go_wp2
  exact bodyPost_ret (results_cell_row rfl _ _ (w.heap.size + 1) 70 _ (0, 0) _ rfl (heap_alloc2_new w _ _) Tryz.underlying70 rfl Tryz.refPrimSize) rfl ⟨rfl, rfl⟩

set_option maxRecDepth 100000 in
theorem refIn_exact (kd : Int) (nm to : ByteArray) (pl : Int) (A B : Option Addr) (n c m d : Nat) (k : ByteArray) (w : World) :
    Calls Tryz.prog 110 #[.agg #[.int .i64 kd, .string nm, .string to, .int .i64 pl, .slice A n c, .slice B m d], .string k] w fun e w' => e = .returned (.agg #[.int .i64 kd, .string k, .string to, .int .i64 pl, .slice A n c, .slice B m d]) ∧ w' = (w.alloc (.cells #[.int .i64 kd, .string k, .string to, .int .i64 pl, .slice A n c, .slice B m d] 70)).alloc (.cells #[.int .i64 kd, .string k, .string to, .int .i64 pl, .slice A n c, .slice B m d] 70) := by
  go_enter Tryz.func110, Tryz.ntmps110
  go_wp2
  exact bodyPost_ret (results_cell_row rfl _ _ (w.heap.size + 1) 70 _ (0, 0) _ rfl (heap_alloc2_new w _ _) Tryz.underlying70 rfl Tryz.refPrimSize) rfl ⟨rfl, rfl⟩

end Go.Proofs.YtomboeiaajggoaaGreatDoor

/-
  What the document's common comes to, as a call.
-/
namespace Go.Proofs.YtomboeiaajggoaaGreatDoor
open Go.RowKit Go.Maps

set_option maxRecDepth 100000 in
set_option maxHeartbeats 800000 in
theorem refCommon_any (x y : PrC) (w : World) : Calls Tryz.prog 111 #[prV x, prV y] w (Says (commonP x.v y.v) w) := by
  obtain ⟨b0, b1, hl⟩ := two_boxes w (prL x).toArray (prL y).toArray 70
  have HN := Lib.hid (fun w' => refNamesP_any x w')
  have HM := Lib.hid (fun w' => refNamesP_any y w')
  have hn1 := namesP_length x.v
  have hn2 := namesP_length y.v
  have HE : Hid (commonP x.v y.v = true ↔ ∃ s ∈ namesP x.v, ∃ t ∈ namesP y.v, s = t) := by
    simp only [Hid, commonP, List.any_eq_true, decide_eq_true_eq]
  generalize commonP x.v y.v = cm at HE ⊢
  generalize namesP x.v = l at HN hn1 HE
  generalize namesP y.v = r at HM hn2 HE
  have HB1 := Lib.hid b1; have HL := Lib.hid hl
  clear b0 b1 hl
  unfold prV at HN HM ⊢
  go_enter Tryz.func111, Tryz.ntmps111
  go_wp2_with fail
  refine (HN.out _).mono ?_
  rintro e w1 ⟨A1, c1, rfl, hc1, hr1, hl1⟩
  obtain ⟨q0, q1, q2, q3, q4, q5⟩ := BoxAt.all (x := y) (HB1.out.later hl1)
  have HR1 := Lib.hid hr1
  have HL1 := Lib.hid (HL.out.trans hl1)
  clear hr1 hl1
  go_wp2_with fail
  refine (HM.out _).mono ?_
  rintro e w2 ⟨A2, c2, rfl, hc2, hr2, hl2⟩
  have HX := Lib.hid (HR1.out.later hl2)
  have HY := Lib.hid hr2
  have HL2 := Lib.hid (HL1.out.trans hl2)
  clear hr2 hl2 q0 q1 q2 q3 q4 q5 HR1 HN HM HB1 HL HL1
  generalize hn : l.length = n at hn1 HX hc1 ⊢
  generalize hm : r.length = m at hn2 HY hc2 ⊢
  have HNL := Lib.hid hn; have HML := Lib.hid hm
  clear hn hm
  go_wp2
  go_loopg [7, 8] (n + 1) (fun g s7 _ wr => ∃ k : Nat, k ≤ n ∧ n - k ≤ g ∧ s7 = .int .i64 k ∧ Later w2 wr ∧ Hid (∀ j : Nat, j < k → ¬ ∃ t ∈ r, (l.getD j ByteArray.empty) = t))
  case atStart => exact ⟨0, Nat.zero_le _, by omega, rfl, Later.refl w2, fun j hj => absurd hj (Nat.not_lt_zero _)⟩
  case round =>
    obtain ⟨k, hk, hg, rfl, hwr, hall⟩ := hrel
    have HW := Lib.hid hwr
    clear hwr
    by_cases hlt : k < n
    · obtain ⟨b1, o1, rfl, g1⟩ := (HX.out.later HW.out).get hlt
      have hkl : k < l.length := by rw [HNL.out]; exact hlt
      have HMM := Lib.hid (mem_getD hkl)
      generalize hxk : l.getD k ByteArray.empty = x1 at g1 HMM
      have X := Lib.hid hxk
      have HG1 := Lib.hid g1
      clear hkl hxk g1
      go_wp2
      go_loopg [8] (m + 1) (fun g s8 wx => ∃ i : Nat, i ≤ m ∧ m - i ≤ g ∧ s8 = .int .i64 i ∧ Later wr wx ∧ Hid (∀ j : Nat, j < i → ¬ x1 = (r.getD j ByteArray.empty)))
      case atStart => exact ⟨0, Nat.zero_le _, by omega, rfl, Later.refl wr, fun j hj => absurd hj (Nat.not_lt_zero _)⟩
      case round =>
        obtain ⟨i, hi, hgi, rfl, hwx, hno⟩ := hrel
        have HWX := Lib.hid hwx
        by_cases hil : i < m
        · obtain ⟨b2, o2, rfl, g2⟩ := (HY.out.later (HW.out.trans HWX.out)).get hil
          have g1 := hwx.cell HG1.out
          have hir : i < r.length := by rw [HML.out]; exact hil
          have HMI := Lib.hid (mem_getD hir)
          generalize hyk : r.getD i ByteArray.empty = y1 at g2 HMI
          have Y := Lib.hid hyk
          clear hir hyk hwx
          by_cases hxy : x1 = y1
          · subst hxy
            clear hno hall
            go_wp2_with fail
            go_quiet (fail)
            go_wp2
            go_ret
            exact ⟨ret_bool (HE.out.2 ⟨x1, HMM.out, x1, HMI.out, rfl⟩).symm, HL2.out.trans (HW.out.trans (HWX.out.drewN _))⟩
          · have hb := text_ne hxy
            have HA : Hid (∀ j : Nat, j < i + 1 → ¬ x1 = (r.getD j ByteArray.empty)) := fun j hj => by
              by_cases e : j = i
              · rw [e, Y.out]; exact hxy
              · exact hno.out j (by omega)
            clear hno
            go_wp2_with fail
            go_quiet (fail)
            go_wp2
            go_roundg (m - (i + 1))
            case measure => omega
            case rel => exact ⟨i + 1, by omega, by omega, by go_num, HWX.out.drewN _, HA⟩
        · have HA : Hid (∀ j : Nat, j < k + 1 → ¬ ∃ t ∈ r, (l.getD j ByteArray.empty) = t) := fun j hj => by
            by_cases e : j = k
            · rw [e, X.out]
              exact not_mem_of (p := fun t => x1 = t) fun j hj => hno.out j (by rw [HML.out] at hj; omega)
            · exact hall.out j (by omega)
          clear hno hall hwx
          go_wp2
          go_roundg (n - (k + 1))
          case measure => omega
          case rel => exact ⟨k + 1, by omega, by omega, by go_num, HW.out.trans HWX.out, HA⟩
    · have e : cm = false := by
        rw [← Bool.not_eq_true, HE.out]
        exact not_mem_of (p := fun s => ∃ t ∈ r, s = t) fun j hj => hall.out j (by rw [HNL.out] at hj; omega)
      have E := Lib.hid e; clear e hall
      go_wp2
      go_ret
      exact ⟨ret_bool E.out.symm, HL2.out.trans HW.out⟩

end Go.Proofs.YtomboeiaajggoaaGreatDoor
