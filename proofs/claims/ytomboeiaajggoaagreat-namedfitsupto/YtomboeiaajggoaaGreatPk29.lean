import Derived.Test.YtomboeiaajggoaaGreatRows
import Derived.Test.YtomboeiaajggoaaGreatChecked
import Derived.Test.YtomboeiaajggoaaGreatPk5
import Derived.ProofKit
import Derived.OpenShut
import Derived.SizedLaws
import Derived.SliceStrings
import Derived.Deep.Slices
import Derived.Deep.Fields
import Derived.ChangeSame
import Derived.Deep.DeepHandedRow
import Derived.Lib.LaidTab
import Derived.LaidSub
import Derived.Test.YtomboeiaajggoaaGreatPk6
import Derived.Deep.LoopGhost
import Derived.Lib.Hide
import Derived.Test.YtomboeiaajggoaaGreatPk9
import Derived.Deep.RegionHeld3
import Derived.Test.YtomboeiaajggoaaGreatPk28

/-
  What comes in, read as data: rows of lines, rows of structures.
-/
namespace Go.Proofs.YtomboeiaajggoaaGreat
open Go.ChangeShapes Go.WideShapes Go.ChangeAt Go.RowKit Go.Deep

theorem Tryz.own : ownKnob Tryz.prog.godebug = none := by kernel_rfl
theorem Tryz.laidOut : laidOutB Tryz.prog = true := by kernel_rfl
theorem Tryz.cells9 : Tryz.prog.cellsOf 9 = 1 := by kernel_rfl

section
variable {H : Type} {enc : TypeId × Value → H} {P : Program} {w : World} {base : Nat} {spare : Nat → Bool} {held : Bool}
/-- A slice of structures, each field one cell: the cells, and each field's reading. -/
theorem open_slice_fields {t e : TypeId} {fs : Array Field} {fuel : Nat} {cs : List Value} {x : DataW H × List MemPlace} (ht : P.underlying t = some (.slice e)) (he : P.underlying e = some (.struct fs))
    (hone : oneCellFields P fs = true) (hC : P.cellsOf e = fs.size) (h : DataW.trod enc P w base spare held fuel t cs = some x) :
    (cs = [.slice none 0 0] ∧ x = (.nil, [])) ∨
    ∃ (a : Addr) (len cap m : Nat) (D : Nat → DataW H) (Pl : Nat → List MemPlace), cs = [.slice (some a) len cap] ∧ len ≤ cap ∧ m = (if spare a.block then cap else len) ∧
      x = (.slice ((List.range len).map D) ((List.range (m - len)).map fun j => D (len + j)), MemPlace.row a (m * fs.size) ++ (List.range m).flatMap Pl) ∧
      ∀ i, i < m → ∃ (ys : List (DataW H × List MemPlace)) (n : Nat), D i = .agg (ys.map (·.1)) ∧ ys.length = fs.size ∧
        ∀ (j : Nat) (f : Field), fs[j]? = some f → ∃ (v : Value) (y : DataW H × List MemPlace), w.cell? (a.add (i * fs.size + j)) = some v ∧ ys[j]? = some y ∧ DataW.trod enc P w base spare held n f.type [v] = some y := by
  rcases open_slice ht h with h0 | ⟨a, len, cap, m, n, D, Pl, hcs, _, hl, _, hmm, hx, hi⟩
  · exact .inl h0
  · refine .inr ⟨a, len, cap, m, D, Pl, hcs, hl, hmm, by rw [hC] at hx; exact hx, fun i him => ?_⟩
    obtain ⟨cs', hc, ht'⟩ := hi i him
    rw [hC] at hc
    obtain ⟨ys, n', _, hy, _, hyl, hf⟩ := DataW.trod_struct he ht'
    obtain ⟨_, _, hat⟩ := World.cells?_some hc
    simp only [Prod.mk.injEq] at hy
    have hcl : cs'.length = fs.size := by assumption
    refine ⟨ys, n', hy.1, hyl, fun j f hj => ?_⟩
    obtain ⟨ho, hk⟩ := hone_of hone j f hj
    have hjl : j < fs.size := (Array.getElem?_eq_some_iff.1 hj).1
    have hcell := hat j hjl
    have hv : cs'[j]? = some (cs'[j]'(by omega)) := List.getElem?_eq_getElem (by omega)
    have h1 := hf j f hj
    rw [ho, hk] at h1
    have hone' : (cs'.drop j).take 1 = [cs'[j]'(by omega)] := by
      rw [List.drop_eq_getElem_cons (by omega)]
      rfl
    rw [hone'] at h1
    have hys : ys[j]? = some (ys[j]'(by omega)) := List.getElem?_eq_getElem (by omega)
    refine ⟨_, _, ?_, hys, h1.trans hys⟩
    rw [← Go.Deep.add_add, hcell, hv]
end

theorem list_of {α : Type} {Q : Nat → α → Prop} : ∀ n : Nat, (∀ i, i < n → ∃ x, Q i x) → ∃ l : List α, l.length = n ∧ ∀ (i : Nat) x, l[i]? = some x → Q i x
  | 0, _ => ⟨[], rfl, fun i x h => by simp at h⟩
  | n + 1, h => by
    obtain ⟨l, hl, hq⟩ := list_of n fun i hi => h i (by omega)
    obtain ⟨x, hx⟩ := h n (by omega)
    refine ⟨l ++ [x], by simp [hl], fun i y hy => ?_⟩
    rcases Nat.lt_or_ge i n with hi | hi
    · rw [List.getElem?_append_left (by omega)] at hy
      exact hq i y hy
    · rw [List.getElem?_append_right (by omega), hl] at hy
      have hi0 : i - n = 0 := by
        rcases Nat.eq_zero_or_pos (i - n) with h0 | h0
        · exact h0
        · rw [List.getElem?_eq_none (by simp; omega)] at hy; cases hy
      rw [hi0] at hy
      simp at hy
      subst hy
      obtain rfl : i = n := by omega
      exact hx

theorem bulk_strs {H : Type} (ss : List ByteArray) : Rows.uptoBulkAll (strs (H := H) ss) = ss.length + (ss.map ByteArray.size).sum := by
  induction ss with
  | nil => rfl
  | cons s ss ih =>
    simp only [strs, List.map_cons, Rows.uptoBulkAll, Rows.uptoBulk, List.length_cons, List.sum_cons] at ih ⊢
    rw [ih]
    have : s.data.toList.length = s.size := by rw [Array.length_toList]; rfl
    omega

/-- A row of lines that came in, nil or not, and what it weighs. -/
theorem came_lines {H : Type} {enc : TypeId × Value → H} {W : World} {v : Value} {fuel : Nat} {x : DataW H × List MemPlace}
    (hf : DataW.trod enc Tryz.prog W 0 (fun _ => true) true fuel 67 [v] = some x) : ∃ A n c ss, v = .slice A n c ∧ n ≤ c ∧ Row W A n ss ∧ ss.length + (ss.map ByteArray.size).sum ≤ Rows.uptoBulk x.1 := by
  rcases open_strings Tryz.underlying67 Tryz.underlying9 Tryz.cells9 hf with ⟨hcs, hx⟩ | ⟨a, len, cap, ss, hcs, _, hl, hm, hz, hx, hcell, _⟩
  · simp at hcs
    exact ⟨none, 0, 0, [], hcs, Nat.le_refl _, Row.none, by simp⟩
  · simp at hcs
    subst hx
    simp only [if_true] at hz
    obtain ⟨b, off, spot⟩ := a
    refine ⟨_, len, cap, ss.take len, hcs, hl, ⟨by rw [List.length_take]; omega, fun h0 => ?_⟩, ?_⟩
    · have hspot : spot = none := by simpa [Addr.add] using World.cell?_spot (hcell 0 (by omega))
      subst hspot
      refine ⟨b, off, rfl, fun j s hs => ?_⟩
      have hj : j < len := by
        have := (List.getElem?_eq_some_iff.1 hs).1
        rw [List.length_take] at this; omega
      rw [List.getElem?_take_of_lt hj] at hs
      have := hcell j (by omega)
      rw [plain_add] at this
      rw [this]
      simp [List.getD, hs]
    · simp only [Rows.uptoBulk]
      rw [bulk_strs (ss.take len)]
      omega

end Go.Proofs.YtomboeiaajggoaaGreat

/-
  The document's trees in memory: rows of files, each a name and a row of lines; Get.
-/
namespace Go.Proofs.YtomboeiaajggoaaGreat
open Go.RowKit Go.Maps

def cellsF (z : Fl Held) : List (List Value) := z.map fun f => [.string f.1, f.2.1]
theorem cellsF_length (z : Fl Held) : (cellsF z).length = z.length := by simp [cellsF]

/-- The slice reads as these files. -/
structure RefRow (w : World) (A : Option Addr) (n : Nat) (z : Fl Held) : Prop where
  row : RowK 2 w A n (cellsF z)
  reads : ∀ f ∈ z, Reads w f.2.1 f.2.2

/-- The value is a tree of the document's. -/
def RefAt (w : World) (v : Value) (t : Tr) : Prop := ∃ A n c z, v = .slice A n c ∧ n ≤ c ∧ RefRow w A n z ∧ mapT (·.2) z = t

section
variable {w w' : World} {A : Option Addr} {n : Nat} {z : Fl Held} {v : Value} {t : Tr}
theorem RefRow.len (h : RefRow w A n z) : z.length = n := by rw [← cellsF_length]; exact h.row.len
theorem RefRow.later (h : RefRow w A n z) (hl : Later w w') : RefRow w' A n z := ⟨h.row.later hl, fun f hf => (h.reads f hf).later hl⟩
theorem RefAt.later (h : RefAt w v t) (hl : Later w w') : RefAt w' v t := by
  obtain ⟨A, n, c, z, e, hc, hr, ht⟩ := h; exact ⟨A, n, c, z, e, hc, hr.later hl, ht⟩
theorem RefRow.none : RefRow w A 0 [] := ⟨RowK.none, fun f hf => by cases hf⟩
theorem RefAt.nil (w : World) : RefAt w (.slice none 0 0) [] := ⟨Option.none, 0, 0, [], rfl, Nat.le_refl _, RefRow.none, rfl⟩
theorem RowK.turned {k B : Nat} {css : List (List Value)} (h : RowK k w A n css) (hg : Turned B w w') {es : Array MapEntry} {c : Nat} (hm : w.heap[B]? = some (.map es c)) : RowK k w' A n css :=
  ⟨h.1, h.2.1, fun hn => by
    obtain ⟨b, o, e, hc⟩ := h.2.2 hn
    exact ⟨b, o, e, fun j i cs v h1 h2 => hg.cell (hc j i cs v h1 h2) (not_map hm (hc j i cs v h1 h2))⟩⟩
/-- A map has turned: the document's tree stands. -/
theorem RefAt.turned {B : Nat} (h : RefAt w v t) (hg : Turned B w w') {es : Array MapEntry} {c : Nat} (hm : w.heap[B]? = some (.map es c)) : RefAt w' v t := by
  obtain ⟨A, n, c, z, e, hc, hr, ht⟩ := h
  exact ⟨A, n, c, z, e, hc, ⟨hr.row.turned hg hm, fun f hf => (hr.reads f hf).turned hg hm⟩, ht⟩
theorem RefRow.get (h : RefRow w A n z) {j : Nat} (hj : j < n) : ∃ b o f, A = some ⟨b, o, .none⟩ ∧ z[j]? = some f ∧ w.cell? ⟨b, o + j * 2, .none⟩ = some (.string f.1) ∧ w.cell? ⟨b, o + j * 2 + 1, .none⟩ = some f.2.1 := by
  obtain ⟨b, o, e, cs, hcs, _, hc⟩ := h.row.get hj
  have hl : j < z.length := by rw [h.len]; exact hj
  have hz := List.getElem?_eq_getElem hl
  simp only [cellsF, List.getElem?_map, hz, Option.map_some, Option.some.injEq] at hcs
  subst hcs
  exact ⟨b, o, z[j], e, hz, hc 0 _ rfl, hc 1 _ rfl⟩
end

section
variable {α : Type}
theorem get_at {t : Fl α} {n : ByteArray} {k : Nat} {f : ByteArray × α} (hk : t[k]? = some f) (hf : f.1 = n) (hno : ∀ (j : Nat) g, j < k → t[j]? = some g → g.1 ≠ n) : getT t n = some f.2 := by
  unfold getT
  have : t.find? (fun f => decide (f.1 = n)) = some f := by
    obtain ⟨hlt, rfl⟩ := List.getElem?_eq_some_iff.1 hk
    rw [List.find?_eq_some_iff_getElem]
    refine ⟨by simpa using hf, k, hlt, rfl, fun j hj => ?_⟩
    have := hno j _ hj (List.getElem?_eq_getElem (by omega))
    simpa using this
  rw [this]; rfl
theorem get_none_at {t : Fl α} {n : ByteArray} (hno : ∀ (j : Nat) g, t[j]? = some g → g.1 ≠ n) : getT t n = none := getT_none.2 fun f hf => by
  obtain ⟨j, hj⟩ := List.getElem?_of_mem hf
  exact hno j f hj
end

/-- What Get tells of a row of files. -/
def got (o : Option Held) : Value := match o with | some x => x.1 | none => .slice none 0 0

set_option maxHeartbeats 400000 in
theorem refGet_any (A : Option Addr) (n c : Nat) (z : Fl Held) (nm : ByteArray) (w : World) (hx : RefRow w A n z) (hn : n ≤ 65536) :
    Calls Tryz.prog 67 #[.slice A n c, .string nm] w fun e w' => e = .returned (.tuple #[got (getT z nm), .bool (hasT z nm)]) ∧ w = w' := by
  have HX := Lib.hid hx; clear hx
  go_enter Tryz.func67, Tryz.ntmps67
  go_wp2
  go_loop [6] (fun i => ∃ k : Nat, k ≤ n ∧ i = .int .i64 k ∧ Hid (∀ (j : Nat) g, j < k → z[j]? = some g → g.1 ≠ nm)) (fun i => n - (intOf i).toNat)
  case atStart => exact ⟨0, Nat.zero_le _, rfl, fun j g hj => absurd hj (Nat.not_lt_zero _)⟩
  case round =>
    obtain ⟨k, hk, rfl, hno⟩ := hrel
    by_cases hlt : k < n
    · obtain ⟨b, o, f, rfl, hz, g1, g2⟩ := HX.out.get hlt
      by_cases he : f.1 = nm
      · have hg := get_at hz he hno.out
        have E : Hid (got (getT z nm) = f.2.1 ∧ hasT z nm = true) := ⟨by rw [hg]; rfl, getT_has hg⟩
        rw [he] at g1
        generalize f.2.1 = v at g2 E
        clear hg hno hz he
        go_wp2
        go_ret2
        exact ⟨by rw [E.out.1, E.out.2]; rfl, rfl⟩
      · have hb := text_ne he
        have HN : Hid (∀ (j : Nat) g, j < k + 1 → z[j]? = some g → g.1 ≠ nm) := fun j g hj hg => by
          by_cases e : j = k
          · subst e; rw [hz] at hg; cases hg; exact he
          · exact hno.out j g (by omega) hg
        generalize f.1 = fn at g1 hb
        clear hno hz he
        go_wp2
        exact ⟨⟨k + 1, by omega, by go_num, HN⟩, by simp [intOf]; omega⟩
    · have hg : getT z nm = none := get_none_at fun j g hj => hno.out j g (by have := (List.getElem?_eq_some_iff.1 hj).1; rw [HX.out.len] at this; omega) hj
      have E : Hid (got (getT z nm) = .slice none 0 0 ∧ hasT z nm = false) := ⟨by rw [hg]; rfl, by unfold hasT; rw [hg]; rfl⟩
      clear hg hno
      go_wp2
      go_ret2
      exact ⟨by rw [E.out.1, E.out.2]; rfl, rfl⟩

end Go.Proofs.YtomboeiaajggoaaGreat

/-
  What the document's Without and With come to, as calls.
-/
namespace Go.Proofs.YtomboeiaajggoaaGreat
open Go.RowKit Go.Maps

theorem RowK.two (w : World) (a b : Value) (t : TypeId) : RowK 2 (w.alloc (.cells #[a, b] t)) (some ⟨w.heap.size, 0, .none⟩) 1 [[a, b]] := RowK.one w [a, b] t

theorem Tryz.fileInfo : (Tryz.prog.info? 140).map (fun i => (i.zero, i.size, i.bytes)) = some (some (.agg #[.string ByteArray.empty, .slice none 0 0]), 2, 40) := by kernel_rfl

/-- A row of files of new memory. -/
def GivesRef (z : Fl Held) (w : World) (e : Ending) (w' : World) : Prop := ∃ A n c, e = .returned (.slice A n c) ∧ n ≤ c ∧ RefRow w' A n z ∧ Later w w'

theorem file_one (fn : ByteArray) (A : Option Addr) (n c : Nat) : ∀ cs ∈ [[Value.string fn, Value.slice A n c]], ∀ u ∈ cs, u.oneCell' = true := by
  intro cs hcs u hu
  simp at hcs; subst hcs
  simp at hu
  rcases hu with rfl | rfl <;> rfl

theorem filter_next {α : Type} {z : List α} {k : Nat} {f : α} (h : z[k]? = some f) (p : α → Bool) : (z.take (k + 1)).filter p = (z.take k).filter p ++ (if p f then [f] else []) := by
  obtain ⟨hk, rfl⟩ := List.getElem?_eq_some_iff.1 h
  rw [List.take_succ_eq_append_getElem hk, List.filter_append, List.filter_cons, List.filter_nil]

theorem gives_own {z : Fl Held} {w wr : World} {v : Value} (h : OwnK 140 2 w wr v (cellsF z)) (hr : ∀ f ∈ z, Reads wr f.2.1 f.2.2) : GivesRef z w (.returned v) wr := by
  obtain ⟨A, c, hv, hcc, hrow⟩ := h.row
  rw [cellsF_length] at hv hcc hrow
  exact ⟨A, _, c, by rw [hv], hcc, ⟨hrow, hr⟩, h.later⟩

set_option maxHeartbeats 400000 in
theorem refWithout_any (A : Option Addr) (n c : Nat) (z : Fl Held) (nm : ByteArray) (w : World) (hx : RefRow w A n z) (hn : n ≤ 65536) :
    Calls Tryz.prog 70 #[.slice A n c, .string nm] w (GivesRef (withoutT z nm) w) := by
  have HX := Lib.hid hx; clear hx
  obtain ⟨i0, hi, hz0, hz1, hz2⟩ := info_parts Tryz.fileInfo
  go_enter Tryz.func70, Tryz.ntmps70
  go_wp2
  go_loopg [5, 6] (n + 1) (fun g s5 s6 wr => ∃ (k : Nat) (v : Value), k ≤ n ∧ n - k ≤ g ∧ s6 = .int .i64 k ∧ s5 = v ∧ Hid (OwnK 140 2 w wr v (cellsF ((z.take k).filter fun f => decide (f.1 ≠ nm)))))
  case atStart => exact ⟨0, _, Nat.zero_le _, by omega, rfl, rfl, OwnK.nil (Later.refl w)⟩
  case round =>
    obtain ⟨k, v, hk, hg, rfl, rfl, ho⟩ := hrel
    by_cases hlt : k < n
    · obtain ⟨b, o, f, rfl, hz, g1, g2⟩ := (HX.out.later ho.out.later).get hlt
      obtain ⟨A2, n2, c2, hv2, -, -⟩ := HX.out.reads f (List.mem_of_getElem? hz)
      have hstep := filter_next hz (fun f => decide (f.1 ≠ nm))
      have hlen : (cellsF ((z.take k).filter fun f => decide (f.1 ≠ nm))).length ≤ 65536 := by
        rw [cellsF_length]
        have h1 := List.length_filter_le (fun f : ByteArray × Held => decide (f.1 ≠ nm)) (z.take k)
        rw [List.length_take] at h1; omega
      by_cases he : f.1 = nm
      · have HE : Hid ((z.take (k + 1)).filter (fun f => decide (f.1 ≠ nm)) = (z.take k).filter fun f => decide (f.1 ≠ nm)) := by rw [hstep]; simp [Hid, he]
        rw [he] at g1
        clear hstep hz he hv2 g2
        go_wp2
        go_roundg (n - (k + 1))
        case measure => omega
        case rel => exact ⟨k + 1, _, by omega, Nat.le_refl _, by go_num, rfl, by rw [HE.out]; exact ho.out⟩
      · have HE : Hid ((z.take (k + 1)).filter (fun f => decide (f.1 ≠ nm)) = (z.take k).filter (fun f => decide (f.1 ≠ nm)) ++ [f]) := by rw [hstep]; simp [Hid, he]
        have hb := text_ne he
        have HF : Hid (f = (f.1, (Value.slice A2 n2 c2, f.2.2))) := by show f = _; rw [← hv2]
        rw [hv2] at g2
        generalize f.1 = fn at g1 hb HF
        generalize f.2.2 = fl at HF
        clear hstep hz he hv2
        go_wp2_with (at_builtin; refine wpList_append_rowK rfl _ _ 58 rfl i0 _ 40 Tryz.underlying58 hi hz0 hz1 hz2 rfl (by decide) (ho.out.alloc _) rfl _ _ _ _ rfl (RowK.two _ _ _ _) (file_one _ _ _ _) (by omega) (by omega) ?_; intro v2 w2 hown2 hg2; have HO2 := Lib.hid hown2; clear hown2 hg2)
        go_roundg (n - (k + 1))
        case measure => omega
        case rel =>
          refine ⟨k + 1, _, by omega, Nat.le_refl _, by go_num, rfl, ?_⟩
          rw [HE.out, HF.out]
          have := HO2.out
          simpa [cellsF, Hid] using this
    · have e : z.take k = z := List.take_of_length_le (by rw [HX.out.len]; omega)
      rw [e] at ho
      clear e
      go_wp2
      go_ret
      exact gives_own ho.out fun f hf => (HX.out.reads f (List.mem_filter.1 hf).1).later ho.out.later

theorem run_gtr (a b : ByteArray) (w : World) : (binOp .gtr 9 (.string a) (.string b)).run Tryz.prog w = .ok (.bool (ltN b a)) w := by
  have e : (!(Op.bytesLess a.toList b.toList || a.toList == b.toList)) = ltN b a := by
    rw [less_is, text_beq]
    by_cases h : a = b
    · subst h; simp [ltN_irrefl]
    · rcases ltN_total h with k | k
      · simp [k, ltN_asymm k]
      · simp [k, ltN_asymm k, h]
  rw [← e]
  simp [binOp, Op.stringOp]

set_option maxRecDepth 100000 in
set_option maxHeartbeats 1000000 in
theorem refWith_any (A : Option Addr) (n c : Nat) (z : Fl Held) (nm : ByteArray) (Al : Option Addr) (nl cl : Nat) (l : List ByteArray) (w : World) (hx : RefRow w A n z) (hl : Reads w (.slice Al nl cl) l) (hn : n ≤ 65536) :
    Calls Tryz.prog 69 #[.slice A n c, .string nm, .slice Al nl cl] w (GivesRef (withT z nm (.slice Al nl cl, l)) w) := by
  have HX := Lib.hid hx; have HL := Lib.hid hl; clear hl
  obtain ⟨i0, hi, hz0, hz1, hz2⟩ := info_parts Tryz.fileInfo
  have HC := Lib.hid (refWithout_any A n c z nm w hx hn)
  have hzn := without_length z nm
  rw [hx.len] at hzn
  clear hx
  go_enter Tryz.func69, Tryz.ntmps69
  go_wp2_with fail
  refine HC.out.mono ?_
  rintro e w1 ⟨A1, n1, c1, rfl, hnc1, hr1, hl1⟩
  have hn1 : n1 ≤ 65536 := by rw [← hr1.len]; omega
  have HR1 := Lib.hid hr1; have HL1 := Lib.hid hl1; clear hr1 hl1
  generalize hu : withoutT z nm = u at HR1 hzn
  have HU := Lib.hid hu; clear hu
  go_wp2
  go_loopg [7, 9] (n1 + 1) (fun g s7 s9 wr => ∃ (k : Nat) (v : Value), k ≤ n1 ∧ n1 - k ≤ g ∧ s9 = .int .i64 k ∧ s7 = v ∧ Hid (OwnK 140 2 w1 wr v (cellsF ((u.take k).filter fun f => ltN f.1 nm))))
  case atStart => exact ⟨0, _, Nat.zero_le _, by omega, rfl, rfl, OwnK.nil (Later.refl w1)⟩
  case round =>
    obtain ⟨k, v, hk, hg, rfl, rfl, ho⟩ := hrel
    by_cases hlt : k < n1
    · obtain ⟨b, o, f, rfl, hz, g1, g2⟩ := (HR1.out.later ho.out.later).get hlt
      obtain ⟨A2, n2, c2, hv2, -, -⟩ := HR1.out.reads f (List.mem_of_getElem? hz)
      have hstep := filter_next hz (fun f => ltN f.1 nm)
      have hlen : ((u.take k).filter fun f => ltN f.1 nm).length ≤ 65536 := by
        have h1 := List.length_filter_le (fun f : ByteArray × Held => ltN f.1 nm) (u.take k)
        rw [List.length_take] at h1; omega
      by_cases he : ltN f.1 nm = true
      · have HE : Hid ((u.take (k + 1)).filter (fun f => ltN f.1 nm) = (u.take k).filter (fun f => ltN f.1 nm) ++ [f]) := by rw [hstep]; simp [Hid, he]
        have hb : Op.bytesLess f.1.toList nm.toList = true := by rw [less_is]; exact he
        have HF : Hid (f = (f.1, (Value.slice A2 n2 c2, f.2.2))) := by show f = _; rw [← hv2]
        rw [hv2] at g2
        generalize f.1 = fn at g1 hb HF
        generalize f.2.2 = fl at HF
        clear hstep hz he hv2
        go_wp2_with (at_builtin; refine wpList_append_rowK rfl _ _ 58 rfl i0 _ 40 Tryz.underlying58 hi hz0 hz1 hz2 rfl (by decide) (ho.out.alloc _) rfl _ _ _ _ rfl (RowK.two _ _ _ _) (file_one _ _ _ _) (by rw [cellsF_length]; omega) (by omega) ?_; intro v2 w2 hown2 hg2; have HO2 := Lib.hid hown2; clear hown2 hg2)
        go_roundg (n1 - (k + 1))
        case measure => omega
        case rel =>
          refine ⟨k + 1, _, by omega, Nat.le_refl _, by go_num, rfl, ?_⟩
          rw [HE.out, HF.out]
          have := HO2.out
          simpa [cellsF, Hid] using this
      · have he' : ltN f.1 nm = false := by simpa using he
        have HE : Hid ((u.take (k + 1)).filter (fun f => ltN f.1 nm) = (u.take k).filter fun f => ltN f.1 nm) := by rw [hstep]; simp [Hid, he']
        have hb : Op.bytesLess f.1.toList nm.toList = false := by rw [less_is]; exact he'
        generalize f.1 = fn at g1 hb
        clear hstep hz he he' hv2 g2
        go_wp2
        go_roundg (n1 - (k + 1))
        case measure => omega
        case rel => exact ⟨k + 1, _, by omega, Nat.le_refl _, by go_num, rfl, by rw [HE.out]; exact ho.out⟩
    · have e : u.take k = u := List.take_of_length_le (by rw [HR1.out.len]; omega)
      rw [e] at ho
      have hle1 : (u.filter fun f => ltN f.1 nm).length ≤ 65536 := by
        have h1 := List.length_filter_le (fun f : ByteArray × Held => ltN f.1 nm) u
        rw [HR1.out.len] at h1; omega
      clear e
      go_wp2_with (at_builtin; refine wpList_append_rowK rfl _ _ 58 rfl i0 _ 40 Tryz.underlying58 hi hz0 hz1 hz2 rfl (by decide) (ho.out.alloc _) rfl _ _ _ _ rfl (RowK.two _ _ _ _) (file_one _ _ _ _) (by rw [cellsF_length]; omega) (by omega) ?_; intro v3 w3 hown3 hg3; have HO3 := Lib.hid hown3; clear hown3 hg3)
      have hO4 : OwnK 140 2 w1 w3 v3 (cellsF ((u.filter fun f => ltN f.1 nm) ++ [(nm, (Value.slice Al nl cl, l))])) := by
        have := HO3.out
        simpa [cellsF] using this
      generalize hP : (u.filter fun f => ltN f.1 nm) ++ [(nm, (Value.slice Al nl cl, l))] = pre at hO4
      have HP := Lib.hid hP
      have hpl : pre.length ≤ 65537 := by rw [← hP, List.length_append, List.length_singleton]; omega
      have HO4 := Lib.hid hO4
      clear hO4 HO3 ho hle1 hP hg hlt hk
      go_loopg [7, 10] (n1 + 1) (fun g s7 s10 wr => ∃ (k : Nat) (v : Value), k ≤ n1 ∧ n1 - k ≤ g ∧ s10 = .int .i64 k ∧ s7 = v ∧ Hid (OwnK 140 2 w1 wr v (cellsF (pre ++ (u.take k).filter fun f => ltN nm f.1))))
      case atStart => exact ⟨0, _, Nat.zero_le _, by omega, rfl, rfl, by simpa [Hid] using HO4.out⟩
      case round =>
        obtain ⟨k, v, hk, hg, rfl, rfl, ho⟩ := hrel
        by_cases hlt : k < n1
        · obtain ⟨b, o, f, rfl, hz, g1, g2⟩ := (HR1.out.later ho.out.later).get hlt
          obtain ⟨A2, n2, c2, hv2, -, -⟩ := HR1.out.reads f (List.mem_of_getElem? hz)
          have hstep := filter_next hz (fun f => ltN nm f.1)
          have hlen : ((u.take k).filter fun f => ltN nm f.1).length ≤ 65536 := by
            have h1 := List.length_filter_le (fun f : ByteArray × Held => ltN nm f.1) (u.take k)
            rw [List.length_take] at h1; omega
          by_cases he : ltN nm f.1 = true
          · have HE : Hid ((u.take (k + 1)).filter (fun f => ltN nm f.1) = (u.take k).filter (fun f => ltN nm f.1) ++ [f]) := by rw [hstep]; simp [Hid, he]
            have hb : ∀ w, (binOp .gtr 9 (.string f.1) (.string nm)).run Tryz.prog w = .ok (.bool true) w := fun w => by rw [run_gtr, he]
            have HF : Hid (f = (f.1, (Value.slice A2 n2 c2, f.2.2))) := by show f = _; rw [← hv2]
            rw [hv2] at g2
            generalize f.1 = fn at g1 hb HF
            generalize f.2.2 = fl at HF
            clear hstep hz he hv2
            go_wp2_with (at_builtin; refine wpList_append_rowK rfl _ _ 58 rfl i0 _ 40 Tryz.underlying58 hi hz0 hz1 hz2 rfl (by decide) (ho.out.alloc _) rfl _ _ _ _ rfl (RowK.two _ _ _ _) (file_one _ _ _ _) (by rw [cellsF_length, List.length_append]; omega) (by omega) ?_; intro v2 w2 hown2 hg2; have HO2 := Lib.hid hown2; clear hown2 hg2)
            go_roundg (n1 - (k + 1))
            case measure => omega
            case rel =>
              refine ⟨k + 1, _, by omega, Nat.le_refl _, by go_num, rfl, ?_⟩
              rw [HE.out, HF.out]
              have := HO2.out
              simpa [cellsF, Hid] using this
          · have he' : ltN nm f.1 = false := by simpa using he
            have HE : Hid ((u.take (k + 1)).filter (fun f => ltN nm f.1) = (u.take k).filter fun f => ltN nm f.1) := by rw [hstep]; simp [Hid, he']
            have hb : ∀ w, (binOp .gtr 9 (.string f.1) (.string nm)).run Tryz.prog w = .ok (.bool false) w := fun w => by rw [run_gtr, he']
            generalize f.1 = fn at g1 hb
            clear hstep hz he he' hv2 g2
            go_wp2
            go_roundg (n1 - (k + 1))
            case measure => omega
            case rel => exact ⟨k + 1, _, by omega, Nat.le_refl _, by go_num, rfl, by rw [HE.out]; exact ho.out⟩
        · have e : u.take k = u := List.take_of_length_le (by rw [HR1.out.len]; omega)
          rw [e] at ho
          have HW : Hid (withT z nm (.slice Al nl cl, l) = pre ++ u.filter fun f => ltN nm f.1) := by
            show _ = _
            rw [← HP.out, ← HU.out]; simp [withT]
          clear e
          go_wp2
          go_ret
          rw [HW.out]
          obtain ⟨A9, n9, c9, h1, h2, h3, h4⟩ := gives_own ho.out fun f hf => by
            rcases List.mem_append.1 hf with hf | hf
            · rw [← HP.out] at hf
              rcases List.mem_append.1 hf with hf | hf
              · exact (HR1.out.reads f (List.mem_filter.1 hf).1).later ho.out.later
              · simp at hf; subst hf
                exact (HL.out.later HL1.out).later ho.out.later
            · exact (HR1.out.reads f (List.mem_filter.1 hf).1).later ho.out.later
          exact ⟨A9, n9, c9, h1, h2, h3, HL1.out.trans h4⟩

end Go.Proofs.YtomboeiaajggoaaGreat

/-
  What the document's Do comes to, as a call.
-/
namespace Go.Proofs.YtomboeiaajggoaaGreat
open Go.RowKit Go.Maps

/-- A tree of the document's, and an error's number. -/
def GivesDo (r : Tr × Int) (w : World) (e : Ending) (w' : World) : Prop := ∃ v, e = .returned (.tuple #[v, .int .i64 r.2]) ∧ RefAt w' v r.1 ∧ Later w w'

/-- append onto a row of the call's own, as a step of a region that draws its order. -/
theorem step_append_row {P : Program} {w0 w : World} {e : TypeId} {v : Value} {olds : List ByteArray} {ops : Array Oper} {o : Oper} {a : Act} {K : Act → World → Prop} {Q : Exit → Act → World → Prop} {E : Prop} (hgd : o.guard = none) (s x : Operand) (t : TypeId)
    (ho : o.op = .call { callee := .builtin .append, args := #[s, x], argTypes := #[t, t] }) (i : TypeInfo)
    (ht : P.underlying t = some (.slice e)) (hi : P.info? e = some i) (hz : i.zero = some (.string ByteArray.empty)) (hsize : i.size = 1) (hby : i.bytes = 16)
    (hown : Own e w0 w v olds) (hs : a.eval s = v) (A : Option Addr) (m c : Nat) (news : List ByteArray) (hx : a.eval x = .slice A m c) (hr : Row w A m news) (hb : olds.length + m ≤ 1000000)
    (h : ∀ v' w', Own e w0 w' v' (olds ++ news) → w.grownBy w' v.ownBlock → K (a.put o.dst v') w') :
    if Region.wanted o (yielded ops a.tmps) = true then Oper.wp P o a w K Q else E := by
  have hw : Region.wanted o (yielded ops a.tmps) = true := by simp [Region.wanted, hgd]
  rw [if_pos hw]
  obtain ⟨v', w', hrun, h2, h3⟩ := run_append_row (P := P) t o.type i ht hi hz hsize hby hown A m c news hr hb
  unfold Oper.wp execOp
  simp only [ho, resolve, invoke, builtin, Sem.run_bind, Sem.run_pure, Result.andThen_ok, List.map_toArray, List.map_cons, List.map_nil, hs, hx, hrun]
  exact h v' w' h2 h3

section
variable (A : Option Addr) (n c : Nat) (z : Fl Held) (nm to : ByteArray) (Al : Option Addr) (nl cl : Nat) (l : List ByteArray) (w : World)

set_option maxRecDepth 100000 in
set_option maxHeartbeats 400000 in
theorem refDo0 (hx : RefRow w A n z) (hc : n ≤ c) (hn : n ≤ 65536) (hs : nm.size ≤ maxLen) :
    Calls Tryz.prog 43 #[.slice A n c, .agg #[.int .i64 0, .string nm, .string to, .slice Al nl cl]] w (GivesDo (addT (mapT (·.2) z) nm) w) := by
  have HX := Lib.hid hx
  have HG := Lib.hid (fun (w1 : World) (h : Later w w1) => refGet_any A n c z nm w1 (hx.later h) hn)
  have HN := Lib.hid (fun w1 => refNamed_any nm w1 hs)
  have HS := Lib.hid hs
  have same : Hid (∀ (w1 : World) (k : Int), Later w w1 → GivesDo (mapT (·.2) z, k) w (.returned (.tuple #[.slice A n c, .int .i64 k])) w1) := fun w1 k h => ⟨_, rfl, ⟨A, n, c, z, rfl, hc, hx.later h, rfl⟩, h⟩
  have hlb : Later w (w.alloc (.cells #[.int .i64 0, .string nm, .string to, .slice Al nl cl] 85)) := (Later.refl w).alloc _
  have HLB := Lib.hid hlb
  clear hx hs hlb
  cases h1 : namedB nm
  · have E : Hid (addT (mapT (·.2) z) nm = (mapT (·.2) z, 20)) := by simp [Hid, addT, h1]
    rw [E.out]
    rw [h1] at HN
    clear E h1
    go_enter Tryz.func43, Tryz.ntmps43
    go_wp2_with fail
    refine (HG.out _ HLB.out).mono ?_
    rintro e w1 ⟨rfl, rfl⟩
    generalize got (getT z nm) = gv
    generalize hasT z nm = gb
    go_wp2_with fail
    refine (HN.out _).mono ?_
    rintro e w1 ⟨rfl, rfl⟩
    go_wp2
    go_ret2
    exact same.out _ _ HLB.out
  · rw [h1] at HN
    cases h2 : hasT z nm
    · have E : Hid (addT (mapT (·.2) z) nm = (withT (mapT (·.2) z) nm [], 0)) := by simp [Hid, addT, h1, hasT_map, h2]
      rw [E.out]
      rw [h2] at HG
      have HW := Lib.hid (fun (w1 : World) (h : Later w w1) => refWith_any A n c z nm none 0 0 [] w1 (HX.out.later h) (Reads.nil w1) hn)
      clear E h1 h2
      go_enter Tryz.func43, Tryz.ntmps43
      go_wp2_with fail
      refine (HG.out _ HLB.out).mono ?_
      rintro e w1 ⟨rfl, rfl⟩
      generalize got (getT z nm) = gv
      go_wp2_with fail
      refine (HN.out _).mono ?_
      rintro e w1 ⟨rfl, rfl⟩
      go_wp2_with fail
      refine (HW.out _ HLB.out).mono ?_
      rintro e w1 ⟨A1, n1, c1, rfl, hc1, hr1, hl1⟩
      have HR1 := Lib.hid hr1; have HL1 := Lib.hid hl1; clear hr1 hl1
      go_wp2
      go_ret2
      exact ⟨_, rfl, ⟨A1, n1, c1, _, rfl, hc1, HR1.out, (withT_map (fun x : Held => x.2) z nm (_, [])).symm⟩, HLB.out.trans HL1.out⟩
    · have E : Hid (addT (mapT (·.2) z) nm = (mapT (·.2) z, 21)) := by simp [Hid, addT, h1, hasT_map, h2]
      rw [E.out]
      rw [h2] at HG
      clear E h1 h2
      go_enter Tryz.func43, Tryz.ntmps43
      go_wp2_with fail
      refine (HG.out _ HLB.out).mono ?_
      rintro e w1 ⟨rfl, rfl⟩
      generalize got (getT z nm) = gv
      go_wp2_with fail
      refine (HN.out _).mono ?_
      rintro e w1 ⟨rfl, rfl⟩
      go_wp2
      go_ret2
      exact same.out _ _ HLB.out
end

end Go.Proofs.YtomboeiaajggoaaGreat

/-
  What the document's Do comes to, as a call: the other kinds.
-/
namespace Go.Proofs.YtomboeiaajggoaaGreat
open Go.RowKit Go.Maps

section
variable (A : Option Addr) (n c : Nat) (z : Fl Held) (nm to : ByteArray) (Al : Option Addr) (nl cl : Nat) (l : List ByteArray) (w : World)

set_option maxRecDepth 100000 in
set_option maxHeartbeats 400000 in
theorem refDo1 (hx : RefRow w A n z) (hc : n ≤ c) (hn : n ≤ 65536) (hb : ∀ f ∈ z, f.2.2.length ≤ 65536) :
    Calls Tryz.prog 43 #[.slice A n c, .agg #[.int .i64 1, .string nm, .string to, .slice Al nl cl]] w (GivesDo (removeT (mapT (·.2) z) nm) w) := by
  have HX := Lib.hid hx
  have HG := Lib.hid (fun (w1 : World) (h : Later w w1) => refGet_any A n c z nm w1 (hx.later h) hn)
  have same : Hid (∀ (w1 : World) (k : Int), Later w w1 → GivesDo (mapT (·.2) z, k) w (.returned (.tuple #[.slice A n c, .int .i64 k])) w1) := fun w1 k h => ⟨_, rfl, ⟨A, n, c, z, rfl, hc, hx.later h, rfl⟩, h⟩
  have hlb : Later w (w.alloc (.cells #[.int .i64 1, .string nm, .string to, .slice Al nl cl] 85)) := (Later.refl w).alloc _
  have HLB := Lib.hid hlb
  clear hlb
  cases hg : getT z nm with
  | none =>
    have h2 : hasT z nm = false := hasT_no.2 (getT_none.1 hg)
    have E : Hid (removeT (mapT (·.2) z) nm = (mapT (·.2) z, 20)) := by simp [Hid, removeT, getT_map, hg]
    rw [E.out]
    rw [h2] at HG
    clear E h2 hg hx hb
    go_enter Tryz.func43, Tryz.ntmps43
    go_wp2_with fail
    refine (HG.out _ HLB.out).mono ?_
    rintro e w1 ⟨rfl, rfl⟩
    generalize got (getT z nm) = gv
    go_wp2
    go_ret2
    exact same.out _ _ HLB.out
  | some x =>
    have h2 : hasT z nm = true := getT_has hg
    obtain ⟨A2, n2, c2, hv2, hnc2, hr2⟩ := hx.reads _ (getT_mem hg)
    have hn2 : n2 ≤ 65536 := by rw [← hr2.len]; exact hb _ (getT_mem hg)
    have hgot : got (getT z nm) = .slice A2 n2 c2 := by rw [hg]; exact hv2
    rw [h2, hgot] at HG
    by_cases h0 : 0 < n2
    · have E : Hid (removeT (mapT (·.2) z) nm = (mapT (·.2) z, 22)) := by
        have := hr2.len
        simp only at this
        simp [Hid, removeT, getT_map, hg, this, h0]
      rw [E.out]
      have hd : decide (0 < n2) = true := by simpa using h0
      clear E h2 hg hx hb hr2 hv2 hgot
      go_enter Tryz.func43, Tryz.ntmps43
      go_wp2_with fail
      refine (HG.out _ HLB.out).mono ?_
      rintro e w1 ⟨rfl, rfl⟩
      go_wp2
      go_ret2
      exact same.out _ _ HLB.out
    · have E : Hid (removeT (mapT (·.2) z) nm = (withoutT (mapT (·.2) z) nm, 0)) := by
        have := hr2.len
        simp only at this
        simp [Hid, removeT, getT_map, hg, this, h0]
      rw [E.out]
      have hd : decide (0 < n2) = false := by simpa using h0
      have HW := Lib.hid (fun (w1 : World) (h : Later w w1) => refWithout_any A n c z nm w1 (hx.later h) hn)
      clear E h2 hg hx hb hr2 hv2 hgot
      go_enter Tryz.func43, Tryz.ntmps43
      go_wp2_with fail
      refine (HG.out _ HLB.out).mono ?_
      rintro e w1 ⟨rfl, rfl⟩
      go_wp2_with fail
      refine (HW.out _ HLB.out).mono ?_
      rintro e w1 ⟨A1, n1, c1, rfl, hc1, hr1, hl1⟩
      have HR1 := Lib.hid hr1; have HL1 := Lib.hid hl1; clear hr1 hl1
      go_wp2
      go_ret2
      exact ⟨_, rfl, ⟨A1, n1, c1, _, rfl, hc1, HR1.out, (withoutT_map (fun x : Held => x.2) z nm).symm⟩, HLB.out.trans HL1.out⟩

set_option maxRecDepth 100000 in
set_option maxHeartbeats 400000 in
theorem refDoElse (k : Int) (h0 : k ≠ 0) (h1 : k ≠ 1) (h2 : k ≠ 2) (h3 : k ≠ 3) (hx : RefRow w A n z) (hc : n ≤ c) (hn : n ≤ 65536) :
    Calls Tryz.prog 43 #[.slice A n c, .agg #[.int .i64 k, .string nm, .string to, .slice Al nl cl]] w (GivesDo (mapT (·.2) z, 0) w) := by
  have HG := Lib.hid (fun (w1 : World) (h : Later w w1) => refGet_any A n c z nm w1 (hx.later h) hn)
  have same : Hid (∀ (w1 : World) (k : Int), Later w w1 → GivesDo (mapT (·.2) z, k) w (.returned (.tuple #[.slice A n c, .int .i64 k])) w1) := fun w1 k h => ⟨_, rfl, ⟨A, n, c, z, rfl, hc, hx.later h, rfl⟩, h⟩
  have hlb : Later w (w.alloc (.cells #[.int .i64 k, .string nm, .string to, .slice Al nl cl] 85)) := (Later.refl w).alloc _
  have HLB := Lib.hid hlb
  have b0 : (k == 0) = false := by simpa using h0
  have b1 : (k == 1) = false := by simpa using h1
  have b2 : (k == 2) = false := by simpa using h2
  have b3 : (k == 3) = false := by simpa using h3
  clear hlb hx h0 h1 h2 h3
  go_enter Tryz.func43, Tryz.ntmps43
  go_wp2_with fail
  refine (HG.out _ HLB.out).mono ?_
  rintro e w1 ⟨rfl, rfl⟩
  generalize got (getT z nm) = gv
  generalize hasT z nm = gb
  go_wp2
  go_ret2
  exact same.out _ _ HLB.out

set_option maxRecDepth 100000 in
set_option maxHeartbeats 800000 in
theorem refDo2 (hx : RefRow w A n z) (hc : n ≤ c) (hn : n ≤ 65536) (hs2 : to.size ≤ maxLen) :
    Calls Tryz.prog 43 #[.slice A n c, .agg #[.int .i64 2, .string nm, .string to, .slice Al nl cl]] w (GivesDo (moveT (mapT (·.2) z) nm to) w) := by
  have HX := Lib.hid hx
  have HG := Lib.hid (fun (w1 : World) (h : Later w w1) => refGet_any A n c z nm w1 (hx.later h) hn)
  have HG2 := Lib.hid (fun (w1 : World) (h : Later w w1) => refGet_any A n c z to w1 (hx.later h) hn)
  have HN := Lib.hid (fun w1 => refNamed_any to w1 hs2)
  have same : Hid (∀ (w1 : World) (k : Int), Later w w1 → GivesDo (mapT (·.2) z, k) w (.returned (.tuple #[.slice A n c, .int .i64 k])) w1) := fun w1 k h => ⟨_, rfl, ⟨A, n, c, z, rfl, hc, hx.later h, rfl⟩, h⟩
  have hlb : Later w (w.alloc (.cells #[.int .i64 2, .string nm, .string to, .slice Al nl cl] 85)) := (Later.refl w).alloc _
  have HLB := Lib.hid hlb
  clear hlb hs2
  cases hg : getT z nm with
  | none =>
    have h2 : hasT z nm = false := hasT_no.2 (getT_none.1 hg)
    have E : Hid (moveT (mapT (·.2) z) nm to = (mapT (·.2) z, 20)) := by simp [Hid, moveT, getT_map, hg]
    rw [E.out]
    rw [h2] at HG
    clear E h2 hg hx
    go_enter Tryz.func43, Tryz.ntmps43
    go_wp2_with fail
    refine (HG.out _ HLB.out).mono ?_
    rintro e w1 ⟨rfl, rfl⟩
    generalize got (getT z nm) = gv
    go_wp2
    go_ret2
    exact same.out _ _ HLB.out
  | some x =>
    have h2 : hasT z nm = true := getT_has hg
    obtain ⟨A2, n2, c2, hv2, hnc2, hr2⟩ := hx.reads _ (getT_mem hg)
    have hgot : got (getT z nm) = .slice A2 n2 c2 := by rw [hg]; exact hv2
    rw [h2, hgot] at HG
    cases h1 : namedB to
    · have E : Hid (moveT (mapT (·.2) z) nm to = (mapT (·.2) z, 20)) := by simp [Hid, moveT, getT_map, hg, h1]
      rw [E.out]
      rw [h1] at HN
      clear E h2 hg hx hr2 hv2 hgot h1
      go_enter Tryz.func43, Tryz.ntmps43
      go_wp2_with fail
      refine (HG.out _ HLB.out).mono ?_
      rintro e w1 ⟨rfl, rfl⟩
      go_wp2_with fail
      refine (HN.out _).mono ?_
      rintro e w1 ⟨rfl, rfl⟩
      go_wp2
      go_ret2
      exact same.out _ _ HLB.out
    · rw [h1] at HN
      cases h3 : hasT z to
      · have E : Hid (moveT (mapT (·.2) z) nm to = (withT (withoutT (mapT (·.2) z) nm) to x.2, 0)) := by simp [Hid, moveT, getT_map, hg, h1, hasT_map, h3]
        rw [E.out]
        rw [h3] at HG2
        have HW := Lib.hid (fun (w1 : World) (h : Later w w1) => refWithout_any A n c z nm w1 (hx.later h) hn)
        have hzn := without_length z nm
        rw [hx.len] at hzn
        have HR2 : Hid (Reads w (.slice A2 n2 c2) x.2) := ⟨A2, n2, c2, rfl, hnc2, hr2⟩
        have HV : Hid (x = (.slice A2 n2 c2, x.2)) := by show x = _; rw [← hv2]
        have hlb := HLB.out
        have cb1 : (w.alloc (.cells #[.int .i64 2, .string nm, .string to, .slice Al nl cl] 85)).cell? ⟨w.heap.size, 1, none⟩ = some (.string nm) := by simp
        have cb2 : (w.alloc (.cells #[.int .i64 2, .string nm, .string to, .slice Al nl cl] 85)).cell? ⟨w.heap.size, 2, none⟩ = some (.string to) := by simp
        have CB := Lib.hid (And.intro cb1 cb2)
        clear E h2 hg hx hr2 hv2 hgot h1 h3 hlb cb1 cb2
        go_enter Tryz.func43, Tryz.ntmps43
        go_wp2_with fail
        refine (HG.out _ HLB.out).mono ?_
        rintro e w1 ⟨rfl, rfl⟩
        go_wp2_with fail
        refine (HN.out _).mono ?_
        rintro e w1 ⟨rfl, rfl⟩
        go_wp2_with fail
        refine (HG2.out _ HLB.out).mono ?_
        rintro e w1 ⟨rfl, rfl⟩
        generalize got (getT z to) = gv
        generalize hbx : w.alloc (.cells #[.int .i64 2, .string nm, .string to, .slice Al nl cl] 85) = wb at HLB CB ⊢
        have HBX := Lib.hid hbx; clear hbx
        obtain ⟨cb1, cb2⟩ := CB.out
        go_wp2_with fail
        go_region_held3 (fun w' => w'.cell? ⟨w.heap.size, 1, none⟩ = some (.string nm) ∧ w'.cell? ⟨w.heap.size, 2, none⟩ = some (.string to)) (go_keep)
          (first
            | (go_at_call 70; refine (HW.out _ (Later.trans HLB.out (by first | exact Later.refl _ | exact (Later.refl _).drew | exact (Later.refl _).drewN _))).mono ?_; rintro e w2 ⟨A1, n1, c1, rfl, hc1, hr1, hl1⟩; have HL2 : Hid (Later wb w2) := Later.trans (by first | exact Later.refl _ | exact (Later.refl _).drew | exact (Later.refl _).drewN _) hl1; have HR1 := Lib.hid hr1; have hn1 : n1 ≤ 65536 := (by rw [← hr1.len]; omega); have cc1 := HL2.out.cell cb1; have cc2 := HL2.out.cell cb2; clear hr1 hl1)
            | (go_at_call 69; refine (refWith_any A1 n1 c1 (withoutT z nm) to A2 n2 c2 x.2 w2 HR1.out (HR2.out.later (HLB.out.trans HL2.out)) hn1).mono ?_; rintro e w3 ⟨A3, n3, c3, rfl, hc3, hr3, hl3⟩; have HL3 := Lib.hid hl3; have HR3 := Lib.hid hr3; have cd1 := HL3.out.cell cc1; have cd2 := HL3.out.cell cc2; clear hr3 hl3))
        go_wp2
        go_ret2
        refine ⟨_, rfl, ⟨A3, n3, c3, _, rfl, hc3, HR3.out, ?_⟩, (HLB.out.trans HL2.out).trans HL3.out⟩
        rw [withoutT_map, ← withT_map (fun x : Held => x.2)]
      · have E : Hid (moveT (mapT (·.2) z) nm to = (mapT (·.2) z, 21)) := by simp [Hid, moveT, getT_map, hg, h1, hasT_map, h3]
        rw [E.out]
        rw [h3] at HG2
        clear E h2 hg hx hr2 hv2 hgot h1 h3
        go_enter Tryz.func43, Tryz.ntmps43
        go_wp2_with fail
        refine (HG.out _ HLB.out).mono ?_
        rintro e w1 ⟨rfl, rfl⟩
        go_wp2_with fail
        refine (HN.out _).mono ?_
        rintro e w1 ⟨rfl, rfl⟩
        go_wp2_with fail
        refine (HG2.out _ HLB.out).mono ?_
        rintro e w1 ⟨rfl, rfl⟩
        generalize got (getT z to) = gv
        go_wp2
        go_ret2
        exact same.out _ _ HLB.out
end

end Go.Proofs.YtomboeiaajggoaaGreat
