import Derived.Test.YtboffgmaohcpfaaDoorChecked
import Derived.Test.YtboffgmaohcpfaaDoorPk2
import Derived.Test.YtboffgmaohcpfaaDoorPk3
import Derived.Test.YtboffgmaohcpfaaDoorPk1
import Derived.Lib.AppendIntMem
import Derived.Deep.LoopGhost
import Derived.Lib.Hide
import Derived.Test.YtboffgmaohcpfaaDoorRows
import Derived.ProofKit
import Derived.OpenShut
import Derived.SizedLaws
import Derived.SliceStrings
import Derived.Deep.Slices
import Derived.Deep.Fields
import Derived.ChangeSame
import Derived.Deep.DeepHandedRow
import Derived.Lib.LaidTab
import Derived.LaidSub

/-
  What tree's Text comes to, as a call.
-/
namespace Go.Proofs.YtboffgmaohcpfaaDoor
open Go.RowKit Go.Maps

/-- A file as a text. -/
def headL (f : ByteArray × List ByteArray) : List UInt8 := bytes f.1 ++ [32] ++ Lib.decDigits f.2.length ++ [10]
def textT (t : Tr) : List UInt8 := t.flatMap fun f => headL f ++ textL f.2
theorem textT_next {t : Tr} {k : Nat} {f : ByteArray × List ByteArray} (h : t[k]? = some f) : textT (t.take (k + 1)) = textT (t.take k) ++ headL f ++ textL f.2 := by
  obtain ⟨hk, rfl⟩ := List.getElem?_eq_some_iff.1 h
  unfold textT
  rw [List.take_succ_eq_append_getElem hk, List.flatMap_append, List.append_assoc]
  simp
theorem textT_take {t : Tr} (k : Nat) : (textT (t.take k)).length ≤ (textT t).length := by
  have : textT t = textT (t.take k) ++ textT (t.drop k) := by
    unfold textT
    rw [← List.flatMap_append, List.take_append_drop]
  rw [this, List.length_append]; omega

/-- The table of powers of ten is as it is laid. -/
def Tab (w : World) : Prop := Lib.TabIs Tryd.prog w "internal/strconv.uint64pow10" .u64 Lib.pow10Tab
theorem Tab.later {w w' : World} (h : Tab w) (hl : Later w w') : Tab w' := Lib.tabBelow_of_tabIs h w' hl

theorem later_grow (w : World) (k : Nat) (os : Array Obj) : Later w (Sort.grow (w.drewN k) os) :=
  ⟨rfl, rfl, rfl, by simp [Sort.grow, World.drewN], fun i hi => by simp only [Sort.grow, World.drewN]; exact Array.getElem?_append_left hi⟩

theorem kept_later {w w' : World} (b : Option Nat) (h : Later w w') : Lib.OthersKept 5 b w w' := fun k o hk _ _ => by
  rw [h.block k (Array.getElem?_eq_some_iff.1 hk).1]; exact hk

/-- A row of texts stands while a builder is written. -/
theorem Own.kept {w0 w w' : World} {v : Value} {ss : List ByteArray} {b : Nat} {cs : Array Value} {fz : Nat × Nat} (h : Own 9 w0 w v ss) (hk : Lib.OthersKept 5 (some b) w w') (hb : w.heap[b]? = some (.cells cs 58 fz)) {A : Option Addr} {c : Nat} (hv : v = .slice A ss.length c) :
    Row w' A ss.length ss := by
  rcases h.1.2 with ⟨hv', h0⟩ | ⟨g, cap, cur, hv', hg, hh, hnc, hm, hs, ht⟩
  · have : ss = [] := List.eq_nil_of_length_eq_zero h0
    subst this
    exact Row.none
  · rw [hv'] at hv
    simp only [Value.slice.injEq] at hv
    obtain ⟨rfl, -, rfl⟩ := hv
    have hne : g ≠ b := by
      rintro rfl
      rw [hb] at hh
      simp at hh
    have hg' := hk g _ hh (by simpa using hne) (fun c fz e => by simp at e)
    refine ⟨rfl, fun _ => ⟨g, 0, rfl, fun j s hj => ?_⟩⟩
    have hjl := (List.getElem?_eq_some_iff.1 hj).1
    have e : cur.toList[j]? = some (Value.string s) := by
      have h1 : (cur.toList.take (ss.length * 1))[j]? = some (Value.string s) := by rw [ht, List.getElem?_map, hj]; rfl
      rwa [List.getElem?_take_of_lt (by omega)] at h1
    simp only [World.cell?, hg', Nat.zero_add]
    simpa using e

/-- A look-up of a file that is there, without asking. -/
theorem FA.look1 {w : World} {B : Nat} {z : Fl Held} (h : FA w B z) {nm : ByteArray} (hs : nm.size ≤ maxLen) {x : Held} (hx : getT z nm = some x) :
    (Instr.lookup 49 (.map (some B)) (.string nm) false).run Tryd.prog w = .ok x.1 w := by
  obtain ⟨v, ps, hrun, hv⟩ := h.own.lookup keyed9 Tryd.underlying49 (zero29 w) (raw_mk none 0 0) (key9 hs)
  rw [atKey_datum, getT_map, hx] at hv
  obtain ⟨A, n, c, rfl, hy⟩ := raw_inv hv
  simp only [Option.map_some, Prod.mk.injEq, DataW.held.injEq] at hy
  rw [hrun, ← hy.1]

theorem builder_later {B b : Nat} {bs : List Value} {w w' : World} (h : Lib.IsBuilderF 58 5 B b bs w) (hl : Later w w') : Lib.IsBuilderF 58 5 B b bs w' := by
  have hg : w.grownBy w' none := ⟨hl.os, hl.tape, hl.output, hl.size, fun i hi _ => hl.block i hi⟩
  have one : ∀ {q : Value}, Lib.BuilderAtF 58 5 B b q bs w → Lib.BuilderAtF 58 5 B b q bs w' := fun {q} h => by
    have hlt := h.lt
    obtain ⟨hB, v, hb, hown, hne⟩ := h
    refine ⟨hB, v, (hl.block b hlt).trans hb, hown.kept hg ?_, hne⟩
    cases v.ownBlock <;> simp
  rcases h with h | h
  · exact .inl (one h)
  · exact .inr (one h)
theorem builder_new (w : World) : Lib.IsBuilderF 58 5 w.heap.size w.heap.size (Lib.byteCells []) (w.alloc (.cells #[.pointer none, .slice none 0 0] 58)) :=
  Lib.IsBuilderF.of (.inl ⟨Nat.le_refl _, .slice none 0 0, heap_alloc_new w _, World.ownsRow_nil _ _ _ _, by simp [Value.ownBlock]⟩)

theorem digits_length (n : Nat) (h : n ≤ 65536) : (Lib.decDigits n).length ≤ 20 := by
  rw [Lib.decDigits_length]
  rcases Nat.eq_zero_or_pos n with rfl | h0
  · rw [Lib.nDigits_small (by omega)]; omega
  · have := Lib.numDigits_eq n h0 (by omega)
    split at this <;> omega

theorem itoa_nat (n : Nat) : (⟨(Lib.itoa (n : Int)).toArray⟩ : ByteArray) = txt (Lib.decDigits n) := by
  rw [Lib.itoa_nonneg]; rfl

set_option maxHeartbeats 800000 in
theorem treeText_any (p B : Nat) (t : Tr) (w : World) (ht : TreeAt w p B t) (htab : Tab w) (hl : t.length ≤ 65536) (hb : (textT t).length ≤ 1000000) (hs : ∀ f ∈ t, f.1.size ≤ maxLen ∧ f.2.length ≤ 65536) :
    Calls Tryd.prog 23 #[.pointer (some ⟨p, 0, none⟩)] w fun e w' => e = .returned (.string (txt (textT t))) ∧ Later w w' := by
  have HT := Lib.hid ht
  have HTB := Lib.hid htab; have HS := Lib.hid hs
  have hc := ht.cell
  clear ht htab hs
  go_enter Tryd.func23, Tryd.ntmps23
  go_wp2_with fail
  refine (names_any p B t _ (HT.out.later ((Later.refl w).alloc _)) hl).mono ?_
  rintro e w1 ⟨v, rfl, hown⟩
  have HO := Lib.hid hown
  obtain ⟨A, c, hv, hcc, -⟩ := hown.row
  have hlen : (namesT t).length = t.length := by simp [namesT]
  rw [hlen] at hv hcc
  subst hv
  have hnew := builder_new w
  have hkb : w1.heap[w.heap.size]? = some (.cells #[.pointer none, .slice none 0 0] 58 (0, 0)) := (hown.later.block _ (by simp)).trans (heap_alloc_new w _)
  have HKB := Lib.hid hkb
  have HB0 := Lib.hid (builder_later hnew hown.later)
  have HL1 : Hid (Later w w1) := ((Later.refl w).alloc _).trans hown.later
  have HLEN := Lib.hid hlen
  clear hown hnew hkb hlen
  go_wp2
  go_loopg [10] (t.length + 1) (fun g s10 wr => ∃ k : Nat, k ≤ t.length ∧ t.length - k ≤ g ∧ s10 = .int .i64 k ∧ Later w wr ∧ Hid (Lib.OthersKept 5 (some w.heap.size) w1 wr) ∧ Hid (Lib.IsBuilderF 58 5 w.heap.size w.heap.size (Lib.byteCells (textT (t.take k))) wr))
  case atStart => exact ⟨0, Nat.zero_le _, by omega, rfl, HL1.out, Lib.OthersKept.refl _ _ _, HB0.out⟩
  case round =>
    obtain ⟨k, hk, hg, rfl, hwr, hkept, hbd⟩ := hrel
    have hle := hwr.le
    have hcw := hwr.cell hc
    by_cases hlt : k < t.length
    · have hf : t[k]? = some t[k] := List.getElem?_eq_getElem hlt
      generalize t[k] = f at hf
      have hrow := HO.out.kept hkept.out HKB.out (A := A) (c := c) (by rw [HLEN.out])
      rw [HLEN.out] at hrow
      obtain ⟨b1, o1, rfl, g1⟩ := hrow.get hlt
      have hnm : (namesT t).getD k ByteArray.empty = f.1 := by simp [namesT, List.getD, hf]
      rw [hnm] at g1
      obtain ⟨hs1, hs2⟩ := HS.out f (List.mem_of_getElem? hf)
      obtain ⟨-, z, hz0, hzt⟩ := HT.out
      have hz := hz0.later hwr
      have hget : getT t f.1 = some f.2 := (getT_iff HT.out.files.rise).2 (List.mem_of_getElem? hf)
      rw [← hzt, getT_map, Option.map_eq_some_iff] at hget
      obtain ⟨x, hx, hxf⟩ := hget
      have hlk := hz.look1 hs1 hx
      obtain ⟨A2, n2, c2, hv2, hnc2, hr2⟩ := hz0.get hx
      rw [hv2] at hlk
      rw [hxf] at hr2
      have hn2 : n2 ≤ 65536 := by rw [← hr2.len]; exact hs2
      have hnext := textT_next hf
      have hroom := textT_take (t := t) (k + 1)
      rw [hnext] at hroom
      simp only [List.length_append] at hroom
      have hhead : headL f = bytes f.1 ++ [32] ++ Lib.decDigits n2 ++ [10] := by rw [headL, hr2.len]
      have hdl := digits_length n2 hn2
      rw [hhead] at hroom hnext
      simp only [List.length_append, List.length_singleton, bytes_length] at hroom
      have HNX := Lib.hid hnext; have HW := Lib.hid hwr
      have HR2 := Lib.hid hr2
      have HITO := Lib.hid (Tryd.strconv_Itoa (n2 : Int) (by omega) (by omega) wr (HTB.out.later hwr))
      clear hf hrow hnm hs1 hs2 hz hz0 hzt hx hxf hv2 hr2 hnext hwr hhead
      have hr1 : f.1.size + 1 ≤ 9223372036854775807 := by omega
      go_wp2_with fail
      refine HITO.out.mono ?_
      rintro e w3 ⟨rfl, q, os, hw3⟩
      have HL3 : Hid (Later wr w3) := by rw [hw3]; exact later_grow wr q os
      clear hw3
      rw [itoa_nat]
      have hdz : (txt (Lib.decDigits n2)).size ≤ 20 := by rw [txt_size]; exact hdl
      generalize hdd : txt (Lib.decDigits n2) = dd at hdz ⊢
      have HDD := Lib.hid hdd; clear hdd
      go_wp2_with fail
      have hle3 : w.heap.size ≤ w3.heap.size := Nat.le_trans hle HL3.out.le
      refine (Tryd.Builder_WriteString_k w.heap.size w.heap.size _ _ w3 (builder_later hbd.out HL3.out) ?room1 hle3).mono ?_
      case room1 =>
        simp only [ByteArray.size_append, Lib.byteCells, List.length_map]
        have h1 : (⟨#[32]⟩ : ByteArray).size = 1 := rfl
        have h2 : (⟨#[10]⟩ : ByteArray).size = 1 := rfl
        omega
      rintro e w4 ⟨rfl, hb4, hl4, hk4⟩
      have HB4 := Lib.hid hb4; have HL4 := Lib.hid hl4; have HK4 := Lib.hid hk4
      have hle4 : w.heap.size ≤ w4.heap.size := Nat.le_trans hle3 hl4.size
      have HW4 : Hid (Later w w4) := Below.trans (Below.trans HW.out (Below.mono HL3.out hle)) hl4
      clear hb4 hl4 hk4
      go_wp2_with fail
      refine (text_any A2 n2 c2 f.2 w4 (HR2.out.later HW4.out) hn2 (by omega)).mono ?_
      rintro e w5 ⟨rfl, hl5⟩
      have HL5 := Lib.hid hl5
      have hle5 : w.heap.size ≤ w5.heap.size := Nat.le_trans hle4 hl5.le
      clear hl5
      go_wp2_with fail
      refine (Tryd.Builder_WriteString_k w.heap.size w.heap.size _ _ w5 (builder_later (.inr HB4.out) HL5.out) ?room2 hle5).mono ?_
      case room2 =>
        simp only [ByteArray.size_append, List.length_append, Lib.byteCells, List.length_map, Lib.strCells_length, txt_size]
        have h1 : (⟨#[32]⟩ : ByteArray).size = 1 := rfl
        have h2 : (⟨#[10]⟩ : ByteArray).size = 1 := rfl
        omega
      rintro e w6 ⟨rfl, hb6, hl6, hk6⟩
      have HB6 := Lib.hid hb6; have HL6 := Lib.hid hl6; have HK6 := Lib.hid hk6
      clear hb6 hl6 hk6
      go_wp2
      go_roundg (t.length - (k + 1))
      case measure => omega
      case rel =>
        refine ⟨k + 1, by omega, Nat.le_refl _, by go_num, Below.trans (Below.trans HW4.out (Below.mono HL5.out hle4)) HL6.out, ?_, .inr ?_⟩
        · exact (((hkept.out.trans (kept_later _ HL3.out)).trans HK4.out).trans (kept_later _ HL5.out)).trans HK6.out
        · rw [HNX.out, show Lib.decDigits n2 = bytes dd from by rw [← HDD.out, bytes_txt]]
          have := HB6.out
          simpa [Lib.byteCells, Lib.strCells, bytes, txt, List.append_assoc] using this
    · have e : t.take k = t := List.take_of_length_le (by omega)
      rw [e] at hbd
      clear e
      have HW := Lib.hid hwr; clear hwr
      go_wp2_with fail
      refine (Tryd.Builder_String_any_k w.heap.size w.heap.size _ wr hbd.out hle).mono ?_
      rintro e w3 ⟨rfl, -, hl3, -⟩
      have HL3 := Lib.hid hl3; clear hl3
      go_wp2
      go_ret
      exact ⟨rfl, Below.trans HW.out HL3.out⟩

end Go.Proofs.YtboffgmaohcpfaaDoor

/-
  The table of powers of ten, off the rows' list; a world in which the tables stand.
-/
namespace Go.Proofs.YtboffgmaohcpfaaDoor
open Go.ChangeShapes Go.WideShapes Go.ChangeAt Go.RowKit Go.Deep

theorem Tryd.gTab : Tryd.prog.globalNamed "internal/strconv.uint64pow10" = some 0 := by kernel_rfl
theorem Tryd.gTabType : (Tryd.prog.globals[0]?).map (·.type) = some 115 := by kernel_rfl
theorem Tryd.gTabCells : Tryd.prog.cellsOf 115 = 20 := by kernel_rfl
theorem Tryd.cells97 : Tryd.prog.cellsOf 89 = 1 := by kernel_rfl

def laidList : List (String × DataW Unit) := [("math/bits.deBruijn32tab", Rows.laid_math_bits_deBruijn32tab), ("math/bits.deBruijn64tab", Rows.laid_math_bits_deBruijn64tab), ("internal/strconv.uint64pow10", Rows.laid_internal_strconv_uint64pow10)]

/-- What the rows' list gives: the table of powers of ten. -/
theorem tab_of {W : World} (h : laidMetH Tryd.prog laidList W) : Tab W := by
  have h1 := laidMetH.filter (fun x => x.1 == "internal/strconv.uint64pow10") h
  have e : laidList.filter (fun x => x.1 == "internal/strconv.uint64pow10") = [("internal/strconv.uint64pow10", Lib.tabData .u64 Lib.pow10Tab)] := by kernel_rfl
  rw [e] at h1
  exact Lib.tabIs_of_head (rest := []) Tryd.gTab Tryd.gTabType Tryd.underlying115 Tryd.underlying89 Tryd.cells97 Tryd.gTabCells h1

/-- A variable's cells, set. -/
def setVar (h : Array Obj) (g : Nat) (cs : List Value) : Array Obj := h.modify g fun | .cells _ t frozen => .cells cs.toArray t frozen | o => o

/-- A world in which the tables hold what their initialisers lay. -/
noncomputable def laidWorld (os : Os) : World :=
  { World.holding Tryd.prog os ⟨#[], #[], []⟩ with
    heap := setVar (setVar (setVar (World.holding Tryd.prog os ⟨#[], #[], []⟩).heap 0 (Lib.pow10Tab.map (Value.int .u64)))
      2 (([0, 1, 28, 2, 29, 14, 24, 3, 30, 22, 20, 15, 25, 17, 4, 8, 31, 27, 13, 23, 21, 19, 16, 7, 26, 12, 18, 6, 11, 5, 10, 9] : List Int).map (Value.int .u8)))
      3 (([0, 1, 56, 2, 57, 49, 28, 3, 61, 58, 42, 50, 38, 29, 17, 4, 62, 47, 59, 36, 45, 43, 51, 22, 53, 39, 33, 30, 24, 18, 12, 5, 63, 55, 48, 27, 60, 41, 37, 16, 46, 35, 44, 21, 52, 32, 23, 11, 54, 26, 40, 15, 34, 20, 31, 10, 25, 14, 19, 9, 13, 8, 7, 6] : List Int).map (Value.int .u8)) }

end Go.Proofs.YtboffgmaohcpfaaDoor

/-
  Prims as plain values: when they are right, what undoes them, what they make of a tree. Nothing of any program.
-/
namespace Go.Proofs.YtboffgmaohcpfaaDoor
open Go.RowKit

/-- A prim. -/
structure Pr where
  kind : Int
  name : ByteArray
  to : ByteArray
  place : Int
  old : List ByteArray
  new : List ByteArray

/-- P3.1: is it right? -/
def rightP (p : Pr) : Bool :=
  namedB p.name &&
    (if p.kind = 0 then decide (p.to = ByteArray.empty) && decide (0 ≤ p.place ∧ p.place ≤ 1048576) && allB p.old && allB p.new && !sameB p.old p.new
    else decide (p.place = 0) && decide (p.old = []) && decide (p.new = []) &&
      (if p.kind = 3 then namedB p.to && decide (p.to ≠ p.name) else decide (p.kind = 1 ∨ p.kind = 2) && decide (p.to = ByteArray.empty)))

def sameP (p q : Pr) : Bool := decide (p.kind = q.kind) && decide (p.name = q.name) && decide (p.to = q.to) && decide (p.place = q.place) && sameB p.old q.old && sameB p.new q.new

/-- P3.2: what undoes it. -/
def invertP (p : Pr) : Pr :=
  if p.kind = 0 then { p with old := p.new, new := p.old }
  else if p.kind = 1 then { p with kind := 2 }
  else if p.kind = 2 then { p with kind := 1 }
  else if p.kind = 3 then { p with name := p.to, to := p.name }
  else p

/-- P3.1: the files that it names. -/
def namesP (p : Pr) : List ByteArray := if p.kind ≠ 3 then [p.name] else if ltN p.name p.to = true then [p.name, p.to] else [p.to, p.name]

/-- P3.3: what it makes of a tree, and the error. -/
def hunkT (t : Tr) (p : Pr) : Tr × Int :=
  match getT t p.name with
  | none => (t, 31)
  | some l => if standsB l p.place p.old = true then (withT t p.name (spliced l p.place.toNat p.old.length p.new), 0) else (t, 31)
def applyP (t : Tr) (p : Pr) : Tr × Int :=
  if rightP p = false then (t, 30)
  else if p.kind = 0 then hunkT t p
  else if p.kind = 1 then (if hasT t p.name = true then (t, 31) else (withT t p.name [], 0))
  else if p.kind = 2 then (match getT t p.name with | none => (t, 31) | some l => if 0 < l.length then (t, 31) else (withoutT t p.name, 0))
  else (match getT t p.name with | none => (t, 31) | some l => if hasT t p.to = true then (t, 31) else (withT (withoutT t p.name) p.to l, 0))

theorem sameP_iff {p q : Pr} : sameP p q = true ↔ p = q := by
  obtain ⟨a, b, c, d, e, f⟩ := p
  obtain ⟨a', b', c', d', e', f'⟩ := q
  simp only [sameP, sameB, Bool.and_eq_true, decide_eq_true_eq, Pr.mk.injEq]
  exact ⟨fun ⟨⟨⟨⟨⟨h1, h2⟩, h3⟩, h4⟩, h5⟩, h6⟩ => ⟨h1, h2, h3, h4, h5, h6⟩, fun ⟨h1, h2, h3, h4, h5, h6⟩ => ⟨⟨⟨⟨⟨h1, h2⟩, h3⟩, h4⟩, h5⟩, h6⟩⟩
theorem sameP_self (p : Pr) : sameP p p = true := sameP_iff.2 rfl
theorem invert_twice (p : Pr) : invertP (invertP p) = p := by
  obtain ⟨k, nm, to, at_, old, new⟩ := p
  unfold invertP
  by_cases h0 : k = 0
  · simp [h0]
  by_cases h1 : k = 1
  · simp [h1]
  by_cases h2 : k = 2
  · simp [h2]
  by_cases h3 : k = 3
  · simp [h3]
  simp [h0, h1, h2, h3]
theorem sameB_comm (a b : List ByteArray) : sameB a b = sameB b a := by simp only [sameB]; exact decide_eq_decide.2 eq_comm
theorem right_invert (p : Pr) : rightP (invertP p) = rightP p := by
  obtain ⟨k, nm, to, at_, old, new⟩ := p
  unfold invertP
  by_cases h0 : k = 0
  · subst h0; simp only [rightP, if_true]; rw [sameB_comm new old]; cases allB old <;> cases allB new <;> simp
  by_cases h1 : k = 1
  · subst h1; simp [rightP]
  by_cases h2 : k = 2
  · subst h2; simp [rightP]
  by_cases h3 : k = 3
  · subst h3
    simp only [rightP, Int.reduceEq, if_false, if_true]
    have : decide (nm ≠ to) = decide (to ≠ nm) := decide_eq_decide.2 ne_comm
    rw [this]
    cases namedB nm <;> cases namedB to <;> simp
  simp [h0, h1, h2, h3]

section
variable {α : Type}
theorem with_same {t : Fl α} (ht : Rising t) {n : ByteArray} {x : α} (h : getT t n = some x) : withT t n x = t := by
  refine rising_ext (rising_with ht n x) ht fun f => ?_
  rw [mem_with]
  constructor
  · rintro (rfl | h1)
    · exact getT_mem h
    · exact h1.1
  · intro hf
    by_cases e : f.1 = n
    · exact .inl (rising_one ht hf (getT_mem h) e)
    · exact .inr ⟨hf, e⟩
theorem with_with {t : Fl α} (ht : Rising t) (n : ByteArray) (x y : α) : withT (withT t n x) n y = withT t n y := by
  refine rising_ext (rising_with (rising_with ht n x) n y) (rising_with ht n y) fun f => ?_
  rw [mem_with, mem_with, mem_with]
  constructor
  · rintro (rfl | ⟨rfl | h1, h2⟩)
    · exact .inl rfl
    · exact absurd rfl h2
    · exact .inr h1
  · rintro (rfl | h1)
    · exact .inl rfl
    · exact .inr ⟨.inr h1, h1.2⟩
end

/-- P3.4: what was applied can be undone. -/
theorem apply_back {t u : Tr} {p : Pr} (ht : Rising t) (h : applyP t p = (u, 0)) : applyP u (invertP p) = (t, 0) := by
  have hr : rightP p = true := by
    cases e : rightP p
    · simp [applyP, e] at h
    · rfl
  have hr' : rightP (invertP p) = true := by rw [right_invert]; exact hr
  simp only [applyP, hr, Bool.true_eq_false, if_false] at h
  simp only [applyP, hr', Bool.true_eq_false, if_false]
  obtain ⟨k, nm, to, at_, old, new⟩ := p
  by_cases h0 : k = 0
  · subst h0
    simp only [if_true, hunkT] at h
    cases hg : getT t nm with
    | none => simp [hg] at h
    | some l =>
      simp only [hg] at h
      by_cases hs : standsB l at_ old = true
      · simp only [hs, if_true, Prod.mk.injEq, and_true] at h
        subst h
        obtain ⟨a, rfl⟩ := Int.eq_ofNat_of_zero_le (standsB_le hs).1
        simp only [invertP, if_true, hunkT]
        rw [get_with_same ht]
        simp only [Int.toNat_natCast] at *
        rw [stands_back hs, if_pos rfl, spliced_back hs, with_with ht, with_same ht hg]
      · simp [hs] at h
  by_cases h1 : k = 1
  · subst h1
    simp only [Int.reduceEq, if_false, if_true] at h
    cases hh : hasT t nm
    · simp only [hh, Bool.false_eq_true, if_false, Prod.mk.injEq, and_true] at h
      subst h
      simp only [invertP, Int.reduceEq, if_false, if_true]
      rw [get_with_same ht]
      simp [without_with ht hh]
    · simp [hh] at h
  by_cases h2 : k = 2
  · subst h2
    simp only [Int.reduceEq, if_false, if_true] at h
    cases hg : getT t nm with
    | none => simp [hg] at h
    | some l =>
      simp only [hg] at h
      cases l with
      | cons x l => simp at h
      | nil =>
        simp only [List.length_nil, Nat.lt_irrefl, if_false, Prod.mk.injEq, and_true] at h
        subst h
        simp only [invertP, Int.reduceEq, if_false, if_true]
        rw [has_without_same, if_neg (by simp), with_without ht hg]
  by_cases h3 : k = 3
  · subst h3
    simp only [Int.reduceEq, if_false] at h
    cases hg : getT t nm with
    | none => simp [hg] at h
    | some l =>
      simp only [hg] at h
      cases hh : hasT t to
      · simp only [hh, Bool.false_eq_true, if_false, Prod.mk.injEq, and_true] at h
        subst h
        simp only [invertP, Int.reduceEq, if_false, if_true]
        have hne : nm ≠ to := by rintro rfl; rw [getT_has hg] at hh; cases hh
        rw [get_with_same (rising_without ht nm), has_with_other l hne, has_without_same]
        simp only [Bool.false_eq_true, if_false]
        rw [without_with (rising_without ht nm) (has_without_no hh nm), with_without ht hg]
      · simp [hh] at h
  · simp [rightP, h0, h1, h2, h3] at hr

end Go.Proofs.YtboffgmaohcpfaaDoor

/-
  Prims by the tree's own calls, and how great trees become behind them. Nothing of any program.
-/
namespace Go.Proofs.YtboffgmaohcpfaaDoor
open Go.RowKit

/-- At most k files, each of a name, with at most h lines that are right. -/
structure Sized (k h : Nat) (t : Tr) : Prop where
  many : t.length ≤ k
  each : ∀ f ∈ t, namedB f.1 = true ∧ allB f.2 = true ∧ f.2.length ≤ h

theorem allB_mem {l : List ByteArray} : allB l = true ↔ ∀ s ∈ l, rightB s = true := by simp [allB]
theorem allB_none : allB [] = true := by simp [allB]
theorem allB_spliced {l new : List ByteArray} (h1 : allB l = true) (h2 : allB new = true) (k m : Nat) : allB (spliced l k m new) = true := by
  rw [allB_mem] at *
  intro s hs
  simp only [spliced, List.mem_append] at hs
  rcases hs with (hs | hs) | hs
  · exact h1 s (List.mem_of_mem_take hs)
  · exact h2 s hs
  · exact h1 s (List.mem_of_mem_drop hs)
theorem spliced_le (l new : List ByteArray) (k m : Nat) : (spliced l k m new).length ≤ l.length + new.length := by
  simp only [spliced, List.length_append, List.length_take, List.length_drop]
  omega

section
variable {k h : Nat} {t : Tr}
theorem Sized.nil : Sized 0 0 [] := ⟨Nat.le_refl _, fun f hf => by cases hf⟩
theorem Sized.mono {j i : Nat} (hs : Sized k h t) (hj : k ≤ j) (hi : h ≤ i) : Sized j i t := ⟨Nat.le_trans hs.many hj, fun f hf => ⟨(hs.each f hf).1, (hs.each f hf).2.1, Nat.le_trans (hs.each f hf).2.2 hi⟩⟩
theorem Sized.with_ (hs : Sized k h t) {n : ByteArray} {l : List ByteArray} (h1 : namedB n = true) (h2 : allB l = true) (h3 : l.length ≤ h) : Sized (k + 1) h (withT t n l) :=
  ⟨Nat.le_trans (with_length n l) (Nat.succ_le_succ hs.many), fun f hf => by
    rcases mem_with.1 hf with rfl | hf
    · exact ⟨h1, h2, h3⟩
    · exact hs.each f hf.1⟩
theorem Sized.without (hs : Sized k h t) (n : ByteArray) : Sized k h (withoutT t n) := ⟨Nat.le_trans (without_length t n) hs.many, fun f hf => hs.each f (mem_without.1 hf).1⟩
theorem Sized.get (hs : Sized k h t) {n : ByteArray} {l : List ByteArray} (hg : getT t n = some l) : namedB n = true ∧ allB l = true ∧ l.length ≤ h := hs.each _ (getT_mem hg)

theorem right_parts {p : Pr} (hr : rightP p = true) : namedB p.name = true ∧ (p.kind = 0 ∨ p.kind = 1 ∨ p.kind = 2 ∨ p.kind = 3) ∧ allB p.old = true ∧ allB p.new = true ∧ (p.kind = 0 → 0 ≤ p.place ∧ p.place ≤ 1048576) ∧ (p.kind = 3 → namedB p.to = true ∧ p.to ≠ p.name) := by
  obtain ⟨kd, nm, to, at_, old, new⟩ := p
  simp only [rightP, Bool.and_eq_true] at hr ⊢
  obtain ⟨h1, h2⟩ := hr
  refine ⟨h1, ?_⟩
  by_cases h0 : kd = 0
  · subst h0
    simp only [if_true, Bool.and_eq_true, decide_eq_true_eq] at h2
    obtain ⟨⟨⟨⟨_, h4⟩, h5⟩, h6⟩, _⟩ := h2
    exact ⟨.inl rfl, h5, h6, fun _ => h4, fun e => by cases e⟩
  · rw [if_neg h0] at h2
    simp only [Bool.and_eq_true, decide_eq_true_eq] at h2
    obtain ⟨⟨⟨_, rfl⟩, rfl⟩, h4⟩ := h2
    by_cases h3 : kd = 3
    · subst h3
      simp only [if_true, Bool.and_eq_true, decide_eq_true_eq] at h4
      exact ⟨.inr (.inr (.inr rfl)), allB_none, allB_none, (fun e => by cases e), fun _ => h4⟩
    · rw [if_neg h3] at h4
      simp only [Bool.and_eq_true, decide_eq_true_eq] at h4
      exact ⟨h4.1.elim (fun e => .inr (.inl e)) (fun e => .inr (.inr (.inl e))), allB_none, allB_none, fun e => absurd e h0, fun e => absurd e h3⟩

/-- Behind a prim. -/
theorem Sized.apply (hs : Sized k h t) (p : Pr) : Sized (k + 1) (h + p.new.length) (applyP t p).1 := by
  have h0 : Sized (k + 1) (h + p.new.length) t := hs.mono (Nat.le_succ _) (Nat.le_add_right _ _)
  cases hr : rightP p
  · simp only [applyP, hr, if_true]; exact h0
  obtain ⟨hn, hk, _, hnew, _, hmv⟩ := right_parts hr
  simp only [applyP, hr, Bool.true_eq_false, if_false]
  rcases hk with e | e | e | e
  · simp only [e, if_true, hunkT]
    cases hg : getT t p.name with
    | none => exact h0
    | some l =>
      have hl := hs.get hg
      dsimp only
      split
      · exact (hs.mono (Nat.le_refl _) (Nat.le_add_right _ _)).with_ hn (allB_spliced hl.2.1 hnew _ _) (Nat.le_trans (spliced_le _ _ _ _) (Nat.add_le_add_right hl.2.2 _))
      · exact h0
  · simp only [e, Int.reduceEq, if_false, if_true]
    split
    · exact h0
    · exact (hs.mono (Nat.le_refl _) (Nat.le_add_right _ _)).with_ hn allB_none (Nat.zero_le _)
  · simp only [e, Int.reduceEq, if_false, if_true]
    cases hg : getT t p.name with
    | none => exact h0
    | some l =>
      dsimp only
      split
      · exact h0
      · exact h0.without _
  · simp only [e, Int.reduceEq, if_false]
    cases hg : getT t p.name with
    | none => exact h0
    | some l =>
      have hl := hs.get hg
      dsimp only
      split
      · exact h0
      · exact ((hs.mono (Nat.le_refl _) (Nat.le_add_right _ _)).without _).with_ (hmv e).1 hl.2.1 (Nat.le_trans hl.2.2 (Nat.le_add_right _ _))
theorem rising_apply (ht : Rising t) (p : Pr) : Rising (applyP t p).1 := by
  simp only [applyP]
  split
  · exact ht
  split
  · simp only [hunkT]
    split
    · exact ht
    · split
      · exact rising_with ht _ _
      · exact ht
  split
  · split
    · exact ht
    · exact rising_with ht _ _
  split
  · split
    · exact ht
    · split
      · exact ht
      · exact rising_without ht _
  · split
    · exact ht
    · split
      · exact ht
      · exact rising_with (rising_without ht _) _ _

/-- Each kind by the tree's own calls. -/
theorem apply_wrong {p : Pr} (hr : rightP p = false) : applyP t p = (t, 30) := by simp [applyP, hr]
theorem apply_add {p : Pr} (hr : rightP p = true) (e : p.kind = 1) : applyP t p = ((addT t p.name).1, if (addT t p.name).2 = 0 then 0 else 31) := by
  have hn := (right_parts hr).1
  simp only [applyP, hr, e, addT, hn, Bool.true_eq_false, if_false, Int.reduceEq, if_true]
  cases hasT t p.name <;> simp
theorem apply_rm {p : Pr} (hr : rightP p = true) (e : p.kind = 2) : applyP t p = ((removeT t p.name).1, if (removeT t p.name).2 = 0 then 0 else 31) := by
  have key : ∀ r : Tr × Int, removeT t p.name = r → applyP t p = (r.1, if r.2 = 0 then 0 else 31) := by
    intro r hq
    simp only [applyP, hr, e, Bool.true_eq_false, if_false, Int.reduceEq, if_true]
    unfold removeT at hq
    split at hq <;> rename_i hg <;> rw [hg]
    · subst hq; simp
    · dsimp only
      split at hq <;> rename_i h1
      · subst hq; simp [h1]
      · subst hq; simp [h1]
  exact key _ rfl
theorem apply_move {p : Pr} (hr : rightP p = true) (e : p.kind = 3) : applyP t p = ((moveT t p.name p.to).1, if (moveT t p.name p.to).2 = 0 then 0 else 31) := by
  have hn := ((right_parts hr).2.2.2.2.2 e).1
  have key : ∀ r : Tr × Int, moveT t p.name p.to = r → applyP t p = (r.1, if r.2 = 0 then 0 else 31) := by
    intro r hq
    simp only [applyP, hr, e, Bool.true_eq_false, if_false, Int.reduceEq]
    simp only [moveT, hn, Bool.true_eq_false, if_false] at hq
    split at hq <;> rename_i hg <;> rw [hg]
    · subst hq; simp
    · dsimp only
      split at hq <;> rename_i h1
      · subst hq; simp [h1]
      · subst hq; simp [h1]
  exact key _ rfl
theorem apply_hunk {p : Pr} (hr : rightP p = true) (e : p.kind = 0) : applyP t p = hunkT t p := by simp [applyP, hr, e]
theorem put_spliced {p : Pr} {l : List ByteArray} (hs : Sized k h t) (hr : rightP p = true) (hg : getT t p.name = some l) (i m : Nat) : putT t p.name (spliced l i m p.new) = (withT t p.name (spliced l i m p.new), 0) := by
  simp only [putT, getT_has hg, allB_spliced (hs.get hg).2.1 (right_parts hr).2.2.2.1, Bool.true_eq_false, if_false]
end

end Go.Proofs.YtboffgmaohcpfaaDoor

/-
  Rows of structures in memory, each of k cells: what a slice of them reads as, and one of the call's own that grows by append.
-/
namespace Go.Proofs.YtboffgmaohcpfaaDoor
open Go.RowKit

theorem flat_at {α : Type} {k : Nat} : ∀ {css : List (List α)}, (∀ cs ∈ css, cs.length = k) → ∀ {j i : Nat} {cs : List α}, css[j]? = some cs → i < k → css.flatten[j * k + i]? = cs[i]?
  | [], _, _, _, _, h, _ => by simp at h
  | c :: css, hk, 0, i, cs, h, hi => by
    simp at h; subst h
    rw [Nat.zero_mul, Nat.zero_add, List.flatten_cons, List.getElem?_append_left (by rw [hk _ List.mem_cons_self]; exact hi)]
  | c :: css, hk, j + 1, i, cs, h, hi => by
    have hc := hk _ (List.mem_cons_self (a := c) (l := css))
    rw [List.flatten_cons, List.getElem?_append_right (by rw [hc, Nat.add_mul]; omega), hc, show (j + 1) * k + i - k = j * k + i from by rw [Nat.add_mul]; omega]
    exact flat_at (fun cs hcs => hk cs (List.mem_cons_of_mem _ hcs)) (by simpa using h) hi
theorem flat_length {α : Type} {k : Nat} : ∀ {css : List (List α)}, (∀ cs ∈ css, cs.length = k) → css.flatten.length = css.length * k
  | [], _ => by simp
  | c :: css, hk => by
    rw [List.flatten_cons, List.length_append, hk _ List.mem_cons_self, flat_length (fun cs hcs => hk cs (List.mem_cons_of_mem _ hcs)), List.length_cons, Nat.add_mul]; omega

/-- The slice at A of n elements, of k cells each, holds the cells css. -/
def RowK (k : Nat) (w : World) (A : Option Addr) (n : Nat) (css : List (List Value)) : Prop :=
  css.length = n ∧ (∀ cs ∈ css, cs.length = k) ∧ (0 < n → ∃ b o, A = some ⟨b, o, none⟩ ∧ ∀ (j i : Nat) cs v, css[j]? = some cs → cs[i]? = some v → w.cell? ⟨b, o + j * k + i, none⟩ = some v)

section
variable {k n : Nat} {w w' : World} {A : Option Addr} {css : List (List Value)}

theorem RowK.len (h : RowK k w A n css) : css.length = n := h.1
theorem RowK.none : RowK k w A 0 [] := ⟨rfl, (fun _ h => by cases h), fun h => absurd h (by omega)⟩
theorem RowK.later (h : RowK k w A n css) (hl : Later w w') : RowK k w' A n css :=
  ⟨h.1, h.2.1, fun hn => by
    obtain ⟨b, o, e, hc⟩ := h.2.2 hn
    exact ⟨b, o, e, fun j i cs v h1 h2 => hl.cell (hc j i cs v h1 h2)⟩⟩
/-- The place of an element, and its cells. -/
theorem RowK.get (h : RowK k w A n css) {j : Nat} (hj : j < n) : ∃ b o, A = some ⟨b, o, .none⟩ ∧ ∃ cs, css[j]? = some cs ∧ cs.length = k ∧ ∀ (i : Nat) v, cs[i]? = some v → w.cell? ⟨b, o + j * k + i, .none⟩ = some v := by
  obtain ⟨b, o, e, hc⟩ := h.2.2 (by omega)
  have hl : j < css.length := by rw [h.1]; exact hj
  exact ⟨b, o, e, css[j], List.getElem?_eq_getElem hl, h.2.1 _ (List.getElem_mem hl), fun i v hi => hc j i _ v (List.getElem?_eq_getElem hl) hi⟩
end

/-- The value v is a row of the call's own (what it made since w0) of k cells an element. -/
def OwnK (e : TypeId) (k : Nat) (w0 w : World) (v : Value) (css : List (List Value)) : Prop :=
  w.ownsRow w0.heap.size e k v css.length css.flatten ∧ (∀ cs ∈ css, cs.length = k) ∧ Later w0 w

section
variable {e : TypeId} {k : Nat} {w0 w : World} {v : Value} {css : List (List Value)}

theorem OwnK.later (h : OwnK e k w0 w v css) : Later w0 w := h.2.2
theorem OwnK.nil (h : Later w0 w) : OwnK e k w0 w (.slice none 0 0) [] := ⟨World.ownsRow_nil _ _ _ _, (fun _ h => by cases h), h⟩
theorem OwnK.alloc (h : OwnK e k w0 w v css) (o : Obj) : OwnK e k w0 (w.alloc o) v css := ⟨h.1.alloc o, h.2.1, h.2.2.alloc o⟩
theorem OwnK.drew (h : OwnK e k w0 w v css) : OwnK e k w0 w.drew v css := ⟨h.1, h.2.1, h.2.2.drew⟩
theorem OwnK.drewN (h : OwnK e k w0 w v css) (n : Nat) : OwnK e k w0 (w.drewN n) v css := ⟨h.1, h.2.1, h.2.2.drewN n⟩
/-- Nothing that is there has turned since. -/
theorem OwnK.on {w' : World} (h : OwnK e k w0 w v css) (hl : Later w w') : OwnK e k w0 w' v css :=
  ⟨h.1.kept (row := none) ⟨hl.os, hl.tape, hl.output, hl.size, fun i hi _ => hl.block i hi⟩ (by cases v.ownBlock <;> simp), h.2.1, h.2.2.trans hl⟩
theorem OwnK.row (h : OwnK e k w0 w v css) : ∃ A c, v = .slice A css.length c ∧ css.length ≤ c ∧ RowK k w A css.length css := by
  rcases h.1.2 with ⟨hv, h0⟩ | ⟨g, cap, cur, hv, hg, hh, hnc, hm, hs, ht⟩
  · have : css = [] := List.eq_nil_of_length_eq_zero h0
    subst this
    exact ⟨none, 0, hv, Nat.le_refl _, RowK.none⟩
  · refine ⟨some ⟨g, 0, none⟩, cap, hv, hnc, rfl, h.2.1, fun _ => ⟨g, 0, rfl, fun j i cs u hj hi => ?_⟩⟩
    have hik : i < k := by rw [← h.2.1 cs (List.mem_of_getElem? hj)]; exact (List.getElem?_eq_some_iff.1 hi).1
    have hc := h.1.cells (g := g) (by rw [hv]; rfl) (j * k + i) u (by rw [flat_at h.2.1 hj hik]; exact hi)
    rw [plain_add] at hc
    rw [Nat.zero_add] at hc ⊢
    exact hc
theorem OwnK.block (h : OwnK e k w0 w v css) : ∀ b, v.ownBlock = some b → w0.heap.size ≤ b := fun b hb => (h.1.lt b hb).1
end

section
variable {P : Program} {w0 w : World} {e : TypeId} {k : Nat} {v : Value} {olds : List (List Value)}

theorem run_append_rowK (t ty : TypeId) (i : TypeInfo) (z : Value) (bytes : Nat) (ht : P.underlying t = some (.slice e)) (hi : P.info? e = some i) (hz : i.zero = some z) (hsize : i.size = k) (hby : i.bytes = bytes) (hzs : z.cells.size = k) (hk : 0 < k)
    (hown : OwnK e k w0 w v olds) (A : Option Addr) (m c : Nat) (news : List (List Value)) (hr : RowK k w A m news) (hone : ∀ cs ∈ news, ∀ u ∈ cs, u.oneCell' = true) (hb : olds.length + m ≤ 1000000) (hbb : bytes ≤ 1000) :
    ∃ v' w', (Builtin.append_ #[t, t] ty #[v, .slice A m c]).run P w = .ok v' w' ∧ OwnK e k w0 w' v' (olds ++ news) ∧ w.grownBy w' v.ownBlock := by
  have hl := hr.len
  have hbig : (olds.length + m) * bytes ≤ 140737488355328 := Nat.le_trans (Nat.mul_le_mul hb hbb) (by omega)
  rcases Nat.eq_zero_or_pos m with h0 | h0
  · subst h0
    have hn : news = [] := List.eq_nil_of_length_eq_zero hl
    subst hn
    rw [List.append_nil]
    rcases A with _ | ad
    · refine ⟨v, w, ?_, hown, ⟨rfl, rfl, rfl, Nat.le_refl _, fun _ _ _ => rfl⟩⟩
      rcases hown.1.2 with ⟨rfl, _⟩ | ⟨g, cap, cur, rfl, _, _, hnc, _⟩
      · simp [Builtin.append_, run_underlying ht, sizeOf, typeInfo, hi, Builtin.lenOf, Builtin.firstCells]
      · simp [Builtin.append_, run_underlying ht, sizeOf, typeInfo, hi, Builtin.lenOf, Builtin.firstCells, hnc, storeCells]
    · obtain ⟨v', w', hrun, h2, h3, _, _⟩ := run_append_own_at (P := P) w w0.heap.size t ty e i z k bytes ht hi hz hsize hby hzs hk v olds.length olds.flatten hown.1 ad 0 c [] (by simp)
        (fun j u hu => by simp at hu) (fun u hu => by simp at hu) (by simp only [maxLen]; omega) hbig hown.2.2.size
      refine ⟨v', w', hrun, ⟨by simpa using h2, hown.2.1, Below.grown hown.2.2 h3 hown.2.2.size hown.block⟩, h3⟩
  · obtain ⟨b, o, rfl, hc⟩ := hr.2.2 h0
    obtain ⟨v', w', hrun, h2, h3, _, _⟩ := run_append_own_at (P := P) w w0.heap.size t ty e i z k bytes ht hi hz hsize hby hzs hk v olds.length olds.flatten hown.1 ⟨b, o, none⟩ m c news.flatten
      (by rw [flat_length hr.2.1, hl])
      (fun j u hu => by
        have hjl := (List.getElem?_eq_some_iff.1 hu).1
        rw [flat_length hr.2.1] at hjl
        have hq : j / k < news.length := (Nat.div_lt_iff_lt_mul hk).2 hjl
        have hjk : j / k * k + j % k = j := by rw [Nat.mul_comm]; exact Nat.div_add_mod j k
        have hat := flat_at (i := j % k) hr.2.1 (List.getElem?_eq_getElem hq) (Nat.mod_lt _ hk)
        rw [hjk, hu] at hat
        have := hc (j / k) (j % k) _ u (List.getElem?_eq_getElem hq) hat.symm
        rw [plain_add, ← hjk, ← Nat.add_assoc]
        exact this)
      (fun u hu => by
        obtain ⟨cs, hcs, hu⟩ := List.mem_flatten.1 hu
        exact hone cs hcs u hu)
      (by simp only [maxLen]; omega) hbig hown.2.2.size
    refine ⟨v', w', hrun, ⟨?_, fun cs hcs => ?_, Below.grown hown.2.2 h3 hown.2.2.size hown.block⟩, h3⟩
    · rw [List.length_append, List.flatten_append, hl]
      exact h2
    · rcases List.mem_append.1 hcs with h | h
      · exact hown.2.1 cs h
      · exact hr.2.1 cs h

/-- append onto a row of the call's own, whatever the source. -/
theorem wpList_append_rowK {ops : Array Oper} {rest : List Oper} {o : Oper} {a : Act} {Q : Exit → Act → World → Prop} (hgd : o.guard = none) (s x : Operand) (t : TypeId)
    (ho : o.op = .call { callee := .builtin .append, args := #[s, x], argTypes := #[t, t] }) (i : TypeInfo) (z : Value) (bytes : Nat)
    (ht : P.underlying t = some (.slice e)) (hi : P.info? e = some i) (hz : i.zero = some z) (hsize : i.size = k) (hby : i.bytes = bytes) (hzs : z.cells.size = k) (hk : 0 < k)
    (hown : OwnK e k w0 w v olds) (hs : a.eval s = v) (A : Option Addr) (m c : Nat) (news : List (List Value)) (hx : a.eval x = .slice A m c) (hr : RowK k w A m news) (hone : ∀ cs ∈ news, ∀ u ∈ cs, u.oneCell' = true) (hb : olds.length + m ≤ 1000000) (hbb : bytes ≤ 1000)
    (h : ∀ v' w', OwnK e k w0 w' v' (olds ++ news) → w.grownBy w' v.ownBlock → wpList P ops Q rest (a.put o.dst v') w') : wpList P ops Q (o :: rest) a w := by
  refine wpList_plain hgd fun K hK => ?_
  obtain ⟨v', w', hrun, h2, h3⟩ := run_append_rowK (P := P) t o.type i z bytes ht hi hz hsize hby hzs hk hown A m c news hr hone hb hbb
  unfold Oper.wp execOp
  simp only [ho, resolve, invoke, builtin, Sem.run_bind, Sem.run_pure, Result.andThen_ok, List.map_toArray, List.map_cons, List.map_nil, hs, hx, hrun]
  exact hK _ _ (h v' w' h2 h3)
end

/-- A new row of one element. -/
theorem RowK.one (w : World) (cs : List Value) (t : TypeId) : RowK cs.length (w.alloc (.cells cs.toArray t)) (some ⟨w.heap.size, 0, .none⟩) 1 [cs] := by
  refine ⟨rfl, fun c hc => by simp at hc; rw [hc], fun _ => ⟨_, _, rfl, fun j i c v hj hi => ?_⟩⟩
  match j, hj with
  | 0, hj =>
    simp at hj; subst hj
    have hb : (w.alloc (.cells cs.toArray t)).heap[w.heap.size]? = some (.cells cs.toArray t (0, 0)) := heap_alloc_new w _
    simp only [World.cell?, hb, Nat.zero_mul, Nat.zero_add]
    simpa using hi

end Go.Proofs.YtboffgmaohcpfaaDoor
