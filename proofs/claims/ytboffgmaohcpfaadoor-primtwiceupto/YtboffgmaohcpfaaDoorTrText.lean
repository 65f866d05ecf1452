/-
  What tree's Text comes to, as a call.
-/
import Derived.Test.YtboffgmaohcpfaaDoorChecked
import Derived.Test.YtboffgmaohcpfaaDoorShBuilderK
import Derived.Test.YtboffgmaohcpfaaDoorShIter
import Derived.Test.YtboffgmaohcpfaaDoorTrNames
import Derived.Test.YtboffgmaohcpfaaDoorTrMem
import Derived.Test.YtboffgmaohcpfaaDoorLText
import Derived.Test.YtboffgmaohcpfaaDoorWords
import Derived.Lib.AppendIntMem
import Derived.Deep.LoopGhost
import Derived.Lib.Hide
namespace Go.Proofs.YtboffgmaohcpfaaDoor
open Go.RowKit Go.Maps

/-- A file as a text. -/
def headL (f : ByteArray × List ByteArray) : List UInt8 := bytes f.1 ++ [32] ++ Lib.decDigits f.2.length ++ [10]
def textT (t : Tr) : List UInt8 := t.flatMap fun f => headL f ++ textL f.2
theorem textT_next {t : Tr} {k : Nat} {f : ByteArray × List ByteArray} (h : t[k]? = some f) : textT (t.take (k + 1)) = textT (t.take k) ++ headL f ++ textL f.2 := by
  obtain ⟨hk, rfl⟩ := List.getElem?_eq_some_iff.1 h
  unfold textT
  rw [List.take_succ_eq_append_getElem hk, List.flatMap_append, List.append_assoc]
  simp
theorem textT_take {t : Tr} (k : Nat) : (textT (t.take k)).length ≤ (textT t).length := by
  have : textT t = textT (t.take k) ++ textT (t.drop k) := by
    unfold textT
    rw [← List.flatMap_append, List.take_append_drop]
  rw [this, List.length_append]; omega

/-- The table of powers of ten is as it is laid. -/
def Tab (w : World) : Prop := Lib.TabIs Tryd.prog w "internal/strconv.uint64pow10" .u64 Lib.pow10Tab
theorem Tab.later {w w' : World} (h : Tab w) (hl : Later w w') : Tab w' := Lib.tabBelow_of_tabIs h w' hl

theorem later_grow (w : World) (k : Nat) (os : Array Obj) : Later w (Sort.grow (w.drewN k) os) :=
  ⟨rfl, rfl, rfl, by simp [Sort.grow, World.drewN], fun i hi => by simp only [Sort.grow, World.drewN]; exact Array.getElem?_append_left hi⟩

theorem kept_later {w w' : World} (b : Option Nat) (h : Later w w') : Lib.OthersKept 5 b w w' := fun k o hk _ _ => by
  rw [h.block k (Array.getElem?_eq_some_iff.1 hk).1]; exact hk

/-- A row of texts stands while a builder is written. -/
theorem Own.kept {w0 w w' : World} {v : Value} {ss : List ByteArray} {b : Nat} {cs : Array Value} {fz : Nat × Nat} (h : Own 9 w0 w v ss) (hk : Lib.OthersKept 5 (some b) w w') (hb : w.heap[b]? = some (.cells cs 58 fz)) {A : Option Addr} {c : Nat} (hv : v = .slice A ss.length c) :
    Row w' A ss.length ss := by
  rcases h.1.2 with ⟨hv', h0⟩ | ⟨g, cap, cur, hv', hg, hh, hnc, hm, hs, ht⟩
  · have : ss = [] := List.eq_nil_of_length_eq_zero h0
    subst this
    exact Row.none
  · rw [hv'] at hv
    simp only [Value.slice.injEq] at hv
    obtain ⟨rfl, -, rfl⟩ := hv
    have hne : g ≠ b := by
      rintro rfl
      rw [hb] at hh
      simp at hh
    have hg' := hk g _ hh (by simpa using hne) (fun c fz e => by simp at e)
    refine ⟨rfl, fun _ => ⟨g, 0, rfl, fun j s hj => ?_⟩⟩
    have hjl := (List.getElem?_eq_some_iff.1 hj).1
    have e : cur.toList[j]? = some (Value.string s) := by
      have h1 : (cur.toList.take (ss.length * 1))[j]? = some (Value.string s) := by rw [ht, List.getElem?_map, hj]; rfl
      rwa [List.getElem?_take_of_lt (by omega)] at h1
    simp only [World.cell?, hg', Nat.zero_add]
    simpa using e

/-- A look-up of a file that is there, without asking. -/
theorem FA.look1 {w : World} {B : Nat} {z : Fl Held} (h : FA w B z) {nm : ByteArray} (hs : nm.size ≤ maxLen) {x : Held} (hx : getT z nm = some x) :
    (Instr.lookup 49 (.map (some B)) (.string nm) false).run Tryd.prog w = .ok x.1 w := by
  obtain ⟨v, ps, hrun, hv⟩ := h.own.lookup keyed9 Tryd.underlying49 (zero29 w) (raw_mk none 0 0) (key9 hs)
  rw [atKey_datum, getT_map, hx] at hv
  obtain ⟨A, n, c, rfl, hy⟩ := raw_inv hv
  simp only [Option.map_some, Prod.mk.injEq, DataW.held.injEq] at hy
  rw [hrun, ← hy.1]

theorem builder_later {B b : Nat} {bs : List Value} {w w' : World} (h : Lib.IsBuilderF 58 5 B b bs w) (hl : Later w w') : Lib.IsBuilderF 58 5 B b bs w' := by
  have hg : w.grownBy w' none := ⟨hl.os, hl.tape, hl.output, hl.size, fun i hi _ => hl.block i hi⟩
  have one : ∀ {q : Value}, Lib.BuilderAtF 58 5 B b q bs w → Lib.BuilderAtF 58 5 B b q bs w' := fun {q} h => by
    have hlt := h.lt
    obtain ⟨hB, v, hb, hown, hne⟩ := h
    refine ⟨hB, v, (hl.block b hlt).trans hb, hown.kept hg ?_, hne⟩
    cases v.ownBlock <;> simp
  rcases h with h | h
  · exact .inl (one h)
  · exact .inr (one h)
theorem builder_new (w : World) : Lib.IsBuilderF 58 5 w.heap.size w.heap.size (Lib.byteCells []) (w.alloc (.cells #[.pointer none, .slice none 0 0] 58)) :=
  Lib.IsBuilderF.of (.inl ⟨Nat.le_refl _, .slice none 0 0, heap_alloc_new w _, World.ownsRow_nil _ _ _ _, by simp [Value.ownBlock]⟩)

theorem digits_length (n : Nat) (h : n ≤ 65536) : (Lib.decDigits n).length ≤ 20 := by
  rw [Lib.decDigits_length]
  rcases Nat.eq_zero_or_pos n with rfl | h0
  · rw [Lib.nDigits_small (by omega)]; omega
  · have := Lib.numDigits_eq n h0 (by omega)
    split at this <;> omega

theorem itoa_nat (n : Nat) : (⟨(Lib.itoa (n : Int)).toArray⟩ : ByteArray) = txt (Lib.decDigits n) := by
  rw [Lib.itoa_nonneg]; rfl

set_option maxHeartbeats 800000 in
theorem treeText_any (p B : Nat) (t : Tr) (w : World) (ht : TreeAt w p B t) (htab : Tab w) (hl : t.length ≤ 65536) (hb : (textT t).length ≤ 1000000) (hs : ∀ f ∈ t, f.1.size ≤ maxLen ∧ f.2.length ≤ 65536) :
    Calls Tryd.prog 23 #[.pointer (some ⟨p, 0, none⟩)] w fun e w' => e = .returned (.string (txt (textT t))) ∧ Later w w' := by
  have HT := Lib.hid ht
  have HTB := Lib.hid htab; have HS := Lib.hid hs
  have hc := ht.cell
  clear ht htab hs
  go_enter Tryd.func23, Tryd.ntmps23
  go_wp2_with fail
  refine (names_any p B t _ (HT.out.later ((Later.refl w).alloc _)) hl).mono ?_
  rintro e w1 ⟨v, rfl, hown⟩
  have HO := Lib.hid hown
  obtain ⟨A, c, hv, hcc, -⟩ := hown.row
  have hlen : (namesT t).length = t.length := by simp [namesT]
  rw [hlen] at hv hcc
  subst hv
  have hnew := builder_new w
  have hkb : w1.heap[w.heap.size]? = some (.cells #[.pointer none, .slice none 0 0] 58 (0, 0)) := (hown.later.block _ (by simp)).trans (heap_alloc_new w _)
  have HKB := Lib.hid hkb
  have HB0 := Lib.hid (builder_later hnew hown.later)
  have HL1 : Hid (Later w w1) := ((Later.refl w).alloc _).trans hown.later
  have HLEN := Lib.hid hlen
  clear hown hnew hkb hlen
  go_wp2
  go_loopg [10] (t.length + 1) (fun g s10 wr => ∃ k : Nat, k ≤ t.length ∧ t.length - k ≤ g ∧ s10 = .int .i64 k ∧ Later w wr ∧ Hid (Lib.OthersKept 5 (some w.heap.size) w1 wr) ∧ Hid (Lib.IsBuilderF 58 5 w.heap.size w.heap.size (Lib.byteCells (textT (t.take k))) wr))
  case atStart => exact ⟨0, Nat.zero_le _, by omega, rfl, HL1.out, Lib.OthersKept.refl _ _ _, HB0.out⟩
  case round =>
    obtain ⟨k, hk, hg, rfl, hwr, hkept, hbd⟩ := hrel
    have hle := hwr.le
    have hcw := hwr.cell hc
    by_cases hlt : k < t.length
    · have hf : t[k]? = some t[k] := List.getElem?_eq_getElem hlt
      generalize t[k] = f at hf
      have hrow := HO.out.kept hkept.out HKB.out (A := A) (c := c) (by rw [HLEN.out])
      rw [HLEN.out] at hrow
      obtain ⟨b1, o1, rfl, g1⟩ := hrow.get hlt
      have hnm : (namesT t).getD k ByteArray.empty = f.1 := by simp [namesT, List.getD, hf]
      rw [hnm] at g1
      obtain ⟨hs1, hs2⟩ := HS.out f (List.mem_of_getElem? hf)
      obtain ⟨-, z, hz0, hzt⟩ := HT.out
      have hz := hz0.later hwr
      have hget : getT t f.1 = some f.2 := (getT_iff HT.out.files.rise).2 (List.mem_of_getElem? hf)
      rw [← hzt, getT_map, Option.map_eq_some_iff] at hget
      obtain ⟨x, hx, hxf⟩ := hget
      have hlk := hz.look1 hs1 hx
      obtain ⟨A2, n2, c2, hv2, hnc2, hr2⟩ := hz0.get hx
      rw [hv2] at hlk
      rw [hxf] at hr2
      have hn2 : n2 ≤ 65536 := by rw [← hr2.len]; exact hs2
      have hnext := textT_next hf
      have hroom := textT_take (t := t) (k + 1)
      rw [hnext] at hroom
      simp only [List.length_append] at hroom
      have hhead : headL f = bytes f.1 ++ [32] ++ Lib.decDigits n2 ++ [10] := by rw [headL, hr2.len]
      have hdl := digits_length n2 hn2
      rw [hhead] at hroom hnext
      simp only [List.length_append, List.length_singleton, bytes_length] at hroom
      have HNX := Lib.hid hnext; have HW := Lib.hid hwr
      have HR2 := Lib.hid hr2
      have HITO := Lib.hid (Tryd.strconv_Itoa (n2 : Int) (by omega) (by omega) wr (HTB.out.later hwr))
      clear hf hrow hnm hs1 hs2 hz hz0 hzt hx hxf hv2 hr2 hnext hwr hhead
      have hr1 : f.1.size + 1 ≤ 9223372036854775807 := by omega
      go_wp2_with fail
      refine HITO.out.mono ?_
      rintro e w3 ⟨rfl, q, os, hw3⟩
      have HL3 : Hid (Later wr w3) := by rw [hw3]; exact later_grow wr q os
      clear hw3
      rw [itoa_nat]
      have hdz : (txt (Lib.decDigits n2)).size ≤ 20 := by rw [txt_size]; exact hdl
      generalize hdd : txt (Lib.decDigits n2) = dd at hdz ⊢
      have HDD := Lib.hid hdd; clear hdd
      go_wp2_with fail
      have hle3 : w.heap.size ≤ w3.heap.size := Nat.le_trans hle HL3.out.le
      refine (Tryd.Builder_WriteString_k w.heap.size w.heap.size _ _ w3 (builder_later hbd.out HL3.out) ?room1 hle3).mono ?_
      case room1 =>
        simp only [ByteArray.size_append, Lib.byteCells, List.length_map]
        have h1 : (⟨#[32]⟩ : ByteArray).size = 1 := rfl
        have h2 : (⟨#[10]⟩ : ByteArray).size = 1 := rfl
        omega
      rintro e w4 ⟨rfl, hb4, hl4, hk4⟩
      have HB4 := Lib.hid hb4; have HL4 := Lib.hid hl4; have HK4 := Lib.hid hk4
      have hle4 : w.heap.size ≤ w4.heap.size := Nat.le_trans hle3 hl4.size
      have HW4 : Hid (Later w w4) := Below.trans (Below.trans HW.out (Below.mono HL3.out hle)) hl4
      clear hb4 hl4 hk4
      go_wp2_with fail
      refine (text_any A2 n2 c2 f.2 w4 (HR2.out.later HW4.out) hn2 (by omega)).mono ?_
      rintro e w5 ⟨rfl, hl5⟩
      have HL5 := Lib.hid hl5
      have hle5 : w.heap.size ≤ w5.heap.size := Nat.le_trans hle4 hl5.le
      clear hl5
      go_wp2_with fail
      refine (Tryd.Builder_WriteString_k w.heap.size w.heap.size _ _ w5 (builder_later (.inr HB4.out) HL5.out) ?room2 hle5).mono ?_
      case room2 =>
        simp only [ByteArray.size_append, List.length_append, Lib.byteCells, List.length_map, Lib.strCells_length, txt_size]
        have h1 : (⟨#[32]⟩ : ByteArray).size = 1 := rfl
        have h2 : (⟨#[10]⟩ : ByteArray).size = 1 := rfl
        omega
      rintro e w6 ⟨rfl, hb6, hl6, hk6⟩
      have HB6 := Lib.hid hb6; have HL6 := Lib.hid hl6; have HK6 := Lib.hid hk6
      clear hb6 hl6 hk6
      go_wp2
      go_roundg (t.length - (k + 1))
      case measure => omega
      case rel =>
        refine ⟨k + 1, by omega, Nat.le_refl _, by go_num, Below.trans (Below.trans HW4.out (Below.mono HL5.out hle4)) HL6.out, ?_, .inr ?_⟩
        · exact (((hkept.out.trans (kept_later _ HL3.out)).trans HK4.out).trans (kept_later _ HL5.out)).trans HK6.out
        · rw [HNX.out, show Lib.decDigits n2 = bytes dd from by rw [← HDD.out, bytes_txt]]
          have := HB6.out
          simpa [Lib.byteCells, Lib.strCells, bytes, txt, List.append_assoc] using this
    · have e : t.take k = t := List.take_of_length_le (by omega)
      rw [e] at hbd
      clear e
      have HW := Lib.hid hwr; clear hwr
      go_wp2_with fail
      refine (Tryd.Builder_String_any_k w.heap.size w.heap.size _ wr hbd.out hle).mono ?_
      rintro e w3 ⟨rfl, -, hl3, -⟩
      have HL3 := Lib.hid hl3; clear hl3
      go_wp2
      go_ret
      exact ⟨rfl, Below.trans HW.out HL3.out⟩

end Go.Proofs.YtboffgmaohcpfaaDoor
