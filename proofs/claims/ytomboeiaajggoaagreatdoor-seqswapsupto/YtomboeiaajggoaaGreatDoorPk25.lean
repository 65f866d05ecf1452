import Derived.Test.YtomboeiaajggoaaGreatDoorChecked
import Derived.Test.YtomboeiaajggoaaGreatDoorPk24
import Derived.Test.YtomboeiaajggoaaGreatDoorPk8
import Derived.Test.YtomboeiaajggoaaGreatDoorPk4
import Derived.Test.YtomboeiaajggoaaGreatDoorPk3
import Derived.Lib.AppendIntMem
import Derived.Deep.LoopGhost
import Derived.Lib.Hide

/-
  What tree's Text comes to, as a call.
-/
namespace Go.Proofs.YtomboeiaajggoaaGreatDoor
open Go.RowKit Go.Maps

/-- A file as a text. -/
def headL (f : ByteArray × List ByteArray) : List UInt8 := bytes f.1 ++ [32] ++ Lib.decDigits f.2.length ++ [10]
def textT (t : Tr) : List UInt8 := t.flatMap fun f => headL f ++ textL f.2
theorem textT_next {t : Tr} {k : Nat} {f : ByteArray × List ByteArray} (h : t[k]? = some f) : textT (t.take (k + 1)) = textT (t.take k) ++ headL f ++ textL f.2 := by
  obtain ⟨hk, rfl⟩ := List.getElem?_eq_some_iff.1 h
  unfold textT
  rw [List.take_succ_eq_append_getElem hk, List.flatMap_append, List.append_assoc]
  simp
theorem textT_take {t : Tr} (k : Nat) : (textT (t.take k)).length ≤ (textT t).length := by
  have : textT t = textT (t.take k) ++ textT (t.drop k) := by
    unfold textT
    rw [← List.flatMap_append, List.take_append_drop]
  rw [this, List.length_append]; omega

/-- The table of powers of ten is as it is laid. -/
def Tab (w : World) : Prop := Lib.TabIs Tryz.prog w "internal/strconv.uint64pow10" .u64 Lib.pow10Tab
theorem Tab.later {w w' : World} (h : Tab w) (hl : Later w w') : Tab w' := Lib.tabBelow_of_tabIs h w' hl

theorem later_grow (w : World) (k : Nat) (os : Array Obj) : Later w (Sort.grow (w.drewN k) os) :=
  ⟨rfl, rfl, rfl, by simp [Sort.grow, World.drewN], fun i hi => by simp only [Sort.grow, World.drewN]; exact Array.getElem?_append_left hi⟩

theorem kept_later {w w' : World} (b : Option Nat) (h : Later w w') : Lib.OthersKept 5 b w w' := fun k o hk _ _ => by
  rw [h.block k (Array.getElem?_eq_some_iff.1 hk).1]; exact hk

/-- A row of texts stands while a builder is written. -/
theorem Own.kept {w0 w w' : World} {v : Value} {ss : List ByteArray} {b : Nat} {cs : Array Value} {fz : Nat × Nat} (h : Own 9 w0 w v ss) (hk : Lib.OthersKept 5 (some b) w w') (hb : w.heap[b]? = some (.cells cs 106 fz)) {A : Option Addr} {c : Nat} (hv : v = .slice A ss.length c) :
    Row w' A ss.length ss := by
  rcases h.1.2 with ⟨hv', h0⟩ | ⟨g, cap, cur, hv', hg, hh, hnc, hm, hs, ht⟩
  · have : ss = [] := List.eq_nil_of_length_eq_zero h0
    subst this
    exact Row.none
  · rw [hv'] at hv
    simp only [Value.slice.injEq] at hv
    obtain ⟨rfl, -, rfl⟩ := hv
    have hne : g ≠ b := by
      rintro rfl
      rw [hb] at hh
      simp at hh
    have hg' := hk g _ hh (by simpa using hne) (fun c fz e => by simp at e)
    refine ⟨rfl, fun _ => ⟨g, 0, rfl, fun j s hj => ?_⟩⟩
    have hjl := (List.getElem?_eq_some_iff.1 hj).1
    have e : cur.toList[j]? = some (Value.string s) := by
      have h1 : (cur.toList.take (ss.length * 1))[j]? = some (Value.string s) := by rw [ht, List.getElem?_map, hj]; rfl
      rwa [List.getElem?_take_of_lt (by omega)] at h1
    simp only [World.cell?, hg', Nat.zero_add]
    simpa using e

/-- A look-up of a file that is there, without asking. -/
theorem FA.look1 {w : World} {B : Nat} {z : Fl Held} (h : FA w B z) {nm : ByteArray} (hs : nm.size ≤ maxLen) {x : Held} (hx : getT z nm = some x) :
    (Instr.lookup 97 (.map (some B)) (.string nm) false).run Tryz.prog w = .ok x.1 w := by
  obtain ⟨v, ps, hrun, hv⟩ := h.own.lookup keyed9 Tryz.underlying97 (zero29 w) (raw_mk none 0 0) (key9 hs)
  rw [atKey_datum, getT_map, hx] at hv
  obtain ⟨A, n, c, rfl, hy⟩ := raw_inv hv
  simp only [Option.map_some, Prod.mk.injEq, DataW.held.injEq] at hy
  rw [hrun, ← hy.1]

theorem builder_later {B b : Nat} {bs : List Value} {w w' : World} (h : Lib.IsBuilderF 106 5 B b bs w) (hl : Later w w') : Lib.IsBuilderF 106 5 B b bs w' := by
  have hg : w.grownBy w' none := ⟨hl.os, hl.tape, hl.output, hl.size, fun i hi _ => hl.block i hi⟩
  have one : ∀ {q : Value}, Lib.BuilderAtF 106 5 B b q bs w → Lib.BuilderAtF 106 5 B b q bs w' := fun {q} h => by
    have hlt := h.lt
    obtain ⟨hB, v, hb, hown, hne⟩ := h
    refine ⟨hB, v, (hl.block b hlt).trans hb, hown.kept hg ?_, hne⟩
    cases v.ownBlock <;> simp
  rcases h with h | h
  · exact .inl (one h)
  · exact .inr (one h)
theorem builder_new (w : World) : Lib.IsBuilderF 106 5 w.heap.size w.heap.size (Lib.byteCells []) (w.alloc (.cells #[.pointer none, .slice none 0 0] 106)) :=
  Lib.IsBuilderF.of (.inl ⟨Nat.le_refl _, .slice none 0 0, heap_alloc_new w _, World.ownsRow_nil _ _ _ _, by simp [Value.ownBlock]⟩)

theorem digits_length (n : Nat) (h : n ≤ 65536) : (Lib.decDigits n).length ≤ 20 := by
  rw [Lib.decDigits_length]
  rcases Nat.eq_zero_or_pos n with rfl | h0
  · rw [Lib.nDigits_small (by omega)]; omega
  · have := Lib.numDigits_eq n h0 (by omega)
    split at this <;> omega

theorem itoa_nat (n : Nat) : (⟨(Lib.itoa (n : Int)).toArray⟩ : ByteArray) = txt (Lib.decDigits n) := by
  rw [Lib.itoa_nonneg]; rfl

set_option maxHeartbeats 800000 in
theorem treeText_any (p B : Nat) (t : Tr) (w : World) (ht : TreeAt w p B t) (htab : Tab w) (hl : t.length ≤ 65536) (hb : (textT t).length ≤ 1000000) (hs : ∀ f ∈ t, f.1.size ≤ maxLen ∧ f.2.length ≤ 65536) :
    Calls Tryz.prog 35 #[.pointer (some ⟨p, 0, none⟩)] w fun e w' => e = .returned (.string (txt (textT t))) ∧ Later w w' := by
  have HT := Lib.hid ht
  have HTB := Lib.hid htab; have HS := Lib.hid hs
  have hc := ht.cell
  clear ht htab hs
  go_enter Tryz.func35, Tryz.ntmps35
  go_wp2_with fail
  refine (names_any p B t _ (HT.out.later ((Later.refl w).alloc _)) hl).mono ?_
  rintro e w1 ⟨v, rfl, hown⟩
  have HO := Lib.hid hown
  obtain ⟨A, c, hv, hcc, -⟩ := hown.row
  have hlen : (namesT t).length = t.length := by simp [namesT]
  rw [hlen] at hv hcc
  subst hv
  have hnew := builder_new w
  have hkb : w1.heap[w.heap.size]? = some (.cells #[.pointer none, .slice none 0 0] 106 (0, 0)) := (hown.later.block _ (by simp)).trans (heap_alloc_new w _)
  have HKB := Lib.hid hkb
  have HB0 := Lib.hid (builder_later hnew hown.later)
  have HL1 : Hid (Later w w1) := ((Later.refl w).alloc _).trans hown.later
  have HLEN := Lib.hid hlen
  clear hown hnew hkb hlen
  go_wp2
  go_loopg [10] (t.length + 1) (fun g s10 wr => ∃ k : Nat, k ≤ t.length ∧ t.length - k ≤ g ∧ s10 = .int .i64 k ∧ Later w wr ∧ Hid (Lib.OthersKept 5 (some w.heap.size) w1 wr) ∧ Hid (Lib.IsBuilderF 106 5 w.heap.size w.heap.size (Lib.byteCells (textT (t.take k))) wr))
  case atStart => exact ⟨0, Nat.zero_le _, by omega, rfl, HL1.out, Lib.OthersKept.refl _ _ _, HB0.out⟩
  case round =>
    obtain ⟨k, hk, hg, rfl, hwr, hkept, hbd⟩ := hrel
    have hle := hwr.le
    have hcw := hwr.cell hc
    by_cases hlt : k < t.length
    · have hf : t[k]? = some t[k] := List.getElem?_eq_getElem hlt
      generalize t[k] = f at hf
      have hrow := HO.out.kept hkept.out HKB.out (A := A) (c := c) (by rw [HLEN.out])
      rw [HLEN.out] at hrow
      obtain ⟨b1, o1, rfl, g1⟩ := hrow.get hlt
      have hnm : (namesT t).getD k ByteArray.empty = f.1 := by simp [namesT, List.getD, hf]
      rw [hnm] at g1
      obtain ⟨hs1, hs2⟩ := HS.out f (List.mem_of_getElem? hf)
      obtain ⟨-, z, hz0, hzt⟩ := HT.out
      have hz := hz0.later hwr
      have hget : getT t f.1 = some f.2 := (getT_iff HT.out.files.rise).2 (List.mem_of_getElem? hf)
      rw [← hzt, getT_map, Option.map_eq_some_iff] at hget
      obtain ⟨x, hx, hxf⟩ := hget
      have hlk := hz.look1 hs1 hx
      obtain ⟨A2, n2, c2, hv2, hnc2, hr2⟩ := hz0.get hx
      rw [hv2] at hlk
      rw [hxf] at hr2
      have hn2 : n2 ≤ 65536 := by rw [← hr2.len]; exact hs2
      have hnext := textT_next hf
      have hroom := textT_take (t := t) (k + 1)
      rw [hnext] at hroom
      simp only [List.length_append] at hroom
      have hhead : headL f = bytes f.1 ++ [32] ++ Lib.decDigits n2 ++ [10] := by rw [headL, hr2.len]
      have hdl := digits_length n2 hn2
      rw [hhead] at hroom hnext
      simp only [List.length_append, List.length_singleton, bytes_length] at hroom
      have HNX := Lib.hid hnext; have HW := Lib.hid hwr
      have HR2 := Lib.hid hr2
      have HITO := Lib.hid (Tryz.strconv_Itoa (n2 : Int) (by omega) (by omega) wr (HTB.out.later hwr))
      clear hf hrow hnm hs1 hs2 hz hz0 hzt hx hxf hv2 hr2 hnext hwr hhead
      have hr1 : f.1.size + 1 ≤ 9223372036854775807 := by omega
      go_wp2_with fail
      refine HITO.out.mono ?_
      rintro e w3 ⟨rfl, q, os, hw3⟩
      have HL3 : Hid (Later wr w3) := by rw [hw3]; exact later_grow wr q os
      clear hw3
      rw [itoa_nat]
      have hdz : (txt (Lib.decDigits n2)).size ≤ 20 := by rw [txt_size]; exact hdl
      generalize hdd : txt (Lib.decDigits n2) = dd at hdz ⊢
      have HDD := Lib.hid hdd; clear hdd
      go_wp2_with fail
      have hle3 : w.heap.size ≤ w3.heap.size := Nat.le_trans hle HL3.out.le
      refine (Tryz.Builder_WriteString_k w.heap.size w.heap.size _ _ w3 (builder_later hbd.out HL3.out) ?room1 hle3).mono ?_
      case room1 =>
        simp only [ByteArray.size_append, Lib.byteCells, List.length_map]
        have h1 : (⟨#[32]⟩ : ByteArray).size = 1 := rfl
        have h2 : (⟨#[10]⟩ : ByteArray).size = 1 := rfl
        omega
      rintro e w4 ⟨rfl, hb4, hl4, hk4⟩
      have HB4 := Lib.hid hb4; have HL4 := Lib.hid hl4; have HK4 := Lib.hid hk4
      have hle4 : w.heap.size ≤ w4.heap.size := Nat.le_trans hle3 hl4.size
      have HW4 : Hid (Later w w4) := Below.trans (Below.trans HW.out (Below.mono HL3.out hle)) hl4
      clear hb4 hl4 hk4
      go_wp2_with fail
      refine (text_any A2 n2 c2 f.2 w4 (HR2.out.later HW4.out) hn2 (by omega)).mono ?_
      rintro e w5 ⟨rfl, hl5⟩
      have HL5 := Lib.hid hl5
      have hle5 : w.heap.size ≤ w5.heap.size := Nat.le_trans hle4 hl5.le
      clear hl5
      go_wp2_with fail
      refine (Tryz.Builder_WriteString_k w.heap.size w.heap.size _ _ w5 (builder_later (.inr HB4.out) HL5.out) ?room2 hle5).mono ?_
      case room2 =>
        simp only [ByteArray.size_append, List.length_append, Lib.byteCells, List.length_map, Lib.strCells_length, txt_size]
        have h1 : (⟨#[32]⟩ : ByteArray).size = 1 := rfl
        have h2 : (⟨#[10]⟩ : ByteArray).size = 1 := rfl
        omega
      rintro e w6 ⟨rfl, hb6, hl6, hk6⟩
      have HB6 := Lib.hid hb6; have HL6 := Lib.hid hl6; have HK6 := Lib.hid hk6
      clear hb6 hl6 hk6
      go_wp2
      go_roundg (t.length - (k + 1))
      case measure => omega
      case rel =>
        refine ⟨k + 1, by omega, Nat.le_refl _, by go_num, Below.trans (Below.trans HW4.out (Below.mono HL5.out hle4)) HL6.out, ?_, .inr ?_⟩
        · exact (((hkept.out.trans (kept_later _ HL3.out)).trans HK4.out).trans (kept_later _ HL5.out)).trans HK6.out
        · rw [HNX.out, show Lib.decDigits n2 = bytes dd from by rw [← HDD.out, bytes_txt]]
          have := HB6.out
          simpa [Lib.byteCells, Lib.strCells, bytes, txt, List.append_assoc] using this
    · have e : t.take k = t := List.take_of_length_le (by omega)
      rw [e] at hbd
      clear e
      have HW := Lib.hid hwr; clear hwr
      go_wp2_with fail
      refine (Tryz.Builder_String_any_k w.heap.size w.heap.size _ wr hbd.out hle).mono ?_
      rintro e w3 ⟨rfl, -, hl3, -⟩
      have HL3 := Lib.hid hl3; clear hl3
      go_wp2
      go_ret
      exact ⟨rfl, Below.trans HW.out HL3.out⟩

end Go.Proofs.YtomboeiaajggoaaGreatDoor

/-
  The statements' own example of layer 5: what it is made of.
-/
namespace Go.Proofs.YtomboeiaajggoaaGreatDoor
open Go.RowKit Go.Maps

def e5L : Pr := ⟨0, ⟨#[97]⟩, ⟨#[]⟩, 0, [⟨#[120]⟩], []⟩
def e5M : Pr := ⟨0, ⟨#[97]⟩, ⟨#[]⟩, 5, [⟨#[121]⟩], [⟨#[122]⟩]⟩
def e5R : Pr := ⟨0, ⟨#[97]⟩, ⟨#[]⟩, 4, [⟨#[121]⟩], [⟨#[122]⟩]⟩
def e5A : Pr := ⟨1, ⟨#[97]⟩, ⟨#[]⟩, 0, [], []⟩
def e5B : Pr := ⟨2, ⟨#[98]⟩, ⟨#[]⟩, 0, [], []⟩
theorem e5_rebase : rebaseS [e5M] [e5L] = some [e5R] := by kernel_rfl
theorem e5_split : splitS (fun k => k == 1) 0 ([], []) [e5L, e5R] = ([e5M], [e5L]) := by kernel_rfl
theorem e5_swap : swapS [e5L] [e5R] = some ([e5M], [e5L]) := by kernel_rfl
theorem e5_apply : applyS [] [e5A, e5B] = ([], 31) := by kernel_rfl
theorem e5_sameM : sameS [e5M] [e5M] = true := by kernel_rfl
theorem e5_sameL : sameS [e5L] [e5L] = true := by kernel_rfl
theorem e5_right : [e5L].all rightP = true := by kernel_rfl
theorem e5_names : namesS [e5L] = [⟨#[97]⟩] := by
  unfold namesS
  have h : (allNames [e5L]).map bytes = [[97]] := by kernel_rfl
  have k : (Lib.compact [([97] : List UInt8)]).map txt = [⟨#[97]⟩] := by kernel_rfl
  rw [h, List.mergeSort_singleton, k]
theorem e5_touchA : touchesB (namesS [e5L]) ⟨#[97]⟩ = true := by rw [e5_names]; kernel_rfl
theorem e5_touchB : touchesB (namesS [e5L]) ⟨#[98]⟩ = false := by rw [e5_names]; kernel_rfl
theorem e5_text : txt (textT []) = ⟨#[]⟩ := by kernel_rfl
theorem size1 {s : ByteArray} (h : s.size ≤ 100) : ∀ x ∈ [s], x.size ≤ maxLen := fun x hx => by simp at hx; subst hx; simp only [maxLen]; omega
theorem bare5 (w : World) (k : Int) {a b : ByteArray} (ha : a.size ≤ 100) (hb : b.size ≤ 100) : PrOk w ⟨⟨k, a, b, 0, [], []⟩, none, 0, 0, none, 0, 0⟩ :=
  ⟨Row.none, Row.none, Nat.le_refl _, Nat.le_refl _, Nat.zero_le _, Nat.zero_le _, (by simp only [maxLen]; omega), (by simp only [maxLen]; omega), by simp, by simp, (fun s hs => by simp at hs), (fun s hs => by simp at hs)⟩
theorem e5L_ok {w : World} {b : Nat} (h : Row w (some ⟨b, 0, none⟩) 1 [⟨#[120]⟩]) : PrOk w ⟨e5L, some ⟨b, 0, none⟩, 1, 1, none, 0, 0⟩ :=
  ⟨h, Row.none, Nat.le_refl _, Nat.le_refl _, (by show 1 ≤ 65536; omega), Nat.zero_le _, of_decide_eq_true rfl, of_decide_eq_true rfl, (by show (-9223372036854775808 : Int) ≤ 0; omega), (by show (0 : Int) ≤ 9223372036854775807; omega), size1 (of_decide_eq_true rfl), (fun s hs => by cases hs)⟩
theorem e5M_ok {w : World} {b c : Nat} (h : Row w (some ⟨b, 0, none⟩) 1 [⟨#[121]⟩]) (k : Row w (some ⟨c, 0, none⟩) 1 [⟨#[122]⟩]) : PrOk w ⟨e5M, some ⟨b, 0, none⟩, 1, 1, some ⟨c, 0, none⟩, 1, 1⟩ :=
  ⟨h, k, Nat.le_refl _, Nat.le_refl _, (by show 1 ≤ 65536; omega), (by show 1 ≤ 65536; omega), of_decide_eq_true rfl, of_decide_eq_true rfl, (by show (-9223372036854775808 : Int) ≤ 5; omega), (by show (5 : Int) ≤ 9223372036854775807; omega), size1 (of_decide_eq_true rfl), size1 (of_decide_eq_true rfl)⟩
theorem e5_first (w : World) : PsOk (((((w.alloc (.cells #[.string ⟨#[120]⟩] 9)).alloc (.cells #[.int .i64 0, .string ⟨#[97]⟩, .string ⟨#[]⟩, .int .i64 0, .slice (some ⟨w.heap.size, 0, none⟩) 1 1, .slice none 0 0] 48)).alloc (.cells #[.string ⟨#[121]⟩] 9)).alloc (.cells #[.string ⟨#[122]⟩] 9)).alloc (.cells #[.int .i64 0, .string ⟨#[97]⟩, .string ⟨#[]⟩, .int .i64 5, .slice (some ⟨w.heap.size + 1 + 1, 0, none⟩) 1 1, .slice (some ⟨w.heap.size + 1 + 1 + 1, 0, none⟩) 1 1] 48)) (some ⟨w.heap.size + 1, 0, none⟩) 1 [(⟨e5L, some ⟨w.heap.size, 0, none⟩, 1, 1, none, 0, 0⟩ : PrC)] ∧ PsAt (((((w.alloc (.cells #[.string ⟨#[120]⟩] 9)).alloc (.cells #[.int .i64 0, .string ⟨#[97]⟩, .string ⟨#[]⟩, .int .i64 0, .slice (some ⟨w.heap.size, 0, none⟩) 1 1, .slice none 0 0] 48)).alloc (.cells #[.string ⟨#[121]⟩] 9)).alloc (.cells #[.string ⟨#[122]⟩] 9)).alloc (.cells #[.int .i64 0, .string ⟨#[97]⟩, .string ⟨#[]⟩, .int .i64 5, .slice (some ⟨w.heap.size + 1 + 1, 0, none⟩) 1 1, .slice (some ⟨w.heap.size + 1 + 1 + 1, 0, none⟩) 1 1] 48)) (.slice (some ⟨w.heap.size + 1, 0, none⟩) 1 1) [e5L] ∧ PsAt (((((w.alloc (.cells #[.string ⟨#[120]⟩] 9)).alloc (.cells #[.int .i64 0, .string ⟨#[97]⟩, .string ⟨#[]⟩, .int .i64 0, .slice (some ⟨w.heap.size, 0, none⟩) 1 1, .slice none 0 0] 48)).alloc (.cells #[.string ⟨#[121]⟩] 9)).alloc (.cells #[.string ⟨#[122]⟩] 9)).alloc (.cells #[.int .i64 0, .string ⟨#[97]⟩, .string ⟨#[]⟩, .int .i64 5, .slice (some ⟨w.heap.size + 1 + 1, 0, none⟩) 1 1, .slice (some ⟨w.heap.size + 1 + 1 + 1, 0, none⟩) 1 1] 48)) (.slice (some ⟨w.heap.size + 1 + 1 + 1 + 1, 0, none⟩) 1 1) [e5M] ∧ Later w (((((w.alloc (.cells #[.string ⟨#[120]⟩] 9)).alloc (.cells #[.int .i64 0, .string ⟨#[97]⟩, .string ⟨#[]⟩, .int .i64 0, .slice (some ⟨w.heap.size, 0, none⟩) 1 1, .slice none 0 0] 48)).alloc (.cells #[.string ⟨#[121]⟩] 9)).alloc (.cells #[.string ⟨#[122]⟩] 9)).alloc (.cells #[.int .i64 0, .string ⟨#[97]⟩, .string ⟨#[]⟩, .int .i64 5, .slice (some ⟨w.heap.size + 1 + 1, 0, none⟩) 1 1, .slice (some ⟨w.heap.size + 1 + 1 + 1, 0, none⟩) 1 1] 48)) := by
  have hX : Row (((((w.alloc (.cells #[.string ⟨#[120]⟩] 9)).alloc (.cells #[.int .i64 0, .string ⟨#[97]⟩, .string ⟨#[]⟩, .int .i64 0, .slice (some ⟨w.heap.size, 0, none⟩) 1 1, .slice none 0 0] 48)).alloc (.cells #[.string ⟨#[121]⟩] 9)).alloc (.cells #[.string ⟨#[122]⟩] 9)).alloc (.cells #[.int .i64 0, .string ⟨#[97]⟩, .string ⟨#[]⟩, .int .i64 5, .slice (some ⟨w.heap.size + 1 + 1, 0, none⟩) 1 1, .slice (some ⟨w.heap.size + 1 + 1 + 1, 0, none⟩) 1 1] 48)) (some ⟨w.heap.size, 0, none⟩) 1 [⟨#[120]⟩] := (Row.lit w [⟨#[120]⟩] 9).later ((((Later.refl _).alloc _).alloc _).alloc _ |>.alloc _)
  have hY : Row (((((w.alloc (.cells #[.string ⟨#[120]⟩] 9)).alloc (.cells #[.int .i64 0, .string ⟨#[97]⟩, .string ⟨#[]⟩, .int .i64 0, .slice (some ⟨w.heap.size, 0, none⟩) 1 1, .slice none 0 0] 48)).alloc (.cells #[.string ⟨#[121]⟩] 9)).alloc (.cells #[.string ⟨#[122]⟩] 9)).alloc (.cells #[.int .i64 0, .string ⟨#[97]⟩, .string ⟨#[]⟩, .int .i64 5, .slice (some ⟨w.heap.size + 1 + 1, 0, none⟩) 1 1, .slice (some ⟨w.heap.size + 1 + 1 + 1, 0, none⟩) 1 1] 48)) (some ⟨w.heap.size + 1 + 1, 0, none⟩) 1 [⟨#[121]⟩] := by
    have := Row.lit ((w.alloc (.cells #[.string ⟨#[120]⟩] 9)).alloc (.cells #[.int .i64 0, .string ⟨#[97]⟩, .string ⟨#[]⟩, .int .i64 0, .slice (some ⟨w.heap.size, 0, none⟩) 1 1, .slice none 0 0] 48)) [⟨#[121]⟩] 9
    rw [show ((w.alloc (.cells #[.string ⟨#[120]⟩] 9)).alloc (.cells #[.int .i64 0, .string ⟨#[97]⟩, .string ⟨#[]⟩, .int .i64 0, .slice (some ⟨w.heap.size, 0, none⟩) 1 1, .slice none 0 0] 48)).heap.size = w.heap.size + 1 + 1 from by simp] at this
    exact this.later (((Later.refl _).alloc _).alloc _)
  have hZ : Row (((((w.alloc (.cells #[.string ⟨#[120]⟩] 9)).alloc (.cells #[.int .i64 0, .string ⟨#[97]⟩, .string ⟨#[]⟩, .int .i64 0, .slice (some ⟨w.heap.size, 0, none⟩) 1 1, .slice none 0 0] 48)).alloc (.cells #[.string ⟨#[121]⟩] 9)).alloc (.cells #[.string ⟨#[122]⟩] 9)).alloc (.cells #[.int .i64 0, .string ⟨#[97]⟩, .string ⟨#[]⟩, .int .i64 5, .slice (some ⟨w.heap.size + 1 + 1, 0, none⟩) 1 1, .slice (some ⟨w.heap.size + 1 + 1 + 1, 0, none⟩) 1 1] 48)) (some ⟨w.heap.size + 1 + 1 + 1, 0, none⟩) 1 [⟨#[122]⟩] := by
    have := Row.lit (((w.alloc (.cells #[.string ⟨#[120]⟩] 9)).alloc (.cells #[.int .i64 0, .string ⟨#[97]⟩, .string ⟨#[]⟩, .int .i64 0, .slice (some ⟨w.heap.size, 0, none⟩) 1 1, .slice none 0 0] 48)).alloc (.cells #[.string ⟨#[121]⟩] 9)) [⟨#[122]⟩] 9
    rw [show (((w.alloc (.cells #[.string ⟨#[120]⟩] 9)).alloc (.cells #[.int .i64 0, .string ⟨#[97]⟩, .string ⟨#[]⟩, .int .i64 0, .slice (some ⟨w.heap.size, 0, none⟩) 1 1, .slice none 0 0] 48)).alloc (.cells #[.string ⟨#[121]⟩] 9)).heap.size = w.heap.size + 1 + 1 + 1 from by simp] at this
    exact this.later ((Later.refl _).alloc _)
  have rL : RowK 6 (((((w.alloc (.cells #[.string ⟨#[120]⟩] 9)).alloc (.cells #[.int .i64 0, .string ⟨#[97]⟩, .string ⟨#[]⟩, .int .i64 0, .slice (some ⟨w.heap.size, 0, none⟩) 1 1, .slice none 0 0] 48)).alloc (.cells #[.string ⟨#[121]⟩] 9)).alloc (.cells #[.string ⟨#[122]⟩] 9)).alloc (.cells #[.int .i64 0, .string ⟨#[97]⟩, .string ⟨#[]⟩, .int .i64 5, .slice (some ⟨w.heap.size + 1 + 1, 0, none⟩) 1 1, .slice (some ⟨w.heap.size + 1 + 1 + 1, 0, none⟩) 1 1] 48)) (some ⟨w.heap.size + 1, 0, none⟩) 1 ([(⟨e5L, some ⟨w.heap.size, 0, none⟩, 1, 1, none, 0, 0⟩ : PrC)].map prL) := by
    have := row_one (w.alloc (.cells #[.string ⟨#[120]⟩] 9)) (⟨e5L, some ⟨w.heap.size, 0, none⟩, 1, 1, none, 0, 0⟩ : PrC) 48
    rw [show (w.alloc (.cells #[.string ⟨#[120]⟩] 9)).heap.size = w.heap.size + 1 from by simp] at this
    exact this.later ((((Later.refl _).alloc _).alloc _).alloc _)
  have rM : RowK 6 (((((w.alloc (.cells #[.string ⟨#[120]⟩] 9)).alloc (.cells #[.int .i64 0, .string ⟨#[97]⟩, .string ⟨#[]⟩, .int .i64 0, .slice (some ⟨w.heap.size, 0, none⟩) 1 1, .slice none 0 0] 48)).alloc (.cells #[.string ⟨#[121]⟩] 9)).alloc (.cells #[.string ⟨#[122]⟩] 9)).alloc (.cells #[.int .i64 0, .string ⟨#[97]⟩, .string ⟨#[]⟩, .int .i64 5, .slice (some ⟨w.heap.size + 1 + 1, 0, none⟩) 1 1, .slice (some ⟨w.heap.size + 1 + 1 + 1, 0, none⟩) 1 1] 48)) (some ⟨w.heap.size + 1 + 1 + 1 + 1, 0, none⟩) 1 ([(⟨e5M, some ⟨w.heap.size + 1 + 1, 0, none⟩, 1, 1, some ⟨w.heap.size + 1 + 1 + 1, 0, none⟩, 1, 1⟩ : PrC)].map prL) := by
    have := row_one ((((w.alloc (.cells #[.string ⟨#[120]⟩] 9)).alloc (.cells #[.int .i64 0, .string ⟨#[97]⟩, .string ⟨#[]⟩, .int .i64 0, .slice (some ⟨w.heap.size, 0, none⟩) 1 1, .slice none 0 0] 48)).alloc (.cells #[.string ⟨#[121]⟩] 9)).alloc (.cells #[.string ⟨#[122]⟩] 9)) (⟨e5M, some ⟨w.heap.size + 1 + 1, 0, none⟩, 1, 1, some ⟨w.heap.size + 1 + 1 + 1, 0, none⟩, 1, 1⟩ : PrC) 48
    rw [show ((((w.alloc (.cells #[.string ⟨#[120]⟩] 9)).alloc (.cells #[.int .i64 0, .string ⟨#[97]⟩, .string ⟨#[]⟩, .int .i64 0, .slice (some ⟨w.heap.size, 0, none⟩) 1 1, .slice none 0 0] 48)).alloc (.cells #[.string ⟨#[121]⟩] 9)).alloc (.cells #[.string ⟨#[122]⟩] 9)).heap.size = w.heap.size + 1 + 1 + 1 + 1 from by simp] at this
    exact this
  have oL : PsOk (((((w.alloc (.cells #[.string ⟨#[120]⟩] 9)).alloc (.cells #[.int .i64 0, .string ⟨#[97]⟩, .string ⟨#[]⟩, .int .i64 0, .slice (some ⟨w.heap.size, 0, none⟩) 1 1, .slice none 0 0] 48)).alloc (.cells #[.string ⟨#[121]⟩] 9)).alloc (.cells #[.string ⟨#[122]⟩] 9)).alloc (.cells #[.int .i64 0, .string ⟨#[97]⟩, .string ⟨#[]⟩, .int .i64 5, .slice (some ⟨w.heap.size + 1 + 1, 0, none⟩) 1 1, .slice (some ⟨w.heap.size + 1 + 1 + 1, 0, none⟩) 1 1] 48)) (some ⟨w.heap.size + 1, 0, none⟩) 1 [(⟨e5L, some ⟨w.heap.size, 0, none⟩, 1, 1, none, 0, 0⟩ : PrC)] := ⟨rL, fun x hx => by simp at hx; subst hx; exact e5L_ok hX⟩
  have oM : PsOk (((((w.alloc (.cells #[.string ⟨#[120]⟩] 9)).alloc (.cells #[.int .i64 0, .string ⟨#[97]⟩, .string ⟨#[]⟩, .int .i64 0, .slice (some ⟨w.heap.size, 0, none⟩) 1 1, .slice none 0 0] 48)).alloc (.cells #[.string ⟨#[121]⟩] 9)).alloc (.cells #[.string ⟨#[122]⟩] 9)).alloc (.cells #[.int .i64 0, .string ⟨#[97]⟩, .string ⟨#[]⟩, .int .i64 5, .slice (some ⟨w.heap.size + 1 + 1, 0, none⟩) 1 1, .slice (some ⟨w.heap.size + 1 + 1 + 1, 0, none⟩) 1 1] 48)) (some ⟨w.heap.size + 1 + 1 + 1 + 1, 0, none⟩) 1 [(⟨e5M, some ⟨w.heap.size + 1 + 1, 0, none⟩, 1, 1, some ⟨w.heap.size + 1 + 1 + 1, 0, none⟩, 1, 1⟩ : PrC)] := ⟨rM, fun x hx => by simp at hx; subst hx; exact e5M_ok hY hZ⟩
  exact ⟨oL, ⟨_, _, _, _, rfl, Nat.le_refl _, oL, rfl⟩, ⟨_, _, _, _, rfl, Nat.le_refl _, oM, rfl⟩, ((((((Later.refl w).alloc _).alloc _).alloc _).alloc _).alloc _)⟩
theorem e5_two (w : World) : PsAt (w.alloc (.cells #[.int .i64 1, .string ⟨#[97]⟩, .string ⟨#[]⟩, .int .i64 0, .slice none 0 0, .slice none 0 0, .int .i64 2, .string ⟨#[98]⟩, .string ⟨#[]⟩, .int .i64 0, .slice none 0 0, .slice none 0 0] 48)) (.slice (some ⟨w.heap.size, 0, none⟩) 2 2) [e5A, e5B] := by
  refine ⟨_, _, _, [⟨e5A, none, 0, 0, none, 0, 0⟩, ⟨e5B, none, 0, 0, none, 0, 0⟩], rfl, Nat.le_refl _, ⟨⟨rfl, fun cs hcs => ?_, fun _ => ⟨_, _, rfl, fun j i cs v hj hi => ?_⟩⟩, fun z hz => ?_⟩, rfl⟩
  · simp at hcs
    rcases hcs with rfl | rfl <;> rfl
  · have hb : (w.alloc (.cells #[.int .i64 1, .string ⟨#[97]⟩, .string ⟨#[]⟩, .int .i64 0, .slice none 0 0, .slice none 0 0, .int .i64 2, .string ⟨#[98]⟩, .string ⟨#[]⟩, .int .i64 0, .slice none 0 0, .slice none 0 0] 48)).heap[w.heap.size]? = some (.cells #[.int .i64 1, .string ⟨#[97]⟩, .string ⟨#[]⟩, .int .i64 0, .slice none 0 0, .slice none 0 0, .int .i64 2, .string ⟨#[98]⟩, .string ⟨#[]⟩, .int .i64 0, .slice none 0 0, .slice none 0 0] 48 (0, 0)) := heap_alloc_new w _
    have key : ∀ (k : Nat) v, (prL ⟨e5A, none, 0, 0, none, 0, 0⟩ ++ prL ⟨e5B, none, 0, 0, none, 0, 0⟩)[k]? = some v → (w.alloc (.cells #[.int .i64 1, .string ⟨#[97]⟩, .string ⟨#[]⟩, .int .i64 0, .slice none 0 0, .slice none 0 0, .int .i64 2, .string ⟨#[98]⟩, .string ⟨#[]⟩, .int .i64 0, .slice none 0 0, .slice none 0 0] 48)).cell? ⟨w.heap.size, k, none⟩ = some v := fun k v hk => by
      simp only [World.cell?, hb]
      show (prL ⟨e5A, none, 0, 0, none, 0, 0⟩ ++ prL ⟨e5B, none, 0, 0, none, 0, 0⟩).toArray[k]? = some v
      rw [List.getElem?_toArray]
      exact hk
    match j, hj with
    | 0, hj =>
      simp at hj; subst hj
      have hil : i < (prL ⟨e5A, none, 0, 0, none, 0, 0⟩).length := (List.getElem?_eq_some_iff.1 hi).1
      rw [Nat.zero_mul, Nat.zero_add]
      exact key i v (by rw [List.getElem?_append_left hil]; exact hi)
    | 1, hj =>
      simp at hj; subst hj
      rw [Nat.one_mul, Nat.zero_add]
      exact key (6 + i) v (by rw [List.getElem?_append_right (by show 6 ≤ 6 + i; omega), show 6 + i - (prL ⟨e5A, none, 0, 0, none, 0, 0⟩).length = i from by show 6 + i - 6 = i; omega]; exact hi)
  · simp at hz
    rcases hz with rfl | rfl
    · exact bare5 _ 1 (of_decide_eq_true rfl) (of_decide_eq_true rfl)
    · exact bare5 _ 2 (of_decide_eq_true rfl) (of_decide_eq_true rfl)
theorem own_empty (w : World) (t : TypeId) : OwnPs t w (w.alloc (.cells #[] t)) (.slice (some ⟨w.heap.size, 0, none⟩) 0 0) [] :=
  ⟨⟨⟨rfl, .inr ⟨_, 0, #[], rfl, Nat.le_refl _, heap_alloc_new w _, Nat.le_refl _, Nat.zero_le _, rfl, rfl⟩⟩, (fun _ h => by cases h), (Later.refl w).alloc _⟩, (fun x hx => by cases hx), fun x hx => by cases hx⟩

set_option maxRecDepth 100000 in
set_option maxHeartbeats 400000 in
theorem aliveFn_any (k : Nat) (y : PrC) (w : World) : Calls Tryz.prog 33 #[.int .i64 (k : Nat), prV y] w (Says (k == 1) w) := by
  unfold prV
  have hl : Later w (w.alloc (.cells #[.int .i64 y.v.kind, .string y.v.name, .string y.v.to, .int .i64 y.v.place, .slice y.A y.n y.c, .slice y.B y.m y.d] 48)) := (Later.refl w).alloc _
  have HL := Lib.hid hl; clear hl
  have HB : Hid (decide ((k : Int) = 1) = (k == 1)) := Lib.hid (by rw [Bool.eq_iff_iff]; simp; omega)
  go_enter Tryz.func33, Tryz.ntmps33
  go_wp2
  go_ret
  exact ⟨by rw [← HB.out]; rfl, HL.out⟩

end Go.Proofs.YtomboeiaajggoaaGreatDoor

/-
  The statements' own example of layer 5, as a call.
-/
namespace Go.Proofs.YtomboeiaajggoaaGreatDoor
open Go.RowKit Go.Maps

set_option maxRecDepth 100000 in
set_option maxHeartbeats 3200000 in
theorem alive5_any (w : World) (htab : Tab w) : Calls Tryz.prog 7 #[] w (Says true w) := by
  obtain ⟨oL, aL, aM, hl0⟩ := e5_first w
  obtain ⟨i0, hi, hz0, hz1, hz2⟩ := info_parts Tryz.primInfo
  have HTB := Lib.hid htab; clear htab
  go_enter Tryz.func7, Tryz.ntmps7
  go_upto_region 3 with fail
  generalize ((((w.alloc (.cells #[.string ⟨#[120]⟩] 9)).alloc (.cells #[.int .i64 0, .string ⟨#[97]⟩, .string ⟨#[]⟩, .int .i64 0, .slice (some ⟨w.heap.size, 0, none⟩) 1 1, .slice none 0 0] 48)).alloc (.cells #[.string ⟨#[121]⟩] 9)).alloc (.cells #[.string ⟨#[122]⟩] 9)).alloc (.cells #[.int .i64 0, .string ⟨#[97]⟩, .string ⟨#[]⟩, .int .i64 5, .slice (some ⟨w.heap.size + 1 + 1, 0, none⟩) 1 1, .slice (some ⟨w.heap.size + 1 + 1 + 1, 0, none⟩) 1 1] 48) = w1 at oL aL aM hl0 ⊢
  obtain ⟨cl, hcl⟩ : ∃ c : PrC, c = (⟨e5L, some ⟨w.heap.size, 0, none⟩, 1, 1, none, 0, 0⟩ : PrC) := ⟨_, rfl⟩
  have hcv : cl.v = e5L := by rw [hcl]
  rw [← hcl] at oL
  clear hcl
  generalize w.heap.size + 1 + 1 + 1 + 1 = gm at aM ⊢
  generalize w.heap.size + 1 = gl at aL oL ⊢
  have HRB : Hid (Calls Tryz.prog 31 #[.slice (some ⟨gm, 0, none⟩) 1 1, .slice (some ⟨gl, 0, none⟩) 1 1] w1 (Gives1 (some [e5R]) w1)) := by
    have := rebase_s aM aL (of_decide_eq_true rfl) (of_decide_eq_true rfl)
    rw [e5_rebase] at this
    exact this
  have HAL := Lib.hid aL; have HAM := Lib.hid aM; have HOL := Lib.hid oL; have HL := Lib.hid hl0; have HCV := Lib.hid hcv
  clear aL aM oL hl0 hcv
  go_wp2_with fail
  refine HRB.out.mono ?_
  clear HRB
  rintro e w2 ⟨v3, rfl, hr, hl⟩
  dsimp only [Option.isSome, oneS] at hr ⊢
  obtain ⟨A3, c3, xs3, rfl, hc3, hp3, hv3⟩ := hr.open
  replace HAL := Lib.hid (HAL.out.later hl); replace HAM := Lib.hid (HAM.out.later hl); replace HOL := Lib.hid (HOL.out.later hl); replace HL := Lib.hid (HL.out.trans hl)
  have HAR := Lib.hid hr; have HOR := Lib.hid hp3; have HV3 := Lib.hid hv3
  clear hl hr hp3 hv3
  have HO0 := Lib.hid (own_empty w2 48)
  have HLB : Hid (Later w2 (w2.alloc (.cells #[] 48))) := (Later.refl w2).alloc _
  go_wp2_with (at_builtin; first
    | (refine wpList_append_ps5 rfl _ _ 25 rfl i0 _ 96 Tryz.underlying25 hi hz0 hz1 hz2 rfl HO0.out rfl _ _ _ [cl] rfl (HOL.out.later HLB.out).row (HOL.out.later HLB.out).each (fun z hz g hgb => (HOL.out.each z hz).away (HO0.out.block g hgb)) (by simp) (by omega) ?_; intro v4 w4 hown4 hg4 hb4; have HO4 := Lib.hid hown4; clear hown4 hg4 hb4)
    | (refine wpList_append_ps5 rfl _ _ 25 rfl i0 _ 96 Tryz.underlying25 hi hz0 hz1 hz2 rfl HO4.out rfl _ _ _ xs3 rfl (HOR.out.later HO4.out.later).row (HOR.out.later HO4.out.later).each (fun z hz g hgb => (HOR.out.each z hz).away (HO4.out.block g hgb)) (by simp) (by omega) ?_; intro v5 w5 hown5 hg5 hb5; have HO5 := Lib.hid hown5; clear hown5 hg5 hb5))
  have hv5 : PsAt w5 v5 [e5L, e5R] := HO5.out.val (by
    show valsP (([] ++ [cl]) ++ xs3) = [e5L, e5R]
    unfold valsP
    rw [List.map_append]
    show cl.v :: xs3.map (·.v) = _
    rw [HCV.out]
    exact congrArg (e5L :: ·) HV3.out)
  have HSP : Hid (Calls Tryz.prog 32 #[v5, .func (.func 33) #[] #[]] w5 (GivesR2 ([e5M], [e5L]) w5)) := by
    have := split_s hv5 (of_decide_eq_true rfl) 33 #[] (fun _ _ => rfl) (fun k => k == 1) (fun k y W _ _ _ => aliveFn_any k y W)
    rw [e5_split] at this
    exact this
  have hl := HO5.out.later
  replace HAL := Lib.hid (HAL.out.later hl)
  replace HAM := Lib.hid (HAM.out.later hl)
  replace HL := Lib.hid (HL.out.trans hl)
  replace HAR := Lib.hid (HAR.out.later hl)
  replace HOR := Lib.hid (HOR.out.later hl)
  clear hl hv5 HO0 HLB HO4 HO5 HOL HCV hi hz0 hz1 hz2 i0
  refine HSP.out.mono ?_
  clear HSP
  rintro e w6 ⟨v6, u6, rfl, h1, h2, hl⟩
  have HF := Lib.hid h1; have HR := Lib.hid h2
  replace HAL := Lib.hid (HAL.out.later hl)
  replace HAM := Lib.hid (HAM.out.later hl)
  replace HL := Lib.hid (HL.out.trans hl)
  replace HAR := Lib.hid (HAR.out.later hl)
  replace HOR := Lib.hid (HOR.out.later hl)
  clear h1 h2 hl
  dsimp only at HF HR
  have HSW : Hid (Calls Tryz.prog 21 #[.slice (some ⟨gl, 0, none⟩) 1 1, .slice A3 1 c3] w6 (Gives3 (some ([e5M], [e5L])) w6)) := by
    have := swap_s HAL.out HAR.out (of_decide_eq_true rfl) (of_decide_eq_true rfl)
    rw [e5_swap] at this
    exact this
  go_wp2_with fail
  refine HSW.out.mono ?_
  clear HSW
  rintro e w7 ⟨v7, u7, rfl, h1, h2, hl⟩
  dsimp only [Option.isSome, fstS, sndS] at h1 h2 ⊢
  have HA := Lib.hid h1; have HB := Lib.hid h2
  replace HAL := Lib.hid (HAL.out.later hl)
  replace HAM := Lib.hid (HAM.out.later hl)
  replace HL := Lib.hid (HL.out.trans hl)
  replace HAR := Lib.hid (HAR.out.later hl)
  replace HOR := Lib.hid (HOR.out.later hl)
  replace HF := Lib.hid (HF.out.later hl)
  replace HR := Lib.hid (HR.out.later hl)
  clear h1 h2 hl
  have HNW := Lib.hid (new_any w7)
  go_wp2_with fail
  refine HNW.out.mono ?_
  clear HNW
  rintro e w8 ⟨p, B, rfl, ht, hp, hB, hl⟩
  have hl8 : Later w8 (w8.alloc (.cells #[.int .i64 1, .string ⟨#[97]⟩, .string ⟨#[]⟩, .int .i64 0, .slice none 0 0, .slice none 0 0, .int .i64 2, .string ⟨#[98]⟩, .string ⟨#[]⟩, .int .i64 0, .slice none 0 0, .slice none 0 0] 48)) := (Later.refl w8).alloc _
  have HAP : Hid (Calls Tryz.prog 28 #[.pointer (some ⟨p, 0, none⟩), .slice (some ⟨w8.heap.size, 0, none⟩) 2 2] (w8.alloc (.cells #[.int .i64 1, .string ⟨#[97]⟩, .string ⟨#[]⟩, .int .i64 0, .slice none 0 0, .slice none 0 0, .int .i64 2, .string ⟨#[98]⟩, .string ⟨#[]⟩, .int .i64 0, .slice none 0 0, .slice none 0 0] 48)) (Does ([], 31) p B (w8.alloc (.cells #[.int .i64 1, .string ⟨#[97]⟩, .string ⟨#[]⟩, .int .i64 0, .slice none 0 0, .slice none 0 0, .int .i64 2, .string ⟨#[98]⟩, .string ⟨#[]⟩, .int .i64 0, .slice none 0 0, .slice none 0 0] 48)))) := by
    have := apply_s (ht.later hl8) (e5_two w8) Sized.nil (of_decide_eq_true rfl) (of_decide_eq_true rfl)
    rw [e5_apply] at this
    exact this
  have HLA := Lib.hid (hl.trans hl8)
  clear hl hl8 ht
  go_wp2_with fail
  refine HAP.out.mono ?_
  clear HAP
  rintro e w9 ⟨rfl, ht, htu⟩
  have hl := HLA.out.turn htu hB
  dsimp only at ht ⊢
  have HT := Lib.hid ht
  replace HAL := Lib.hid (HAL.out.later hl)
  replace HAM := Lib.hid (HAM.out.later hl)
  replace HL := Lib.hid (HL.out.trans hl)
  replace HAR := Lib.hid (HAR.out.later hl)
  replace HOR := Lib.hid (HOR.out.later hl)
  replace HF := Lib.hid (HF.out.later hl)
  replace HR := Lib.hid (HR.out.later hl)
  replace HA := Lib.hid (HA.out.later hl)
  replace HB := Lib.hid (HB.out.later hl)
  clear hl ht htu HLA
  obtain ⟨b, o, x, rfl, hz, hok, g0, g1, g2, g3, g4, g5⟩ := HOR.out.get (j := 0) (of_decide_eq_true rfl)
  have hxv : x.v = e5R := by
    have := valsP_at hz
    rw [HV3.out] at this
    exact (Option.some.inj this).symm
  rw [hxv] at g3
  rw [Nat.zero_mul, Nat.add_zero] at g3
  have g3' : w9.cell? ⟨b, o + 3, none⟩ = some (.int .i64 4) := g3
  clear g0 g1 g2 g3 g4 g5 hz hok hxv
  have HS1 : Hid (Calls Tryz.prog 11 #[v6, .slice (some ⟨gm, 0, none⟩) 1 1] w9 (Says true w9)) := by
    have := same_s HF.out HAM.out (of_decide_eq_true rfl) (of_decide_eq_true rfl)
    rw [e5_sameM] at this
    exact this
  go_wp2_with fail
  refine HS1.out.mono ?_
  clear HS1
  rintro e w10 ⟨rfl, hl⟩
  replace HAL := Lib.hid (HAL.out.later hl)
  replace HAM := Lib.hid (HAM.out.later hl)
  replace HL := Lib.hid (HL.out.trans hl)
  replace HR := Lib.hid (HR.out.later hl)
  replace HA := Lib.hid (HA.out.later hl)
  replace HB := Lib.hid (HB.out.later hl)
  replace HT := Lib.hid (HT.out.later hl)
  clear hl g3'
  have HS : Hid (Calls Tryz.prog 11 #[u6, .slice (some ⟨gl, 0, none⟩) 1 1] w10 (Says true w10)) := by
    have := same_s HR.out HAL.out (of_decide_eq_true rfl) (of_decide_eq_true rfl)
    rw [e5_sameL] at this
    exact this
  go_wp2_with fail
  refine HS.out.mono ?_
  clear HS
  rintro e w11 ⟨rfl, hl⟩
  replace HAL := Lib.hid (HAL.out.later hl)
  replace HAM := Lib.hid (HAM.out.later hl)
  replace HL := Lib.hid (HL.out.trans hl)
  replace HA := Lib.hid (HA.out.later hl)
  replace HB := Lib.hid (HB.out.later hl)
  replace HT := Lib.hid (HT.out.later hl)
  clear hl
  have HS : Hid (Calls Tryz.prog 11 #[v7, .slice (some ⟨gm, 0, none⟩) 1 1] w11 (Says true w11)) := by
    have := same_s HA.out HAM.out (of_decide_eq_true rfl) (of_decide_eq_true rfl)
    rw [e5_sameM] at this
    exact this
  go_wp2_with fail
  refine HS.out.mono ?_
  clear HS
  rintro e w12 ⟨rfl, hl⟩
  replace HAL := Lib.hid (HAL.out.later hl)
  replace HAM := Lib.hid (HAM.out.later hl)
  replace HL := Lib.hid (HL.out.trans hl)
  replace HB := Lib.hid (HB.out.later hl)
  replace HT := Lib.hid (HT.out.later hl)
  clear hl
  have HS : Hid (Calls Tryz.prog 11 #[u7, .slice (some ⟨gl, 0, none⟩) 1 1] w12 (Says true w12)) := by
    have := same_s HB.out HAL.out (of_decide_eq_true rfl) (of_decide_eq_true rfl)
    rw [e5_sameL] at this
    exact this
  go_wp2_with fail
  refine HS.out.mono ?_
  clear HS
  rintro e w13 ⟨rfl, hl⟩
  replace HAL := Lib.hid (HAL.out.later hl)
  replace HL := Lib.hid (HL.out.trans hl)
  replace HT := Lib.hid (HT.out.later hl)
  clear hl
  have HS := Lib.hid (invert_s HAL.out (of_decide_eq_true rfl))
  go_wp2_with fail
  refine HS.out.mono ?_
  clear HS
  rintro e w14 ⟨vi, rfl, hi, hl⟩
  replace HAL := Lib.hid (HAL.out.later hl)
  replace HL := Lib.hid (HL.out.trans hl)
  replace HT := Lib.hid (HT.out.later hl)
  clear hl
  obtain ⟨Ai, ci, xi, rfl, -, -, -⟩ := hi.open
  clear hi
  have HS : Hid (Calls Tryz.prog 35 #[.pointer (some ⟨p, 0, none⟩)] w14 fun e w' => e = .returned (.string ⟨#[]⟩) ∧ Later w14 w') := by
    have := treeText_any p B [] w14 HT.out (HTB.out.later HL.out) (of_decide_eq_true rfl) (of_decide_eq_true rfl) (fun f hf => by cases hf)
    rw [e5_text] at this
    exact this
  go_wp2_with fail
  refine HS.out.mono ?_
  clear HS
  rintro e w15 ⟨rfl, hl⟩
  replace HAL := Lib.hid (HAL.out.later hl)
  replace HL := Lib.hid (HL.out.trans hl)
  clear hl
  have HS : Hid (Calls Tryz.prog 9 #[.slice (some ⟨gl, 0, none⟩) 1 1] w15 (Says true w15)) := by
    have := right_s HAL.out (of_decide_eq_true rfl)
    rw [e5_right] at this
    exact this
  go_wp2_with fail
  refine HS.out.mono ?_
  clear HS
  rintro e w16 ⟨rfl, hl⟩
  replace HAL := Lib.hid (HAL.out.later hl)
  replace HL := Lib.hid (HL.out.trans hl)
  clear hl
  have HS : Hid (Calls Tryz.prog 14 #[.slice (some ⟨gl, 0, none⟩) 1 1] w16 (GivesL [⟨#[97]⟩] w16)) := by
    have := names_s HAL.out (of_decide_eq_true rfl)
    rw [e5_names] at this
    exact this
  go_wp2_with fail
  refine HS.out.mono ?_
  clear HS
  rintro e w17 ⟨vn, rfl, hn, hl⟩
  replace HAL := Lib.hid (HAL.out.later hl)
  replace HL := Lib.hid (HL.out.trans hl)
  clear hl
  have hlb : Later w17 (w17.alloc (.cells #[.string ⟨#[97]⟩] 9)) := (Later.refl _).alloc _
  have HS : Hid (Calls Tryz.prog 13 #[vn, .slice (some ⟨w17.heap.size, 0, none⟩) 1 1] (w17.alloc (.cells #[.string ⟨#[97]⟩] 9)) (Says true (w17.alloc (.cells #[.string ⟨#[97]⟩] 9)))) := by
    have := lineSame_v (hn.later hlb) (⟨_, _, _, rfl, Nat.le_refl _, Row.lit w17 [⟨#[97]⟩] 9⟩ : Reads _ (.slice (some ⟨w17.heap.size, 0, none⟩) 1 1) [⟨#[97]⟩]) (of_decide_eq_true rfl) (of_decide_eq_true rfl)
    rw [sameB_yes rfl] at this
    exact this
  have HAL0 := HAL; have HL0 := HL
  go_wp2_with fail
  refine HS.out.mono ?_
  clear HS
  rintro e w18 ⟨rfl, hl⟩
  replace HAL := Lib.hid (HAL.out.later (hlb.trans hl)); replace HL := Lib.hid (HL.out.trans (hlb.trans hl))
  clear hl hlb hn HAL0 HL0
  have HS : Hid (Calls Tryz.prog 16 #[.slice (some ⟨gl, 0, none⟩) 1 1, .string ⟨#[97]⟩] w18 (Says true w18)) := by
    have := touches_s HAL.out (of_decide_eq_true rfl) ⟨#[97]⟩
    rw [e5_touchA] at this
    exact this
  go_wp2_with fail
  refine HS.out.mono ?_
  clear HS
  rintro e w19 ⟨rfl, hl⟩
  replace HAL := Lib.hid (HAL.out.later hl)
  replace HL := Lib.hid (HL.out.trans hl)
  clear hl
  have HS : Hid (Calls Tryz.prog 16 #[.slice (some ⟨gl, 0, none⟩) 1 1, .string ⟨#[98]⟩] w19 (Says false w19)) := by
    have := touches_s HAL.out (of_decide_eq_true rfl) ⟨#[98]⟩
    rw [e5_touchB] at this
    exact this
  go_wp2_with fail
  refine HS.out.mono ?_
  clear HS
  rintro e w20 ⟨rfl, hl⟩
  replace HAL := Lib.hid (HAL.out.later hl)
  replace HL := Lib.hid (HL.out.trans hl)
  clear hl
  go_wp2
  go_ret
  exact ⟨rfl, HL.out⟩

end Go.Proofs.YtomboeiaajggoaaGreatDoor
