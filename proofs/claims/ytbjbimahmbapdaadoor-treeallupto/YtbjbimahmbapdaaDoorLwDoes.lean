/-
  What the statements' own 'does' comes to, as a call.
-/
import Derived.Test.YtbjbimahmbapdaaDoorLwMem
import Derived.Test.YtbjbimahmbapdaaDoorTrPut
import Derived.Test.YtbjbimahmbapdaaDoorTrCopy
import Derived.Test.YtbjbimahmbapdaaDoorTrNames
namespace Go.Proofs.YtbjbimahmbapdaaDoor
open Go.RowKit Go.Maps

/-- A tree, this one or a new one, and an error's number; nothing has turned but the tree. -/
def DoesOp (r : Tr × Int) (p B : Nat) (w : World) (e : Ending) (w' : World) : Prop :=
  ∃ p' B', e = .returned (.tuple #[.pointer (some ⟨p', 0, none⟩), .int .i64 r.2]) ∧ TreeAt w' p' B' r.1 ∧ Turned B w w' ∧ ((p' = p ∧ B' = B) ∨ (w.heap.size ≤ p' ∧ w.heap.size ≤ B'))

theorem does_of {r : Tr × Int} {p B : Nat} {w w1 w' : World} (hl : Later w w1) (h : TreeAt w' p B r.1) (ht : Turned B w1 w') : DoesOp r p B w (.returned (.tuple #[.pointer (some ⟨p, 0, none⟩), .int .i64 r.2])) w' :=
  ⟨p, B, rfl, h, (hl.turned B).trans ht, .inl ⟨rfl, rfl⟩⟩

section
variable (p B : Nat) (t : Tr) (nm to : ByteArray) (Al : Option Addr) (nl cl : Nat) (l : List ByteArray) (w : World)

set_option maxRecDepth 100000 in
set_option maxHeartbeats 400000 in
theorem does0 (ht : TreeAt w p B t) (hs : nm.size ≤ maxLen) (hl : t.length ≤ 65536) :
    Calls Tryd.prog 13 #[.pointer (some ⟨p, 0, none⟩), .agg #[.int .i64 0, .string nm, .string to, .slice Al nl cl]] w (DoesOp (addT t nm) p B w) := by
  have hlb : Later w (w.alloc (.cells #[.int .i64 0, .string nm, .string to, .slice Al nl cl] 31)) := (Later.refl w).alloc _
  have HC := Lib.hid (add_any p B nm t _ (ht.later hlb) hs hl)
  have HLB := Lib.hid hlb
  clear hlb ht hs
  go_enter Tryd.func13, Tryd.ntmps13
  go_wp2_with fail
  refine HC.out.mono ?_
  rintro e w1 ⟨rfl, h1, h2⟩
  have H1 := Lib.hid h1; have H2 := Lib.hid h2; clear h1 h2
  go_wp2
  go_ret2
  exact does_of HLB.out H1.out H2.out

set_option maxRecDepth 100000 in
set_option maxHeartbeats 400000 in
theorem does1 (ht : TreeAt w p B t) (hs : nm.size ≤ maxLen) (hb : ∀ f ∈ t, f.2.length ≤ 65536) :
    Calls Tryd.prog 13 #[.pointer (some ⟨p, 0, none⟩), .agg #[.int .i64 1, .string nm, .string to, .slice Al nl cl]] w (DoesOp (removeT t nm) p B w) := by
  have hlb : Later w (w.alloc (.cells #[.int .i64 1, .string nm, .string to, .slice Al nl cl] 31)) := (Later.refl w).alloc _
  have HC := Lib.hid (remove_any p B nm t _ (ht.later hlb) hs hb)
  have HLB := Lib.hid hlb
  clear hlb ht hs hb
  go_enter Tryd.func13, Tryd.ntmps13
  go_wp2_with fail
  refine HC.out.mono ?_
  rintro e w1 ⟨rfl, h1, h2⟩
  have H1 := Lib.hid h1; have H2 := Lib.hid h2; clear h1 h2
  go_wp2
  go_ret2
  exact does_of HLB.out H1.out H2.out

set_option maxRecDepth 100000 in
set_option maxHeartbeats 400000 in
theorem does2 (ht : TreeAt w p B t) (hs : nm.size ≤ maxLen) (hs2 : to.size ≤ maxLen) (hl : t.length ≤ 65536) :
    Calls Tryd.prog 13 #[.pointer (some ⟨p, 0, none⟩), .agg #[.int .i64 2, .string nm, .string to, .slice Al nl cl]] w (DoesOp (moveT t nm to) p B w) := by
  have hlb : Later w (w.alloc (.cells #[.int .i64 2, .string nm, .string to, .slice Al nl cl] 31)) := (Later.refl w).alloc _
  have HC := Lib.hid (move_any p B nm to t _ (ht.later hlb) hs hs2 hl)
  have HLB := Lib.hid hlb
  clear hlb ht hs hs2
  go_enter Tryd.func13, Tryd.ntmps13
  go_wp2_with fail
  refine HC.out.mono ?_
  rintro e w1 ⟨rfl, h1, h2⟩
  have H1 := Lib.hid h1; have H2 := Lib.hid h2; clear h1 h2
  go_wp2
  go_ret2
  exact does_of HLB.out H1.out H2.out

set_option maxRecDepth 100000 in
set_option maxHeartbeats 400000 in
theorem does3 (ht : TreeAt w p B t) (hs : nm.size ≤ maxLen) (hl : t.length ≤ 65536) (hr : Row w Al nl l) (hn : nl ≤ 65536) (hb : ∀ s ∈ l, s.size ≤ maxLen) :
    Calls Tryd.prog 13 #[.pointer (some ⟨p, 0, none⟩), .agg #[.int .i64 3, .string nm, .string to, .slice Al nl cl]] w (DoesOp (putT t nm l) p B w) := by
  have hlb : Later w (w.alloc (.cells #[.int .i64 3, .string nm, .string to, .slice Al nl cl] 31)) := (Later.refl w).alloc _
  have HC := Lib.hid (put_any p B nm Al nl cl l t _ (ht.later hlb) (hr.later hlb) hs hl hn hb)
  have HLB := Lib.hid hlb
  clear hlb ht hs hr hb
  go_enter Tryd.func13, Tryd.ntmps13
  go_wp2_with fail
  refine HC.out.mono ?_
  rintro e w1 ⟨rfl, h1, h2⟩
  have H1 := Lib.hid h1; have H2 := Lib.hid h2; clear h1 h2
  go_wp2
  go_ret2
  exact does_of HLB.out H1.out H2.out

set_option maxRecDepth 100000 in
set_option maxHeartbeats 400000 in
theorem doesElse (k : Int) (h0 : k ≠ 0) (h1 : k ≠ 1) (h2 : k ≠ 2) (h3 : k ≠ 3) (h4 : k ≠ 4) (ht : TreeAt w p B t) :
    Calls Tryd.prog 13 #[.pointer (some ⟨p, 0, none⟩), .agg #[.int .i64 k, .string nm, .string to, .slice Al nl cl]] w (DoesOp (t, 0) p B w) := by
  have hlb : Later w (w.alloc (.cells #[.int .i64 k, .string nm, .string to, .slice Al nl cl] 31)) := (Later.refl w).alloc _
  have HT := Lib.hid (ht.later hlb)
  have HLB := Lib.hid hlb
  have b0 : (k == 0) = false := by simpa using h0
  have b1 : (k == 1) = false := by simpa using h1
  have b2 : (k == 2) = false := by simpa using h2
  have b3 : (k == 3) = false := by simpa using h3
  have b4 : (k == 4) = false := by simpa using h4
  clear hlb ht h0 h1 h2 h3 h4
  go_enter Tryd.func13, Tryd.ntmps13
  go_wp2
  go_ret2
  exact does_of (r := (t, 0)) HLB.out HT.out (Turned.refl B _)

theorem add_length (t : Tr) (n : ByteArray) : (addT t n).1.length ≤ t.length + 1 := by
  unfold addT
  split
  · simp
  · split
    · simp
    · exact with_length n []
theorem put_length (t : Tr) (n : ByteArray) (l : List ByteArray) : (putT t n l).1.length ≤ t.length + 1 := by
  unfold putT
  split
  · simp
  · split
    · simp
    · exact with_length n l

/-- The text 'none'. -/
def noneText : ByteArray := ⟨#[110, 111, 110, 101]⟩
theorem noneText_size : noneText.size ≤ maxLen := by simp [noneText, maxLen, ByteArray.size]
theorem add_names {t : Tr} (h : ∀ f ∈ t, f.1.size ≤ maxLen) : ∀ s ∈ namesT (addT t noneText).1, s.size ≤ maxLen := by
  intro s hs
  obtain ⟨f, hf, rfl⟩ := List.mem_map.1 hs
  unfold addT at hf
  split at hf
  · exact h f hf
  · split at hf
    · exact h f hf
    · rcases mem_with.1 hf with rfl | hf
      · exact noneText_size
      · exact h f hf.1

set_option maxRecDepth 100000 in
set_option maxHeartbeats 800000 in
theorem does4 (ht : TreeAt w p B t) (hl : t.length ≤ 1000) (hb : ∀ f ∈ t, f.2.length ≤ 65536) (hns : ∀ f ∈ t, f.1.size ≤ maxLen) :
    Calls Tryd.prog 13 #[.pointer (some ⟨p, 0, none⟩), .agg #[.int .i64 4, .string nm, .string to, .slice Al nl cl]] w (DoesOp (t, 0) p B w) := by
  have hlb : Later w (w.alloc (.cells #[.int .i64 4, .string nm, .string to, .slice Al nl cl] 31)) := (Later.refl w).alloc _
  have HC := Lib.hid (copy_any p B t _ (ht.later hlb) (by omega) hb)
  have HT := Lib.hid (ht.later hlb)
  have hBw := ht.files.lt
  have HLB := Lib.hid hlb
  have hlb0 : w.heap.size ≤ (w.alloc (.cells #[.int .i64 4, .string nm, .string to, .slice Al nl cl] 31)).heap.size := hlb.le
  clear hlb ht hb
  go_enter Tryd.func13, Tryd.ntmps13
  go_wp2_with fail
  refine HC.out.mono ?_
  rintro e w1 ⟨p1, B1, rfl, ht1, hp1, hB1, hl1⟩
  have HT1 := Lib.hid ht1; have HL1 := Lib.hid hl1
  have hne : B1 ≠ B := by omega
  have hp1' : w.heap.size ≤ p1 := Nat.le_trans hlb0 hp1
  have hB1' : w.heap.size ≤ B1 := Nat.le_trans hlb0 hB1
  clear ht1 hl1 hp1 hB1
  go_wp2_with fail
  refine (add_any p B noneText t w1 (HT.out.later HL1.out) (by simp [noneText, maxLen, ByteArray.size]) (by omega)).mono ?_
  rintro e w2 ⟨rfl, ht2, hg2⟩
  have hal := add_length t noneText
  have HG2 : Hid (Turned B w w2) := ((HLB.out.trans HL1.out).turned B).trans hg2
  have HC2 : Hid (TreeAt w2 p1 B1 t) := by
    obtain ⟨es, c, hm⟩ := (HT.out.later HL1.out).files.map
    exact HT1.out.other hg2 hne hm
  have hns2 := add_names hns
  have HNS : Hid (∀ s ∈ namesT (addT t noneText).1, s.size ≤ maxLen) := hns2
  clear hns2 hns
  generalize (addT t noneText).1 = t2 at ht2 hal HNS
  generalize (addT t noneText).2 = e2
  have HT2 := Lib.hid ht2
  clear ht2 hg2
  go_wp2_with fail
  refine (names_any p B t2 w2 HT2.out (by omega)).mono ?_
  rintro e w3 ⟨v3, rfl, hown3⟩
  obtain ⟨A3, c3, rfl, hcc3, hr3⟩ := hown3.row
  have hnl : (namesT t2).length ≤ 1001 := by simp only [namesT, List.length_map]; omega
  generalize namesT t2 = ns at hown3 hcc3 hr3 hnl HNS ⊢
  have HR3 := Lib.hid hr3
  have HG3 : Hid (Turned B w w3) := HG2.out.trans (hown3.later.turned B)
  have HC3 := Lib.hid (HC2.out.later hown3.later)
  have HT3 := Lib.hid (HT2.out.later hown3.later)
  clear hown3 hr3
  go_wp2
  go_loopg [52] (ns.length + 1) (fun g s52 wr => ∃ (k : Nat) (tt : Tr), k ≤ ns.length ∧ ns.length - k ≤ g ∧ s52 = .int .i64 k ∧ tt.length ≤ t2.length + k ∧ Hid (TreeAt wr p B tt) ∧ Hid (TreeAt wr p1 B1 t) ∧ Hid (Turned B w wr) ∧ Hid (Row wr A3 ns.length ns))
  case atStart => exact ⟨0, t2, Nat.zero_le _, by omega, rfl, Nat.le_refl _, HT3.out, HC3.out, HG3.out, HR3.out⟩
  case round =>
    obtain ⟨k, tt, hk, hg, rfl, htl, hct, hcc, hgt, hrw⟩ := hrel
    by_cases hlt : k < ns.length
    · obtain ⟨b1, o1, rfl, g1⟩ := hrw.out.get hlt
      have hpl : ∀ s ∈ [noneText], s.size ≤ maxLen := fun s hs => by simp at hs; subst hs; simp [noneText, maxLen, ByteArray.size]
      have hrn : Row (wr.alloc (.cells #[.string noneText] 9)) (some ⟨wr.heap.size, 0, none⟩) 1 [noneText] := Row.one wr noneText 9
      have hcell := hct.out.cell
      have hnm : (ns.getD k ByteArray.empty).size ≤ maxLen := by
        simp only [List.getD, List.getElem?_eq_getElem hlt, Option.getD_some]
        exact HNS.out _ (List.getElem_mem hlt)
      have HP := Lib.hid (put_any p B (ns.getD k ByteArray.empty) (some ⟨wr.heap.size, 0, none⟩) 1 1 [noneText] tt _ (hct.out.later ((Later.refl wr).alloc _)) hrn hnm (by omega) (by omega) hpl)
      generalize ns.getD k ByteArray.empty = nx at g1 HP hnm
      have hpl2 := put_length tt nx [noneText]
      clear hpl hrn hnm
      go_wp2_with fail
      refine HP.out.mono ?_
      rintro e w5 ⟨rfl, ht5, hg5⟩
      generalize (putT tt nx [noneText]).1 = t5 at ht5 hpl2
      generalize (putT tt nx [noneText]).2 = e5
      have HT5 := Lib.hid ht5; have HG5 := Lib.hid hg5
      clear ht5 hg5
      go_wp2
      go_roundg (ns.length - (k + 1))
      case measure => omega
      case rel =>
        have hla : Later wr (wr.alloc (.cells #[.string noneText] 9)) := (Later.refl wr).alloc _
        obtain ⟨es, c, hm⟩ := (hct.out.later hla).files.map
        exact ⟨k + 1, t5, by omega, Nat.le_refl _, by go_num, by omega, HT5.out, (hcc.out.later hla).other HG5.out hne hm, (hgt.out.trans (hla.turned B)).trans HG5.out, (hrw.out.later hla).turned HG5.out hm⟩
    · clear hct
      go_wp2
      go_ret2
      exact ⟨p1, B1, rfl, hcc.out, hgt.out, .inr ⟨hp1', hB1'⟩⟩

end

/-- A tree of few, small files. -/
structure Small (t : Tr) : Prop where
  many : t.length ≤ 1000
  names : ∀ f ∈ t, f.1.size ≤ maxLen
  lines : ∀ f ∈ t, f.2.length ≤ 65536

theorem does_any (p B : Nat) (t : Tr) (o : OpV) (Al : Option Addr) (nl cl : Nat) (w : World) (ht : TreeAt w p B t) (ho : OpOk w o Al nl) (hs : Small t) :
    Calls Tryd.prog 13 #[.pointer (some ⟨p, 0, none⟩), opVal o Al nl cl] w (DoesOp (doT t o) p B w) := by
  have hl := hs.many
  obtain ⟨kind, nm, to, l⟩ := o
  by_cases h0 : kind = 0
  · subst h0
    exact does0 p B t nm to Al nl cl w ht ho.name (by omega)
  by_cases h1 : kind = 1
  · subst h1
    exact does1 p B t nm to Al nl cl w ht ho.name hs.lines
  by_cases h2 : kind = 2
  · subst h2
    exact does2 p B t nm to Al nl cl w ht ho.name ho.to (by omega)
  by_cases h3 : kind = 3
  · subst h3
    exact does3 p B t nm to Al nl cl l w ht ho.name (by omega) ho.row ho.most ho.lines
  have e : doT t ⟨kind, nm, to, l⟩ = (t, 0) := by simp [doT, h0, h1, h2, h3]
  rw [e]
  by_cases h4 : kind = 4
  · subst h4
    exact does4 p B t nm to Al nl cl w ht hl hs.lines hs.names
  exact doesElse p B t nm to Al nl cl w kind h0 h1 h2 h3 h4 ht

end Go.Proofs.YtbjbimahmbapdaaDoor
