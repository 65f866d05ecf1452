import Derived.Test.YtboffgmaohcpfaaGreatDoorPk7
import Derived.Test.YtboffgmaohcpfaaGreatDoorPk11
import Derived.Test.YtboffgmaohcpfaaGreatDoorPk3
import Derived.Test.YtboffgmaohcpfaaGreatDoorPk5
import Derived.Test.YtboffgmaohcpfaaGreatDoorPk10
import Derived.Deep.LoopGhost
import Derived.Deep.QuietTactic
import Derived.BigQuiet
import Derived.Test.YtboffgmaohcpfaaGreatDoorPk9

/-
  What the statements' own 'does' comes to, as a call.
-/
namespace Go.Proofs.YtboffgmaohcpfaaGreatDoor
open Go.RowKit Go.Maps

/-- A tree, this one or a new one, and an error's number; nothing has turned but the tree. -/
def DoesOp (r : Tr × Int) (p B : Nat) (w : World) (e : Ending) (w' : World) : Prop :=
  ∃ p' B', e = .returned (.tuple #[.pointer (some ⟨p', 0, none⟩), .int .i64 r.2]) ∧ TreeAt w' p' B' r.1 ∧ Turned B w w' ∧ ((p' = p ∧ B' = B) ∨ (w.heap.size ≤ p' ∧ w.heap.size ≤ B'))

theorem does_of {r : Tr × Int} {p B : Nat} {w w1 w' : World} (hl : Later w w1) (h : TreeAt w' p B r.1) (ht : Turned B w1 w') : DoesOp r p B w (.returned (.tuple #[.pointer (some ⟨p, 0, none⟩), .int .i64 r.2])) w' :=
  ⟨p, B, rfl, h, (hl.turned B).trans ht, .inl ⟨rfl, rfl⟩⟩

section
variable (p B : Nat) (t : Tr) (nm to : ByteArray) (Al : Option Addr) (nl cl : Nat) (l : List ByteArray) (w : World)

set_option maxRecDepth 100000 in
set_option maxHeartbeats 400000 in
theorem does0 (ht : TreeAt w p B t) (hs : nm.size ≤ maxLen) (hl : t.length ≤ 65536) :
    Calls Tryz.prog 22 #[.pointer (some ⟨p, 0, none⟩), .agg #[.int .i64 0, .string nm, .string to, .slice Al nl cl]] w (DoesOp (addT t nm) p B w) := by
  have hlb : Later w (w.alloc (.cells #[.int .i64 0, .string nm, .string to, .slice Al nl cl] 46)) := (Later.refl w).alloc _
  have HC := Lib.hid (add_any p B nm t _ (ht.later hlb) hs hl)
  have HLB := Lib.hid hlb
  clear hlb ht hs
  go_enter Tryz.func22, Tryz.ntmps22
  go_wp2_with fail
  refine HC.out.mono ?_
  rintro e w1 ⟨rfl, h1, h2⟩
  have H1 := Lib.hid h1; have H2 := Lib.hid h2; clear h1 h2
  go_wp2
  go_ret2
  exact does_of HLB.out H1.out H2.out

set_option maxRecDepth 100000 in
set_option maxHeartbeats 400000 in
theorem does1 (ht : TreeAt w p B t) (hs : nm.size ≤ maxLen) (hb : ∀ f ∈ t, f.2.length ≤ 65536) :
    Calls Tryz.prog 22 #[.pointer (some ⟨p, 0, none⟩), .agg #[.int .i64 1, .string nm, .string to, .slice Al nl cl]] w (DoesOp (removeT t nm) p B w) := by
  have hlb : Later w (w.alloc (.cells #[.int .i64 1, .string nm, .string to, .slice Al nl cl] 46)) := (Later.refl w).alloc _
  have HC := Lib.hid (remove_any p B nm t _ (ht.later hlb) hs hb)
  have HLB := Lib.hid hlb
  clear hlb ht hs hb
  go_enter Tryz.func22, Tryz.ntmps22
  go_wp2_with fail
  refine HC.out.mono ?_
  rintro e w1 ⟨rfl, h1, h2⟩
  have H1 := Lib.hid h1; have H2 := Lib.hid h2; clear h1 h2
  go_wp2
  go_ret2
  exact does_of HLB.out H1.out H2.out

set_option maxRecDepth 100000 in
set_option maxHeartbeats 400000 in
theorem does2 (ht : TreeAt w p B t) (hs : nm.size ≤ maxLen) (hs2 : to.size ≤ maxLen) (hl : t.length ≤ 65536) :
    Calls Tryz.prog 22 #[.pointer (some ⟨p, 0, none⟩), .agg #[.int .i64 2, .string nm, .string to, .slice Al nl cl]] w (DoesOp (moveT t nm to) p B w) := by
  have hlb : Later w (w.alloc (.cells #[.int .i64 2, .string nm, .string to, .slice Al nl cl] 46)) := (Later.refl w).alloc _
  have HC := Lib.hid (move_any p B nm to t _ (ht.later hlb) hs hs2 hl)
  have HLB := Lib.hid hlb
  clear hlb ht hs hs2
  go_enter Tryz.func22, Tryz.ntmps22
  go_wp2_with fail
  refine HC.out.mono ?_
  rintro e w1 ⟨rfl, h1, h2⟩
  have H1 := Lib.hid h1; have H2 := Lib.hid h2; clear h1 h2
  go_wp2
  go_ret2
  exact does_of HLB.out H1.out H2.out

set_option maxRecDepth 100000 in
set_option maxHeartbeats 400000 in
theorem does3 (ht : TreeAt w p B t) (hs : nm.size ≤ maxLen) (hl : t.length ≤ 65536) (hr : Row w Al nl l) (hn : nl ≤ 65536) (hb : ∀ s ∈ l, s.size ≤ maxLen) :
    Calls Tryz.prog 22 #[.pointer (some ⟨p, 0, none⟩), .agg #[.int .i64 3, .string nm, .string to, .slice Al nl cl]] w (DoesOp (putT t nm l) p B w) := by
  have hlb : Later w (w.alloc (.cells #[.int .i64 3, .string nm, .string to, .slice Al nl cl] 46)) := (Later.refl w).alloc _
  have HC := Lib.hid (put_any p B nm Al nl cl l t _ (ht.later hlb) (hr.later hlb) hs hl hn hb)
  have HLB := Lib.hid hlb
  clear hlb ht hs hr hb
  go_enter Tryz.func22, Tryz.ntmps22
  go_wp2_with fail
  refine HC.out.mono ?_
  rintro e w1 ⟨rfl, h1, h2⟩
  have H1 := Lib.hid h1; have H2 := Lib.hid h2; clear h1 h2
  go_wp2
  go_ret2
  exact does_of HLB.out H1.out H2.out

set_option maxRecDepth 100000 in
set_option maxHeartbeats 400000 in
theorem doesElse (k : Int) (h0 : k ≠ 0) (h1 : k ≠ 1) (h2 : k ≠ 2) (h3 : k ≠ 3) (h4 : k ≠ 4) (ht : TreeAt w p B t) :
    Calls Tryz.prog 22 #[.pointer (some ⟨p, 0, none⟩), .agg #[.int .i64 k, .string nm, .string to, .slice Al nl cl]] w (DoesOp (t, 0) p B w) := by
  have hlb : Later w (w.alloc (.cells #[.int .i64 k, .string nm, .string to, .slice Al nl cl] 46)) := (Later.refl w).alloc _
  have HT := Lib.hid (ht.later hlb)
  have HLB := Lib.hid hlb
  have b0 : (k == 0) = false := by simpa using h0
  have b1 : (k == 1) = false := by simpa using h1
  have b2 : (k == 2) = false := by simpa using h2
  have b3 : (k == 3) = false := by simpa using h3
  have b4 : (k == 4) = false := by simpa using h4
  clear hlb ht h0 h1 h2 h3 h4
  go_enter Tryz.func22, Tryz.ntmps22
  go_wp2
  go_ret2
  exact does_of (r := (t, 0)) HLB.out HT.out (Turned.refl B _)

theorem add_length (t : Tr) (n : ByteArray) : (addT t n).1.length ≤ t.length + 1 := by
  unfold addT
  split
  · simp
  · split
    · simp
    · exact with_length n []
theorem put_length (t : Tr) (n : ByteArray) (l : List ByteArray) : (putT t n l).1.length ≤ t.length + 1 := by
  unfold putT
  split
  · simp
  · split
    · simp
    · exact with_length n l

/-- The text 'none'. -/
def noneText : ByteArray := ⟨#[110, 111, 110, 101]⟩
theorem noneText_size : noneText.size ≤ maxLen := by simp [noneText, maxLen, ByteArray.size]
theorem add_names {t : Tr} (h : ∀ f ∈ t, f.1.size ≤ maxLen) : ∀ s ∈ namesT (addT t noneText).1, s.size ≤ maxLen := by
  intro s hs
  obtain ⟨f, hf, rfl⟩ := List.mem_map.1 hs
  unfold addT at hf
  split at hf
  · exact h f hf
  · split at hf
    · exact h f hf
    · rcases mem_with.1 hf with rfl | hf
      · exact noneText_size
      · exact h f hf.1

set_option maxRecDepth 100000 in
set_option maxHeartbeats 800000 in
theorem does4 (ht : TreeAt w p B t) (hl : t.length ≤ 1000) (hb : ∀ f ∈ t, f.2.length ≤ 65536) (hns : ∀ f ∈ t, f.1.size ≤ maxLen) :
    Calls Tryz.prog 22 #[.pointer (some ⟨p, 0, none⟩), .agg #[.int .i64 4, .string nm, .string to, .slice Al nl cl]] w (DoesOp (t, 0) p B w) := by
  have hlb : Later w (w.alloc (.cells #[.int .i64 4, .string nm, .string to, .slice Al nl cl] 46)) := (Later.refl w).alloc _
  have HC := Lib.hid (copy_any p B t _ (ht.later hlb) (by omega) hb)
  have HT := Lib.hid (ht.later hlb)
  have hBw := ht.files.lt
  have HLB := Lib.hid hlb
  have hlb0 : w.heap.size ≤ (w.alloc (.cells #[.int .i64 4, .string nm, .string to, .slice Al nl cl] 46)).heap.size := hlb.le
  clear hlb ht hb
  go_enter Tryz.func22, Tryz.ntmps22
  go_wp2_with fail
  refine HC.out.mono ?_
  rintro e w1 ⟨p1, B1, rfl, ht1, hp1, hB1, hl1⟩
  have HT1 := Lib.hid ht1; have HL1 := Lib.hid hl1
  have hne : B1 ≠ B := by omega
  have hp1' : w.heap.size ≤ p1 := Nat.le_trans hlb0 hp1
  have hB1' : w.heap.size ≤ B1 := Nat.le_trans hlb0 hB1
  clear ht1 hl1 hp1 hB1
  go_wp2_with fail
  refine (add_any p B noneText t w1 (HT.out.later HL1.out) (by simp [noneText, maxLen, ByteArray.size]) (by omega)).mono ?_
  rintro e w2 ⟨rfl, ht2, hg2⟩
  have hal := add_length t noneText
  have HG2 : Hid (Turned B w w2) := ((HLB.out.trans HL1.out).turned B).trans hg2
  have HC2 : Hid (TreeAt w2 p1 B1 t) := by
    obtain ⟨es, c, hm⟩ := (HT.out.later HL1.out).files.map
    exact HT1.out.other hg2 hne hm
  have hns2 := add_names hns
  have HNS : Hid (∀ s ∈ namesT (addT t noneText).1, s.size ≤ maxLen) := hns2
  clear hns2 hns
  generalize (addT t noneText).1 = t2 at ht2 hal HNS
  generalize (addT t noneText).2 = e2
  have HT2 := Lib.hid ht2
  clear ht2 hg2
  go_wp2_with fail
  refine (names_any p B t2 w2 HT2.out (by omega)).mono ?_
  rintro e w3 ⟨v3, rfl, hown3⟩
  obtain ⟨A3, c3, rfl, hcc3, hr3⟩ := hown3.row
  have hnl : (namesT t2).length ≤ 1001 := by simp only [namesT, List.length_map]; omega
  generalize namesT t2 = ns at hown3 hcc3 hr3 hnl HNS ⊢
  have HR3 := Lib.hid hr3
  have HG3 : Hid (Turned B w w3) := HG2.out.trans (hown3.later.turned B)
  have HC3 := Lib.hid (HC2.out.later hown3.later)
  have HT3 := Lib.hid (HT2.out.later hown3.later)
  clear hown3 hr3
  go_wp2
  go_loopg [52] (ns.length + 1) (fun g s52 wr => ∃ (k : Nat) (tt : Tr), k ≤ ns.length ∧ ns.length - k ≤ g ∧ s52 = .int .i64 k ∧ tt.length ≤ t2.length + k ∧ Hid (TreeAt wr p B tt) ∧ Hid (TreeAt wr p1 B1 t) ∧ Hid (Turned B w wr) ∧ Hid (Row wr A3 ns.length ns))
  case atStart => exact ⟨0, t2, Nat.zero_le _, by omega, rfl, Nat.le_refl _, HT3.out, HC3.out, HG3.out, HR3.out⟩
  case round =>
    obtain ⟨k, tt, hk, hg, rfl, htl, hct, hcc, hgt, hrw⟩ := hrel
    by_cases hlt : k < ns.length
    · obtain ⟨b1, o1, rfl, g1⟩ := hrw.out.get hlt
      have hpl : ∀ s ∈ [noneText], s.size ≤ maxLen := fun s hs => by simp at hs; subst hs; simp [noneText, maxLen, ByteArray.size]
      have hrn : Row (wr.alloc (.cells #[.string noneText] 9)) (some ⟨wr.heap.size, 0, none⟩) 1 [noneText] := Row.one wr noneText 9
      have hcell := hct.out.cell
      have hnm : (ns.getD k ByteArray.empty).size ≤ maxLen := by
        simp only [List.getD, List.getElem?_eq_getElem hlt, Option.getD_some]
        exact HNS.out _ (List.getElem_mem hlt)
      have HP := Lib.hid (put_any p B (ns.getD k ByteArray.empty) (some ⟨wr.heap.size, 0, none⟩) 1 1 [noneText] tt _ (hct.out.later ((Later.refl wr).alloc _)) hrn hnm (by omega) (by omega) hpl)
      generalize ns.getD k ByteArray.empty = nx at g1 HP hnm
      have hpl2 := put_length tt nx [noneText]
      clear hpl hrn hnm
      go_wp2_with fail
      refine HP.out.mono ?_
      rintro e w5 ⟨rfl, ht5, hg5⟩
      generalize (putT tt nx [noneText]).1 = t5 at ht5 hpl2
      generalize (putT tt nx [noneText]).2 = e5
      have HT5 := Lib.hid ht5; have HG5 := Lib.hid hg5
      clear ht5 hg5
      go_wp2
      go_roundg (ns.length - (k + 1))
      case measure => omega
      case rel =>
        have hla : Later wr (wr.alloc (.cells #[.string noneText] 9)) := (Later.refl wr).alloc _
        obtain ⟨es, c, hm⟩ := (hct.out.later hla).files.map
        exact ⟨k + 1, t5, by omega, Nat.le_refl _, by go_num, by omega, HT5.out, (hcc.out.later hla).other HG5.out hne hm, (hgt.out.trans (hla.turned B)).trans HG5.out, (hrw.out.later hla).turned HG5.out hm⟩
    · clear hct
      go_wp2
      go_ret2
      exact ⟨p1, B1, rfl, hcc.out, hgt.out, .inr ⟨hp1', hB1'⟩⟩

end

/-- A tree of few, small files. -/
structure Small (t : Tr) : Prop where
  many : t.length ≤ 1000
  names : ∀ f ∈ t, f.1.size ≤ maxLen
  lines : ∀ f ∈ t, f.2.length ≤ 65536

theorem does_any (p B : Nat) (t : Tr) (o : OpV) (Al : Option Addr) (nl cl : Nat) (w : World) (ht : TreeAt w p B t) (ho : OpOk w o Al nl) (hs : Small t) :
    Calls Tryz.prog 22 #[.pointer (some ⟨p, 0, none⟩), opVal o Al nl cl] w (DoesOp (doT t o) p B w) := by
  have hl := hs.many
  obtain ⟨kind, nm, to, l⟩ := o
  by_cases h0 : kind = 0
  · subst h0
    exact does0 p B t nm to Al nl cl w ht ho.name (by omega)
  by_cases h1 : kind = 1
  · subst h1
    exact does1 p B t nm to Al nl cl w ht ho.name hs.lines
  by_cases h2 : kind = 2
  · subst h2
    exact does2 p B t nm to Al nl cl w ht ho.name ho.to (by omega)
  by_cases h3 : kind = 3
  · subst h3
    exact does3 p B t nm to Al nl cl l w ht ho.name (by omega) ho.row ho.most ho.lines
  have e : doT t ⟨kind, nm, to, l⟩ = (t, 0) := by simp [doT, h0, h1, h2, h3]
  rw [e]
  by_cases h4 : kind = 4
  · subst h4
    exact does4 p B t nm to Al nl cl w ht hl hs.lines hs.names
  exact doesElse p B t nm to Al nl cl w kind h0 h1 h2 h3 h4 ht

end Go.Proofs.YtboffgmaohcpfaaGreatDoor

/-
  What the statements' own Made comes to, as a call: the tree behind calls, and the document's.
-/
namespace Go.Proofs.YtboffgmaohcpfaaGreatDoor
open Go.RowKit Go.Maps

/-- The tree behind calls. -/
def madeT (os : List OpC) : Tr := os.foldl (fun t o => (doT t o.v).1) []
theorem made_next {os : List OpC} {k : Nat} {o : OpC} (h : os[k]? = some o) : madeT (os.take (k + 1)) = (doT (madeT (os.take k)) o.v).1 := by
  obtain ⟨hk, rfl⟩ := List.getElem?_eq_some_iff.1 h
  unfold madeT
  rw [List.take_succ_eq_append_getElem hk, List.foldl_append]
  rfl

/-- How many lines and bytes a file has. -/
def heavy (l : List ByteArray) : Nat := l.length + (l.map ByteArray.size).sum

/-- At most k files, each with a name, lines that may be, and not too many. -/
structure Fits (k : Nat) (t : Tr) : Prop where
  many : t.length ≤ k
  each : ∀ f ∈ t, namedB f.1 = true ∧ allB f.2 = true ∧ heavy f.2 ≤ 8000

theorem named_size {s : ByteArray} (h : namedB s = true) : 1 ≤ s.size ∧ s.size ≤ 24 := by
  simp only [namedB, Bool.and_eq_true, decide_eq_true_eq] at h
  exact h.1

theorem Fits.small {k : Nat} {t : Tr} (h : Fits k t) (hk : k ≤ 1000) : Small t :=
  ⟨Nat.le_trans h.many hk, fun f hf => by have := named_size (h.each f hf).1; simp only [maxLen]; omega, fun f hf => by have := (h.each f hf).2.2; unfold heavy at this; omega⟩
theorem Fits.nil : Fits 0 [] := ⟨Nat.le_refl _, fun f hf => by cases hf⟩
theorem Fits.mono {j k : Nat} {t : Tr} (h : Fits j t) (hk : j ≤ k) : Fits k t := ⟨Nat.le_trans h.many hk, h.each⟩
theorem Fits.with_ {k : Nat} {t : Tr} (h : Fits k t) {n : ByteArray} {l : List ByteArray} (h1 : namedB n = true) (h2 : allB l = true) (h3 : heavy l ≤ 8000) : Fits (k + 1) (withT t n l) :=
  ⟨Nat.le_trans (with_length n l) (Nat.succ_le_succ h.many), fun f hf => by
    rcases mem_with.1 hf with rfl | hf
    · exact ⟨h1, h2, h3⟩
    · exact h.each f hf.1⟩
theorem Fits.without {k : Nat} {t : Tr} (h : Fits k t) (n : ByteArray) : Fits k (withoutT t n) := ⟨Nat.le_trans (without_length t n) h.many, fun f hf => h.each f (mem_without.1 hf).1⟩
theorem allB_nil : allB [] = true := by simp [allB]
theorem Fits.add {k : Nat} {t : Tr} (h : Fits k t) (n : ByteArray) : Fits (k + 1) (addT t n).1 := by
  unfold addT
  split
  · exact h.mono (Nat.le_succ _)
  · rename_i h1
    split
    · exact h.mono (Nat.le_succ _)
    · exact h.with_ (by simpa using h1) allB_nil (by simp [heavy])
theorem Fits.remove {k : Nat} {t : Tr} (h : Fits k t) (n : ByteArray) : Fits (k + 1) (removeT t n).1 := by
  unfold removeT
  split
  · exact h.mono (Nat.le_succ _)
  · split
    · exact h.mono (Nat.le_succ _)
    · exact (h.without n).mono (Nat.le_succ _)
theorem Fits.move {k : Nat} {t : Tr} (h : Fits k t) (a b : ByteArray) : Fits (k + 1) (moveT t a b).1 := by
  unfold moveT
  split
  · exact h.mono (Nat.le_succ _)
  · rename_i l hl
    split
    · exact h.mono (Nat.le_succ _)
    · rename_i h1
      split
      · exact h.mono (Nat.le_succ _)
      · have := h.each _ (getT_mem hl)
        exact (h.without a).with_ (by simpa using h1) this.2.1 this.2.2
theorem hasT_named {k : Nat} {t : Tr} (h : Fits k t) {n : ByteArray} (hn : hasT t n = true) : namedB n = true := by
  obtain ⟨f, hf, rfl⟩ := hasT_iff.1 hn
  exact (h.each f hf).1
theorem Fits.put {k : Nat} {t : Tr} (h : Fits k t) (n : ByteArray) {l : List ByteArray} (hl : heavy l ≤ 8000) : Fits (k + 1) (putT t n l).1 := by
  unfold putT
  split
  · exact h.mono (Nat.le_succ _)
  · rename_i h1
    split
    · exact h.mono (Nat.le_succ _)
    · rename_i h2
      exact h.with_ (hasT_named h (by simpa using h1)) (by simpa using h2) hl
theorem Fits.step {k : Nat} {t : Tr} (h : Fits k t) {o : OpV} (ho : weight o ≤ 8000) : Fits (k + 1) (doT t o).1 := by
  have hl : heavy o.l ≤ 8000 := by unfold weight at ho; unfold heavy; omega
  unfold doT
  split
  · exact h.add _
  · split
    · exact h.remove _
    · split
      · exact h.move _ _
      · split
        · exact h.put _ hl
        · exact h.mono (Nat.le_succ _)

theorem made_fits {w : World} {A : Option Addr} {n : Nat} {os : List OpC} (h : Script w A n os) (hW : weightL os ≤ 8000) : Fits n (madeT os) := by
  have key : ∀ k, k ≤ os.length → Fits k (madeT (os.take k)) := fun k => by
    induction k with
    | zero => intro _; simpa [madeT] using Fits.nil
    | succ k ih =>
      intro hk
      have hz : os[k]? = some os[k] := List.getElem?_eq_getElem (by omega)
      rw [made_next hz]
      exact (ih (by omega)).step (Nat.le_trans (weight_mem (List.mem_of_getElem? hz)) hW)
  have := key os.length (Nat.le_refl _)
  rwa [List.take_length, h.len] at this

/-- A tree, and the document's. -/
def GivesMade (t : Tr) (w : World) (e : Ending) (w' : World) : Prop :=
  ∃ p B v, e = .returned (.tuple #[.pointer (some ⟨p, 0, none⟩), v]) ∧ TreeAt w' p B t ∧ RefAt w' v t ∧ w.heap.size ≤ p ∧ w.heap.size ≤ B ∧ Later w w'

theorem Script.op {w : World} {A : Option Addr} {n : Nat} {os : List OpC} (h : Script w A n os) (hW : weightL os ≤ 8000) {o : OpC} (ho : o ∈ os) : OpOk w o.v o.A o.n := by
  have h1 := weight_mem ho
  have h2 := (h.lines o ho).1
  have h3 := h2.len
  unfold weight at h1
  refine ⟨h2, by omega, by simp only [maxLen]; omega, by simp only [maxLen]; omega, fun s hs => ?_⟩
  have := sizes_mem hs
  simp only [maxLen]; omega

set_option maxRecDepth 100000 in
set_option maxHeartbeats 800000 in
theorem made_any (A : Option Addr) (n c : Nat) (os : List OpC) (w : World) (hx : Script w A n os) (hn : n ≤ 80) (hW : weightL os ≤ 8000) :
    Calls Tryz.prog 8 #[.slice A n c] w (GivesMade (madeT os) w) := by
  have HX := Lib.hid hx; clear hx
  go_enter Tryz.func8, Tryz.ntmps8
  go_wp2_with fail
  refine (new_any w).mono ?_
  rintro e w1 ⟨p1, B1, rfl, ht1, hp1, hB1, hl1⟩
  have HT1 := Lib.hid ht1; have HL1 := Lib.hid hl1; clear ht1 hl1
  go_wp2
  go_loopg [4, 5, 15] (n + 1) (fun g s4 s5 s15 wr => ∃ (k p B : Nat) (v : Value) (t : Tr), k ≤ n ∧ n - k ≤ g ∧ s15 = .int .i64 k ∧ s4 = .pointer (some ⟨p, 0, none⟩) ∧ s5 = v ∧ w.heap.size ≤ p ∧ w.heap.size ≤ B ∧ Hid (t = madeT (os.take k)) ∧ Hid (Fits k t) ∧ Hid (TreeAt wr p B t) ∧ Hid (RefAt wr v t) ∧ Hid (Later w wr))
  case atStart => exact ⟨0, p1, B1, _, [], Nat.zero_le _, by omega, rfl, rfl, rfl, hp1, hB1, rfl, Fits.nil, HT1.out, RefAt.nil _, HL1.out⟩
  case round =>
    obtain ⟨k, p, B, v, t, hk, hg, rfl, rfl, hv, hp, hB, hte, hfit, htr, href, hwr⟩ := hrel
    obtain rfl := hv.symm
    clear hv
    by_cases hlt : k < n
    · obtain ⟨b, o, x, rfl, hz, g0, g1, g2, g3⟩ := (HX.out.later hwr.out).get hlt
      have hmem := List.mem_of_getElem? hz
      have hok := (HX.out.later hwr.out).op hW hmem
      have hwx := weight_mem hmem
      have hnext := made_next hz
      rw [← hte.out] at hnext
      have HNX := Lib.hid hnext
      have hstep := hfit.out.step (o := x.v) (by omega)
      have HST := Lib.hid hstep
      have hsm := hfit.out.small (by omega)
      have HSM := Lib.hid hsm
      have hlb : Later wr (wr.alloc (.cells #[.int .i64 x.v.kind, .string x.v.name, .string x.v.to, .slice x.A x.n x.c] 46)) := (Later.refl wr).alloc _
      have HD := Lib.hid (refDo_any v t x.v x.A x.n x.c _ (href.out.later hlb) (hok.later hlb) (by have := hsm.many; omega) hsm.lines)
      have HE := Lib.hid (fun (w2 : World) (h2 : Later (wr.alloc (.cells #[.int .i64 x.v.kind, .string x.v.name, .string x.v.to, .slice x.A x.n x.c] 46)) w2) => does_any p B t x.v x.A x.n x.c w2 (htr.out.later (hlb.trans h2)) (hok.later (hlb.trans h2)) hsm)
      have HLB := Lib.hid hlb
      have HBC : Hid ((wr.alloc (.cells #[.int .i64 x.v.kind, .string x.v.name, .string x.v.to, .slice x.A x.n x.c] 46)).cell? ⟨wr.heap.size, 0, none⟩ = some (.int .i64 x.v.kind) ∧ (wr.alloc (.cells #[.int .i64 x.v.kind, .string x.v.name, .string x.v.to, .slice x.A x.n x.c] 46)).cell? ⟨wr.heap.size, 1, none⟩ = some (.string x.v.name) ∧ (wr.alloc (.cells #[.int .i64 x.v.kind, .string x.v.name, .string x.v.to, .slice x.A x.n x.c] 46)).cell? ⟨wr.heap.size, 2, none⟩ = some (.string x.v.to) ∧ (wr.alloc (.cells #[.int .i64 x.v.kind, .string x.v.name, .string x.v.to, .slice x.A x.n x.c] 46)).cell? ⟨wr.heap.size, 3, none⟩ = some (.slice x.A x.n x.c)) := ⟨by simp, by simp, by simp, by simp⟩
      unfold opVal at HD HE
      generalize hr : doT t x.v = r at HD HE HNX HST
      obtain ⟨t2, en⟩ := r
      have hne : (en != en) = false := by simp
      clear hok hmem hwx hnext hz hlb hr hsm hstep
      go_wp2_with fail
      refine HD.out.mono ?_
      rintro e w2 ⟨v2, rfl, hr2, hl2⟩
      have HR2 := Lib.hid hr2; have HL2 := Lib.hid hl2
      have c0 := hl2.cell HBC.out.1
      have c1 := hl2.cell HBC.out.2.1
      have c2 := hl2.cell HBC.out.2.2.1
      have c3 := hl2.cell HBC.out.2.2.2
      clear hr2 hl2
      go_wp2_with fail
      refine (HE.out w2 HL2.out).mono ?_
      rintro e w3 ⟨p3, B3, rfl, ht3, hg3, hpb⟩
      have HT3 := Lib.hid ht3; have HG3 := Lib.hid hg3
      have hle2 : w.heap.size ≤ w2.heap.size := (hwr.out.trans (HLB.out.trans HL2.out)).le
      have hp3 : w.heap.size ≤ p3 := by rcases hpb with ⟨rfl, rfl⟩ | ⟨h, _⟩ <;> omega
      have hB3 : w.heap.size ≤ B3 := by rcases hpb with ⟨rfl, rfl⟩ | ⟨_, h⟩ <;> omega
      clear ht3 hg3 hpb
      go_wp2
      go_roundg (n - (k + 1))
      case measure => omega
      case rel =>
        obtain ⟨es, mc, hm⟩ := (htr.out.later (HLB.out.trans HL2.out)).files.map
        exact ⟨k + 1, p3, B3, v2, t2, by omega, Nat.le_refl _, by go_num, rfl, rfl, hp3, hB3, HNX.out.symm, HST.out, HT3.out, HR2.out.turned HG3.out hm, (hwr.out.trans (HLB.out.trans HL2.out)).turn HG3.out hB⟩
    · have e : os.take k = os := List.take_of_length_le (by rw [HX.out.len]; omega)
      rw [e] at hte
      clear e
      go_wp2
      go_ret2
      refine ⟨p, B, v, rfl, ?_, ?_, hp, hB, hwr.out⟩
      · rw [← hte.out]; exact htr.out
      · rw [← hte.out]; exact href.out

end Go.Proofs.YtboffgmaohcpfaaGreatDoor

/-
  What the statements' own Old comes to, as a call: a tree, as the document has it.
-/
namespace Go.Proofs.YtboffgmaohcpfaaGreatDoor
open Go.RowKit Go.Maps

/-- A row of files has grown: the rows of lines stand. -/
theorem Own.grown {w0 w w' : World} {u v : Value} {ss : List ByteArray} {css : List (List Value)} (h : Own 9 w0 w u ss) (hk : OwnK 66 2 w0 w v css) (hg : w.grownBy w' v.ownBlock) (hl : Later w0 w') : Own 9 w0 w' u ss := by
  refine ⟨h.1.kept hg ?_, hl⟩
  rcases h.1.2 with ⟨rfl, _⟩ | ⟨g, cap, cur, rfl, _, hh, _⟩
  · exact .inl rfl
  · right
    intro e
    rcases hk.1.2 with ⟨rfl, _⟩ | ⟨g', cap', cur', rfl, _, hh', _⟩
    · simp [Value.ownBlock] at e
    · simp only [Value.ownBlock, Option.some.injEq] at e
      subst e
      rw [hh] at hh'
      simp at hh'
theorem Own.reads {w0 w : World} {v : Value} {ss : List ByteArray} (h : Own 9 w0 w v ss) : Reads w v ss := by
  obtain ⟨A, c, hv, hc, hr⟩ := h.row
  exact ⟨A, _, c, hv, hc, hr⟩

/-- A tree of files, not too many, not too great. -/
structure Mid (t : Tr) : Prop where
  many : t.length ≤ 60000
  names : ∀ f ∈ t, f.1.size ≤ maxLen
  lines : ∀ f ∈ t, f.2.length ≤ 65536
theorem Small.mid {t : Tr} (h : Small t) : Mid t := ⟨Nat.le_trans h.many (by omega), h.names, h.lines⟩

set_option maxRecDepth 100000 in
set_option maxHeartbeats 800000 in
theorem oldM_any (p B : Nat) (t : Tr) (w : World) (ht : TreeAt w p B t) (hs : Mid t) :
    Calls Tryz.prog 12 #[.pointer (some ⟨p, 0, none⟩)] w fun e w' => ∃ v, e = .returned v ∧ RefAt w' v t ∧ Later w w' := by
  have hmany := hs.many
  have HN := Lib.hid (names_any p B t w ht (by omega))
  have HT := Lib.hid ht; have HS := Lib.hid hs
  obtain ⟨i0, hi, hz0, hz1, hz2⟩ := info_parts Tryz.fileInfo
  clear ht hs
  go_enter Tryz.func12, Tryz.ntmps12
  go_wp2_with fail
  refine HN.out.mono ?_
  rintro e w1 ⟨v1, rfl, hown1⟩
  obtain ⟨A1, c1, rfl, hcc1, hr1⟩ := hown1.row
  have hlen : (namesT t).length = t.length := by simp [namesT]
  rw [hlen] at hcc1 hr1 ⊢
  have HR1 := Lib.hid hr1; have HL1 := Lib.hid hown1.later
  clear hown1 hr1 hlen
  go_wp2
  go_loopg [3, 11] (t.length + 1) (fun g s3 s11 wr => ∃ (k : Nat) (v : Value) (z : Fl Held), k ≤ t.length ∧ t.length - k ≤ g ∧ s11 = .int .i64 k ∧ s3 = v ∧ z.length ≤ k ∧ Hid (mapT (·.2) z = t.take k) ∧ Hid (OwnK 66 2 w1 wr v (cellsF z)) ∧ Hid (∀ f ∈ z, Own 9 w1 wr f.2.1 f.2.2))
  case atStart => exact ⟨0, _, [], Nat.zero_le _, by omega, rfl, rfl, Nat.le_refl _, by simp [Hid, mapT], OwnK.nil (Later.refl w1), fun f hf => by cases hf⟩
  case round =>
    obtain ⟨k, v, z, hk, hg, rfl, hv, hzl, hzt, hown, hall⟩ := hrel
    obtain rfl := hv.symm
    clear hv
    by_cases hlt : k < t.length
    · have hf : t[k]? = some t[k] := List.getElem?_eq_getElem hlt
      generalize t[k] = f at hf
      have hmem := List.mem_of_getElem? hf
      obtain ⟨b1, o1, rfl, g1⟩ := (HR1.out.later hown.out.later).get hlt
      have hnm : (namesT t).getD k ByteArray.empty = f.1 := by simp [namesT, List.getD, hf]
      rw [hnm] at g1
      have hget : getT t f.1 = some f.2 := (getT_iff HT.out.files.rise).2 hmem
      have HG := Lib.hid (get_any p B f.1 t wr (HT.out.later (HL1.out.trans hown.out.later)) (HS.out.names f hmem) HS.out.lines)
      rw [hget] at HG
      have hnext : t.take (k + 1) = t.take k ++ [f] := by
        obtain ⟨hk', rfl⟩ := List.getElem?_eq_some_iff.1 hf
        exact List.take_succ_eq_append_getElem hk'
      have HNX := Lib.hid hnext
      have HF : Hid (f = (f.1, f.2)) := rfl
      generalize f.1 = fn at g1 HG HF
      generalize f.2 = fl at HG HF
      clear hf hmem hnm hget hnext
      go_wp2_with fail
      refine HG.out.mono ?_
      rintro e w2 ⟨v2, rfl, hown2⟩
      obtain ⟨A2, c2, hv2, hcc2, hr2⟩ := hown2.row
      subst hv2
      have hb2 := hown2.base hown.out.later
      have HB2 := Lib.hid hb2
      have HL2 := Lib.hid hown2.later
      have hown' := hown.out.on hown2.later
      have HOW := Lib.hid hown'
      clear hown2 hr2 hb2 hown'
      simp only [Option.getD_some, Option.isSome_some] at HB2 hcc2 ⊢
      go_wp2_with (at_builtin; refine wpList_append_rowK rfl _ _ 29 rfl i0 _ 40 Tryz.underlying29 hi hz0 hz1 hz2 rfl (by decide) (HOW.out.alloc _) rfl _ _ _ _ rfl (RowK.two _ _ _ _) (file_one _ _ _ _) (by rw [cellsF_length]; omega) (by omega) ?_; intro v4 w4 hown4 hg4; have HO4 := Lib.hid hown4; have HG4 := Lib.hid hg4; clear hown4 hg4)
      go_roundg (t.length - (k + 1))
      case measure => omega
      case rel =>
        refine ⟨k + 1, v4, z ++ [(fn, (.slice A2 fl.length c2, fl))], by omega, Nat.le_refl _, by go_num, rfl, by simp; omega, ?_, ?_, ?_⟩
        · show _ = _
          rw [HNX.out, ← hzt.out, HF.out]; simp [mapT]
        · have := HO4.out
          simpa [cellsF, Hid] using this
        · intro f hf
          rcases List.mem_append.1 hf with hf | hf
          · exact (((hall.out f hf).on HL2.out).alloc _).grown (HOW.out.alloc _) HG4.out HO4.out.later
          · simp at hf; subst hf
            exact (HB2.out.alloc _).grown (HOW.out.alloc _) HG4.out HO4.out.later
    · have e : t.take k = t := List.take_of_length_le (by omega)
      rw [e] at hzt
      clear e
      go_wp2
      go_ret
      obtain ⟨A9, n9, c9, h1, h2, h3, h4⟩ := gives_own hown.out fun f hf => (hall.out f hf).reads
      exact ⟨_, h1, ⟨A9, n9, c9, z, rfl, h2, h3, hzt.out⟩, HL1.out.trans h4⟩

theorem old_any (p B : Nat) (t : Tr) (w : World) (ht : TreeAt w p B t) (hs : Small t) :
    Calls Tryz.prog 12 #[.pointer (some ⟨p, 0, none⟩)] w fun e w' => ∃ v, e = .returned v ∧ RefAt w' v t ∧ Later w w' := oldM_any p B t w ht hs.mid

end Go.Proofs.YtboffgmaohcpfaaGreatDoor

/-
  What the document's Same on trees comes to, as a call.
-/
namespace Go.Proofs.YtboffgmaohcpfaaGreatDoor
open Go.RowKit Go.Maps

theorem take_sameT {a b : Tr} {k : Nat} {f : ByteArray × List ByteArray} (ha : a[k]? = some f) (hb : b[k]? = some f) (h : a.take k = b.take k) : a.take (k + 1) = b.take (k + 1) := by
  obtain ⟨h1, e1⟩ := List.getElem?_eq_some_iff.1 ha
  obtain ⟨h2, e2⟩ := List.getElem?_eq_some_iff.1 hb
  rw [List.take_succ_eq_append_getElem h1, List.take_succ_eq_append_getElem h2, h, e1, e2]

set_option maxRecDepth 100000 in
set_option maxHeartbeats 800000 in
theorem refSameT_any (A : Option Addr) (n c : Nat) (z : Fl Held) (B : Option Addr) (m d : Nat) (y : Fl Held) (w : World) (hx : RefRow w A n z) (hy : RefRow w B m y) (hn : n ≤ 65536) (hm : m ≤ 65536) (hbz : ∀ f ∈ z, f.2.2.length ≤ 65536) (hby : ∀ f ∈ y, f.2.2.length ≤ 65536) :
    Calls Tryz.prog 11 #[.slice A n c, .slice B m d] w fun e w' => e = .returned (.bool (sameT (mapT (·.2) z) (mapT (·.2) y))) ∧ Drew w w' := by
  by_cases hnm : n = m
  · subst hnm
    have HX := Lib.hid hx; clear hx
    have HY := Lib.hid hy; clear hy
    have HBZ := Lib.hid hbz; clear hbz
    have HBY := Lib.hid hby; clear hby
    go_enter Tryz.func11, Tryz.ntmps11
    go_wp2
    go_loopg [5] (n + 1) (fun g s5 wr => ∃ k : Nat, k ≤ n ∧ n - k ≤ g ∧ s5 = .int .i64 k ∧ Drew w wr ∧ Hid ((mapT (·.2) z).take k = (mapT (·.2) y).take k))
    case atStart => exact ⟨0, Nat.zero_le _, by omega, rfl, Drew.refl w, by simp [Hid]⟩
    case round =>
      obtain ⟨k, hk, hg, rfl, hwr, heq⟩ := hrel
      have HW := Lib.hid hwr
      by_cases hlt : k < n
      · obtain ⟨b1, o1, f, rfl, hz, g1, g2⟩ := (HX.out.later hwr.later).get hlt
        obtain ⟨b2, o2, h, rfl, hy, g3, g4⟩ := (HY.out.later hwr.later).get hlt
        have hfz : (mapT (·.2) z)[k]? = some (f.1, f.2.2) := by simp [mapT, hz]
        have hfy : (mapT (·.2) y)[k]? = some (h.1, h.2.2) := by simp [mapT, hy]
        clear hwr
        by_cases hxy : f.1 = h.1
        · rw [← hxy] at g3
          obtain ⟨A1, n1, c1, hv1, hnc1, hr1⟩ := HX.out.reads f (List.mem_of_getElem? hz)
          obtain ⟨A2, n2, c2, hv2, hnc2, hr2⟩ := HY.out.reads h (List.mem_of_getElem? hy)
          rw [hv1] at g2
          rw [hv2] at g4
          have HS := Lib.hid (fun (w1 : World) (hw1 : Drew w w1) => refSame_any A1 A2 n1 c1 n2 c2 f.2.2 h.2.2 w1 (hr1.later hw1.later) (hr2.later hw1.later) (by rw [← hr1.len]; exact HBZ.out f (List.mem_of_getElem? hz)) (by rw [← hr2.len]; exact HBY.out h (List.mem_of_getElem? hy)))
          by_cases hl : f.2.2 = h.2.2
          · rw [sameB_yes hl] at HS
            have HE : Hid ((mapT (·.2) z).take (k + 1) = (mapT (·.2) y).take (k + 1)) := take_sameT hfz (by rw [hfy, hxy, hl]) heq.out
            generalize f.1 = fn at g1 g3
            clear hxy hl hz hy hfz hfy hv1 hv2 hr1 hr2 heq
            go_wp2_with fail
            go_quiet ((go_at_call 29; exact Calls.quiet_of (HS.out _ (HW.out.more _))))
            go_wp2
            go_roundg (n - (k + 1))
            case measure => omega
            case rel => exact ⟨k + 1, by omega, Nat.le_refl _, by go_num, HW.out.more _, HE.out⟩
          · rw [sameB_no hl] at HS
            have E : Hid (sameT (mapT (·.2) z) (mapT (·.2) y) = false) := sameT_no fun e => by
              rw [e, hfy] at hfz
              simp only [Option.some.injEq, Prod.mk.injEq] at hfz
              exact hl hfz.2.symm
            generalize f.1 = fn at g1 g3
            clear hxy hl hz hy hfz hfy hv1 hv2 hr1 hr2 heq
            go_wp2_with fail
            go_quiet ((go_at_call 29; exact Calls.quiet_of (HS.out _ (HW.out.more _))))
            go_wp2
            go_ret
            exact ⟨ret_bool E.out.symm, HW.out.more _⟩
        · have hb := text_ne hxy
          have E : Hid (sameT (mapT (·.2) z) (mapT (·.2) y) = false) := sameT_no fun e => by
            rw [e, hfy] at hfz
            simp only [Option.some.injEq, Prod.mk.injEq] at hfz
            exact hxy hfz.1.symm
          generalize f.1 = fn at g1 hb
          generalize h.1 = hn' at g3 hb
          clear hxy hz hy hfz hfy heq g2 g4
          go_wp2_with fail
          go_quiet (fail)
          go_wp2
          go_ret
          exact ⟨ret_bool E.out.symm, HW.out.more _⟩
      · have e : sameT (mapT (·.2) z) (mapT (·.2) y) = true := by
          have h1 := heq.out
          rw [List.take_of_length_le (by rw [mapT_length, HX.out.len]; omega), List.take_of_length_le (by rw [mapT_length, HY.out.len]; omega)] at h1
          rw [h1]; exact sameT_self _
        have E := Lib.hid e; clear e heq hwr
        go_wp2
        go_ret
        exact ⟨ret_bool E.out.symm, HW.out⟩
  · have E : Hid (sameT (mapT (·.2) z) (mapT (·.2) y) = false) := sameT_no fun e => hnm (by have := congrArg List.length e; rw [mapT_length, mapT_length, hx.len, hy.len] at this; exact this)
    have hd : ((n : Int) != (m : Int)) = true := by rw [bne_iff_ne]; omega
    have hnm' : ¬ (n : Int) = (m : Int) := by omega
    clear hx hy hbz hby hnm
    go_enter Tryz.func11, Tryz.ntmps11
    go_wp2
    go_ret
    exact ⟨ret_bool E.out.symm, Drew.refl w⟩

theorem refSameAt_any (v1 v2 : Value) (t1 t2 : Tr) (w : World) (h1 : RefAt w v1 t1) (h2 : RefAt w v2 t2) (hl1 : t1.length ≤ 65536) (hl2 : t2.length ≤ 65536) (hb1 : ∀ f ∈ t1, f.2.length ≤ 65536) (hb2 : ∀ f ∈ t2, f.2.length ≤ 65536) :
    Calls Tryz.prog 11 #[v1, v2] w fun e w' => e = .returned (.bool (sameT t1 t2)) ∧ Drew w w' := by
  obtain ⟨A, n, c, z, rfl, hc, hr, rfl⟩ := h1
  obtain ⟨B, m, d, y, rfl, hd, hs, rfl⟩ := h2
  rw [mapT_length, hr.len] at hl1
  rw [mapT_length, hs.len] at hl2
  exact refSameT_any A n c z B m d y w hr hs hl1 hl2 (fun f hf => hb1 (f.1, f.2.2) (by simp only [mapT, List.mem_map]; exact ⟨_, hf, rfl⟩)) (fun f hf => hb2 (f.1, f.2.2) (by simp only [mapT, List.mem_map]; exact ⟨_, hf, rfl⟩))

end Go.Proofs.YtboffgmaohcpfaaGreatDoor

/-
  What stands while a tree is changed by prims: the tree, the document's, a prim, its box.
-/
namespace Go.Proofs.YtboffgmaohcpfaaGreatDoor
open Go.RowKit Go.Maps

theorem Fits.sized {k : Nat} {t : Tr} (h : Fits k t) : Sized k 8000 t := ⟨h.many, fun f hf => ⟨(h.each f hf).1, (h.each f hf).2.1, by have := (h.each f hf).2.2; unfold heavy at this; omega⟩⟩
theorem Sized.mid {k h : Nat} {t : Tr} (hs : Sized k h t) (hk : k ≤ 60000) (hh : h ≤ 65536) : Mid t :=
  ⟨Nat.le_trans hs.many hk, fun f hf => (sized_some hs hh f hf).1, fun f hf => (sized_some hs hh f hf).2⟩
/-- With an error the tree is as it was. -/
theorem apply_err {t : Tr} {p : Pr} (h : (applyP t p).2 ≠ 0) : (applyP t p).1 = t := by
  revert h
  unfold applyP
  split
  · exact fun _ => rfl
  split
  · unfold hunkT
    split
    · exact fun _ => rfl
    · split
      · exact fun h => absurd rfl h
      · exact fun _ => rfl
  split
  · split
    · exact fun _ => rfl
    · exact fun h => absurd rfl h
  split
  · split
    · exact fun _ => rfl
    · split
      · exact fun _ => rfl
      · exact fun h => absurd rfl h
  · split
    · exact fun _ => rfl
    · split
      · exact fun _ => rfl
      · exact fun h => absurd rfl h

/-- A tree t, the document's s, a prim x in a box g. -/
structure Both (w w' : World) (p B : Nat) (t : Tr) (v : Value) (s : Tr) (x : PrC) (g : Nat) : Prop where
  tree : TreeAt w' p B t
  ref : RefAt w' v s
  prim : PrOk w' x
  box : BoxAt w' g (prL x).toArray 34
  later : Later w w'
section
variable {w w1 w2 : World} {p B g : Nat} {t t' s : Tr} {v : Value} {x : PrC}
theorem Both.next (h : Both w w1 p B t v s x g) (ht : TreeAt w2 p B t') (hg : Turned B w1 w2) (hB : w.heap.size ≤ B) : Both w w2 p B t' v s x g := by
  obtain ⟨es, c, hm⟩ := h.tree.files.map
  exact ⟨ht, h.ref.turned hg hm, h.prim.turned hg hm, h.box.turned hg hm, h.later.turn hg hB⟩
theorem Both.on (h : Both w w1 p B t v s x g) (hl : Later w1 w2) : Both w w2 p B t v s x g := ⟨h.tree.later hl, h.ref.later hl, h.prim.later hl, h.box.later hl, h.later.trans hl⟩
end

/-- Are the program's tree and the document's the same? -/
theorem bothSame_any (v1 v2 : Value) (t : Tr) (w : World) (h1 : RefAt w v1 t) (h2 : RefAt w v2 t) (hm : Mid t) : Calls Tryz.prog 11 #[v1, v2] w (Says true w) := by
  have := refSameAt_any v1 v2 t t w h1 h2 (Nat.le_trans hm.many (by omega)) (Nat.le_trans hm.many (by omega)) hm.lines hm.lines
  rw [sameT_self] at this
  exact this.mono fun e w' h => ⟨h.1, h.2.later⟩

end Go.Proofs.YtboffgmaohcpfaaGreatDoor
