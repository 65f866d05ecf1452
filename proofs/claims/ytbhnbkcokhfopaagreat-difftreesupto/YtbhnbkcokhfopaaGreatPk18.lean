import Derived.Test.YtbhnbkcokhfopaaGreatPk17
import Derived.Test.YtbhnbkcokhfopaaGreatPk10
import Derived.Test.YtbhnbkcokhfopaaGreatPk13
import Derived.Test.YtbhnbkcokhfopaaGreatPk3
import Derived.Test.YtbhnbkcokhfopaaGreatPk4
import Derived.Test.YtbhnbkcokhfopaaGreatPk9
import Derived.Lib.Hide
import Derived.Test.YtbhnbkcokhfopaaGreatChecked
import Derived.Test.YtbhnbkcokhfopaaGreatPk1
import Derived.Deep.LoopGhost
import Derived.Deep.QuietTactic
import Derived.BigQuiet
import Derived.Test.YtbhnbkcokhfopaaGreatPk11

/-
  What the statements' own 'does' comes to, as a call.
-/
namespace Go.Proofs.YtbhnbkcokhfopaaGreat
open Go.RowKit Go.Maps

/-- A tree, this one or a new one, and an error's number; nothing has turned but the tree. -/
def DoesOp (r : Tr × Int) (p B : Nat) (w : World) (e : Ending) (w' : World) : Prop :=
  ∃ p' B', e = .returned (.tuple #[.pointer (some ⟨p', 0, none⟩), .int .i64 r.2]) ∧ TreeAt w' p' B' r.1 ∧ Turned B w w' ∧ ((p' = p ∧ B' = B) ∨ (w.heap.size ≤ p' ∧ w.heap.size ≤ B'))

theorem does_of {r : Tr × Int} {p B : Nat} {w w1 w' : World} (hl : Later w w1) (h : TreeAt w' p B r.1) (ht : Turned B w1 w') : DoesOp r p B w (.returned (.tuple #[.pointer (some ⟨p, 0, none⟩), .int .i64 r.2])) w' :=
  ⟨p, B, rfl, h, (hl.turned B).trans ht, .inl ⟨rfl, rfl⟩⟩

section
variable (p B : Nat) (t : Tr) (nm to : ByteArray) (Al : Option Addr) (nl cl : Nat) (l : List ByteArray) (w : World)

set_option maxRecDepth 100000 in
set_option maxHeartbeats 400000 in
theorem does0 (ht : TreeAt w p B t) (hs : nm.size ≤ maxLen) (hl : t.length ≤ 65536) :
    Calls Tryz.prog 24 #[.pointer (some ⟨p, 0, none⟩), .agg #[.int .i64 0, .string nm, .string to, .slice Al nl cl]] w (DoesOp (addT t nm) p B w) := by
  have hlb : Later w (w.alloc (.cells #[.int .i64 0, .string nm, .string to, .slice Al nl cl] 47)) := (Later.refl w).alloc _
  have HC := Lib.hid (add_any p B nm t _ (ht.later hlb) hs hl)
  have HLB := Lib.hid hlb
  clear hlb ht hs
  go_enter Tryz.func24, Tryz.ntmps24
  go_wp2_with fail
  refine HC.out.mono ?_
  rintro e w1 ⟨rfl, h1, h2⟩
  have H1 := Lib.hid h1; have H2 := Lib.hid h2; clear h1 h2
  go_wp2
  go_ret2
  exact does_of HLB.out H1.out H2.out

set_option maxRecDepth 100000 in
set_option maxHeartbeats 400000 in
theorem does1 (ht : TreeAt w p B t) (hs : nm.size ≤ maxLen) (hb : ∀ f ∈ t, f.2.length ≤ 65536) :
    Calls Tryz.prog 24 #[.pointer (some ⟨p, 0, none⟩), .agg #[.int .i64 1, .string nm, .string to, .slice Al nl cl]] w (DoesOp (removeT t nm) p B w) := by
  have hlb : Later w (w.alloc (.cells #[.int .i64 1, .string nm, .string to, .slice Al nl cl] 47)) := (Later.refl w).alloc _
  have HC := Lib.hid (remove_any p B nm t _ (ht.later hlb) hs hb)
  have HLB := Lib.hid hlb
  clear hlb ht hs hb
  go_enter Tryz.func24, Tryz.ntmps24
  go_wp2_with fail
  refine HC.out.mono ?_
  rintro e w1 ⟨rfl, h1, h2⟩
  have H1 := Lib.hid h1; have H2 := Lib.hid h2; clear h1 h2
  go_wp2
  go_ret2
  exact does_of HLB.out H1.out H2.out

set_option maxRecDepth 100000 in
set_option maxHeartbeats 400000 in
theorem does2 (ht : TreeAt w p B t) (hs : nm.size ≤ maxLen) (hs2 : to.size ≤ maxLen) (hl : t.length ≤ 65536) :
    Calls Tryz.prog 24 #[.pointer (some ⟨p, 0, none⟩), .agg #[.int .i64 2, .string nm, .string to, .slice Al nl cl]] w (DoesOp (moveT t nm to) p B w) := by
  have hlb : Later w (w.alloc (.cells #[.int .i64 2, .string nm, .string to, .slice Al nl cl] 47)) := (Later.refl w).alloc _
  have HC := Lib.hid (move_any p B nm to t _ (ht.later hlb) hs hs2 hl)
  have HLB := Lib.hid hlb
  clear hlb ht hs hs2
  go_enter Tryz.func24, Tryz.ntmps24
  go_wp2_with fail
  refine HC.out.mono ?_
  rintro e w1 ⟨rfl, h1, h2⟩
  have H1 := Lib.hid h1; have H2 := Lib.hid h2; clear h1 h2
  go_wp2
  go_ret2
  exact does_of HLB.out H1.out H2.out

set_option maxRecDepth 100000 in
set_option maxHeartbeats 400000 in
theorem does3 (ht : TreeAt w p B t) (hs : nm.size ≤ maxLen) (hl : t.length ≤ 65536) (hr : Row w Al nl l) (hn : nl ≤ 65536) (hb : ∀ s ∈ l, s.size ≤ maxLen) :
    Calls Tryz.prog 24 #[.pointer (some ⟨p, 0, none⟩), .agg #[.int .i64 3, .string nm, .string to, .slice Al nl cl]] w (DoesOp (putT t nm l) p B w) := by
  have hlb : Later w (w.alloc (.cells #[.int .i64 3, .string nm, .string to, .slice Al nl cl] 47)) := (Later.refl w).alloc _
  have HC := Lib.hid (put_any p B nm Al nl cl l t _ (ht.later hlb) (hr.later hlb) hs hl hn hb)
  have HLB := Lib.hid hlb
  clear hlb ht hs hr hb
  go_enter Tryz.func24, Tryz.ntmps24
  go_wp2_with fail
  refine HC.out.mono ?_
  rintro e w1 ⟨rfl, h1, h2⟩
  have H1 := Lib.hid h1; have H2 := Lib.hid h2; clear h1 h2
  go_wp2
  go_ret2
  exact does_of HLB.out H1.out H2.out

set_option maxRecDepth 100000 in
set_option maxHeartbeats 400000 in
theorem doesElse (k : Int) (h0 : k ≠ 0) (h1 : k ≠ 1) (h2 : k ≠ 2) (h3 : k ≠ 3) (h4 : k ≠ 4) (ht : TreeAt w p B t) :
    Calls Tryz.prog 24 #[.pointer (some ⟨p, 0, none⟩), .agg #[.int .i64 k, .string nm, .string to, .slice Al nl cl]] w (DoesOp (t, 0) p B w) := by
  have hlb : Later w (w.alloc (.cells #[.int .i64 k, .string nm, .string to, .slice Al nl cl] 47)) := (Later.refl w).alloc _
  have HT := Lib.hid (ht.later hlb)
  have HLB := Lib.hid hlb
  have b0 : (k == 0) = false := by simpa using h0
  have b1 : (k == 1) = false := by simpa using h1
  have b2 : (k == 2) = false := by simpa using h2
  have b3 : (k == 3) = false := by simpa using h3
  have b4 : (k == 4) = false := by simpa using h4
  clear hlb ht h0 h1 h2 h3 h4
  go_enter Tryz.func24, Tryz.ntmps24
  go_wp2
  go_ret2
  exact does_of (r := (t, 0)) HLB.out HT.out (Turned.refl B _)

theorem add_length (t : Tr) (n : ByteArray) : (addT t n).1.length ≤ t.length + 1 := by
  unfold addT
  split
  · simp
  · split
    · simp
    · exact with_length n []
theorem put_length (t : Tr) (n : ByteArray) (l : List ByteArray) : (putT t n l).1.length ≤ t.length + 1 := by
  unfold putT
  split
  · simp
  · split
    · simp
    · exact with_length n l

/-- The text 'none'. -/
def noneText : ByteArray := ⟨#[110, 111, 110, 101]⟩
theorem noneText_size : noneText.size ≤ maxLen := by simp [noneText, maxLen, ByteArray.size]
theorem add_names {t : Tr} (h : ∀ f ∈ t, f.1.size ≤ maxLen) : ∀ s ∈ namesT (addT t noneText).1, s.size ≤ maxLen := by
  intro s hs
  obtain ⟨f, hf, rfl⟩ := List.mem_map.1 hs
  unfold addT at hf
  split at hf
  · exact h f hf
  · split at hf
    · exact h f hf
    · rcases mem_with.1 hf with rfl | hf
      · exact noneText_size
      · exact h f hf.1

set_option maxRecDepth 100000 in
set_option maxHeartbeats 800000 in
theorem does4 (ht : TreeAt w p B t) (hl : t.length ≤ 1000) (hb : ∀ f ∈ t, f.2.length ≤ 65536) (hns : ∀ f ∈ t, f.1.size ≤ maxLen) :
    Calls Tryz.prog 24 #[.pointer (some ⟨p, 0, none⟩), .agg #[.int .i64 4, .string nm, .string to, .slice Al nl cl]] w (DoesOp (t, 0) p B w) := by
  have hlb : Later w (w.alloc (.cells #[.int .i64 4, .string nm, .string to, .slice Al nl cl] 47)) := (Later.refl w).alloc _
  have HC := Lib.hid (copy_any p B t _ (ht.later hlb) (by omega) hb)
  have HT := Lib.hid (ht.later hlb)
  have hBw := ht.files.lt
  have HLB := Lib.hid hlb
  have hlb0 : w.heap.size ≤ (w.alloc (.cells #[.int .i64 4, .string nm, .string to, .slice Al nl cl] 47)).heap.size := hlb.le
  clear hlb ht hb
  go_enter Tryz.func24, Tryz.ntmps24
  go_wp2_with fail
  refine HC.out.mono ?_
  rintro e w1 ⟨p1, B1, rfl, ht1, hp1, hB1, hl1⟩
  have HT1 := Lib.hid ht1; have HL1 := Lib.hid hl1
  have hne : B1 ≠ B := by omega
  have hp1' : w.heap.size ≤ p1 := Nat.le_trans hlb0 hp1
  have hB1' : w.heap.size ≤ B1 := Nat.le_trans hlb0 hB1
  clear ht1 hl1 hp1 hB1
  go_wp2_with fail
  refine (add_any p B noneText t w1 (HT.out.later HL1.out) (by simp [noneText, maxLen, ByteArray.size]) (by omega)).mono ?_
  rintro e w2 ⟨rfl, ht2, hg2⟩
  have hal := add_length t noneText
  have HG2 : Hid (Turned B w w2) := ((HLB.out.trans HL1.out).turned B).trans hg2
  have HC2 : Hid (TreeAt w2 p1 B1 t) := by
    obtain ⟨es, c, hm⟩ := (HT.out.later HL1.out).files.map
    exact HT1.out.other hg2 hne hm
  have hns2 := add_names hns
  have HNS : Hid (∀ s ∈ namesT (addT t noneText).1, s.size ≤ maxLen) := hns2
  clear hns2 hns
  generalize (addT t noneText).1 = t2 at ht2 hal HNS
  generalize (addT t noneText).2 = e2
  have HT2 := Lib.hid ht2
  clear ht2 hg2
  go_wp2_with fail
  refine (names_any p B t2 w2 HT2.out (by omega)).mono ?_
  rintro e w3 ⟨v3, rfl, hown3⟩
  obtain ⟨A3, c3, rfl, hcc3, hr3⟩ := hown3.row
  have hnl : (namesT t2).length ≤ 1001 := by simp only [namesT, List.length_map]; omega
  generalize namesT t2 = ns at hown3 hcc3 hr3 hnl HNS ⊢
  have HR3 := Lib.hid hr3
  have HG3 : Hid (Turned B w w3) := HG2.out.trans (hown3.later.turned B)
  have HC3 := Lib.hid (HC2.out.later hown3.later)
  have HT3 := Lib.hid (HT2.out.later hown3.later)
  clear hown3 hr3
  go_wp2
  go_loopg [52] (ns.length + 1) (fun g s52 wr => ∃ (k : Nat) (tt : Tr), k ≤ ns.length ∧ ns.length - k ≤ g ∧ s52 = .int .i64 k ∧ tt.length ≤ t2.length + k ∧ Hid (TreeAt wr p B tt) ∧ Hid (TreeAt wr p1 B1 t) ∧ Hid (Turned B w wr) ∧ Hid (Row wr A3 ns.length ns))
  case atStart => exact ⟨0, t2, Nat.zero_le _, by omega, rfl, Nat.le_refl _, HT3.out, HC3.out, HG3.out, HR3.out⟩
  case round =>
    obtain ⟨k, tt, hk, hg, rfl, htl, hct, hcc, hgt, hrw⟩ := hrel
    by_cases hlt : k < ns.length
    · obtain ⟨b1, o1, rfl, g1⟩ := hrw.out.get hlt
      have hpl : ∀ s ∈ [noneText], s.size ≤ maxLen := fun s hs => by simp at hs; subst hs; simp [noneText, maxLen, ByteArray.size]
      have hrn : Row (wr.alloc (.cells #[.string noneText] 9)) (some ⟨wr.heap.size, 0, none⟩) 1 [noneText] := Row.one wr noneText 9
      have hcell := hct.out.cell
      have hnm : (ns.getD k ByteArray.empty).size ≤ maxLen := by
        simp only [List.getD, List.getElem?_eq_getElem hlt, Option.getD_some]
        exact HNS.out _ (List.getElem_mem hlt)
      have HP := Lib.hid (put_any p B (ns.getD k ByteArray.empty) (some ⟨wr.heap.size, 0, none⟩) 1 1 [noneText] tt _ (hct.out.later ((Later.refl wr).alloc _)) hrn hnm (by omega) (by omega) hpl)
      generalize ns.getD k ByteArray.empty = nx at g1 HP hnm
      have hpl2 := put_length tt nx [noneText]
      clear hpl hrn hnm
      go_wp2_with fail
      refine HP.out.mono ?_
      rintro e w5 ⟨rfl, ht5, hg5⟩
      generalize (putT tt nx [noneText]).1 = t5 at ht5 hpl2
      generalize (putT tt nx [noneText]).2 = e5
      have HT5 := Lib.hid ht5; have HG5 := Lib.hid hg5
      clear ht5 hg5
      go_wp2
      go_roundg (ns.length - (k + 1))
      case measure => omega
      case rel =>
        have hla : Later wr (wr.alloc (.cells #[.string noneText] 9)) := (Later.refl wr).alloc _
        obtain ⟨es, c, hm⟩ := (hct.out.later hla).files.map
        exact ⟨k + 1, t5, by omega, Nat.le_refl _, by go_num, by omega, HT5.out, (hcc.out.later hla).other HG5.out hne hm, (hgt.out.trans (hla.turned B)).trans HG5.out, (hrw.out.later hla).turned HG5.out hm⟩
    · clear hct
      go_wp2
      go_ret2
      exact ⟨p1, B1, rfl, hcc.out, hgt.out, .inr ⟨hp1', hB1'⟩⟩

end

/-- A tree of few, small files. -/
structure Small (t : Tr) : Prop where
  many : t.length ≤ 1000
  names : ∀ f ∈ t, f.1.size ≤ maxLen
  lines : ∀ f ∈ t, f.2.length ≤ 65536

theorem does_any (p B : Nat) (t : Tr) (o : OpV) (Al : Option Addr) (nl cl : Nat) (w : World) (ht : TreeAt w p B t) (ho : OpOk w o Al nl) (hs : Small t) :
    Calls Tryz.prog 24 #[.pointer (some ⟨p, 0, none⟩), opVal o Al nl cl] w (DoesOp (doT t o) p B w) := by
  have hl := hs.many
  obtain ⟨kind, nm, to, l⟩ := o
  by_cases h0 : kind = 0
  · subst h0
    exact does0 p B t nm to Al nl cl w ht ho.name (by omega)
  by_cases h1 : kind = 1
  · subst h1
    exact does1 p B t nm to Al nl cl w ht ho.name hs.lines
  by_cases h2 : kind = 2
  · subst h2
    exact does2 p B t nm to Al nl cl w ht ho.name ho.to (by omega)
  by_cases h3 : kind = 3
  · subst h3
    exact does3 p B t nm to Al nl cl l w ht ho.name (by omega) ho.row ho.most ho.lines
  have e : doT t ⟨kind, nm, to, l⟩ = (t, 0) := by simp [doT, h0, h1, h2, h3]
  rw [e]
  by_cases h4 : kind = 4
  · subst h4
    exact does4 p B t nm to Al nl cl w ht hl hs.lines hs.names
  exact doesElse p B t nm to Al nl cl w kind h0 h1 h2 h3 h4 ht

end Go.Proofs.YtbhnbkcokhfopaaGreat

/-
  What the statements' own Made comes to, as a call: the tree behind calls, and the document's.
-/
namespace Go.Proofs.YtbhnbkcokhfopaaGreat
open Go.RowKit Go.Maps

/-- The tree behind calls. -/
def madeT (os : List OpC) : Tr := os.foldl (fun t o => (doT t o.v).1) []
theorem made_next {os : List OpC} {k : Nat} {o : OpC} (h : os[k]? = some o) : madeT (os.take (k + 1)) = (doT (madeT (os.take k)) o.v).1 := by
  obtain ⟨hk, rfl⟩ := List.getElem?_eq_some_iff.1 h
  unfold madeT
  rw [List.take_succ_eq_append_getElem hk, List.foldl_append]
  rfl

/-- How many lines and bytes a file has. -/
def heavy (l : List ByteArray) : Nat := l.length + (l.map ByteArray.size).sum

/-- At most k files, each with a name, lines that may be, and not too many. -/
structure Fits (k : Nat) (t : Tr) : Prop where
  many : t.length ≤ k
  each : ∀ f ∈ t, namedB f.1 = true ∧ allB f.2 = true ∧ heavy f.2 ≤ 8000

theorem named_size {s : ByteArray} (h : namedB s = true) : 1 ≤ s.size ∧ s.size ≤ 24 := by
  simp only [namedB, Bool.and_eq_true, decide_eq_true_eq] at h
  exact h.1

theorem Fits.small {k : Nat} {t : Tr} (h : Fits k t) (hk : k ≤ 1000) : Small t :=
  ⟨Nat.le_trans h.many hk, fun f hf => by have := named_size (h.each f hf).1; simp only [maxLen]; omega, fun f hf => by have := (h.each f hf).2.2; unfold heavy at this; omega⟩
theorem Fits.nil : Fits 0 [] := ⟨Nat.le_refl _, fun f hf => by cases hf⟩
theorem Fits.mono {j k : Nat} {t : Tr} (h : Fits j t) (hk : j ≤ k) : Fits k t := ⟨Nat.le_trans h.many hk, h.each⟩
theorem Fits.with_ {k : Nat} {t : Tr} (h : Fits k t) {n : ByteArray} {l : List ByteArray} (h1 : namedB n = true) (h2 : allB l = true) (h3 : heavy l ≤ 8000) : Fits (k + 1) (withT t n l) :=
  ⟨Nat.le_trans (with_length n l) (Nat.succ_le_succ h.many), fun f hf => by
    rcases mem_with.1 hf with rfl | hf
    · exact ⟨h1, h2, h3⟩
    · exact h.each f hf.1⟩
theorem Fits.without {k : Nat} {t : Tr} (h : Fits k t) (n : ByteArray) : Fits k (withoutT t n) := ⟨Nat.le_trans (without_length t n) h.many, fun f hf => h.each f (mem_without.1 hf).1⟩
theorem allB_nil : allB [] = true := by simp [allB]
theorem Fits.add {k : Nat} {t : Tr} (h : Fits k t) (n : ByteArray) : Fits (k + 1) (addT t n).1 := by
  unfold addT
  split
  · exact h.mono (Nat.le_succ _)
  · rename_i h1
    split
    · exact h.mono (Nat.le_succ _)
    · exact h.with_ (by simpa using h1) allB_nil (by simp [heavy])
theorem Fits.remove {k : Nat} {t : Tr} (h : Fits k t) (n : ByteArray) : Fits (k + 1) (removeT t n).1 := by
  unfold removeT
  split
  · exact h.mono (Nat.le_succ _)
  · split
    · exact h.mono (Nat.le_succ _)
    · exact (h.without n).mono (Nat.le_succ _)
theorem Fits.move {k : Nat} {t : Tr} (h : Fits k t) (a b : ByteArray) : Fits (k + 1) (moveT t a b).1 := by
  unfold moveT
  split
  · exact h.mono (Nat.le_succ _)
  · rename_i l hl
    split
    · exact h.mono (Nat.le_succ _)
    · rename_i h1
      split
      · exact h.mono (Nat.le_succ _)
      · have := h.each _ (getT_mem hl)
        exact (h.without a).with_ (by simpa using h1) this.2.1 this.2.2
theorem hasT_named {k : Nat} {t : Tr} (h : Fits k t) {n : ByteArray} (hn : hasT t n = true) : namedB n = true := by
  obtain ⟨f, hf, rfl⟩ := hasT_iff.1 hn
  exact (h.each f hf).1
theorem Fits.put {k : Nat} {t : Tr} (h : Fits k t) (n : ByteArray) {l : List ByteArray} (hl : heavy l ≤ 8000) : Fits (k + 1) (putT t n l).1 := by
  unfold putT
  split
  · exact h.mono (Nat.le_succ _)
  · rename_i h1
    split
    · exact h.mono (Nat.le_succ _)
    · rename_i h2
      exact h.with_ (hasT_named h (by simpa using h1)) (by simpa using h2) hl
theorem Fits.step {k : Nat} {t : Tr} (h : Fits k t) {o : OpV} (ho : weight o ≤ 8000) : Fits (k + 1) (doT t o).1 := by
  have hl : heavy o.l ≤ 8000 := by unfold weight at ho; unfold heavy; omega
  unfold doT
  split
  · exact h.add _
  · split
    · exact h.remove _
    · split
      · exact h.move _ _
      · split
        · exact h.put _ hl
        · exact h.mono (Nat.le_succ _)

theorem made_fits {w : World} {A : Option Addr} {n : Nat} {os : List OpC} (h : Script w A n os) (hW : weightL os ≤ 8000) : Fits n (madeT os) := by
  have key : ∀ k, k ≤ os.length → Fits k (madeT (os.take k)) := fun k => by
    induction k with
    | zero => intro _; simpa [madeT] using Fits.nil
    | succ k ih =>
      intro hk
      have hz : os[k]? = some os[k] := List.getElem?_eq_getElem (by omega)
      rw [made_next hz]
      exact (ih (by omega)).step (Nat.le_trans (weight_mem (List.mem_of_getElem? hz)) hW)
  have := key os.length (Nat.le_refl _)
  rwa [List.take_length, h.len] at this

/-- A tree, and the document's. -/
def GivesMade (t : Tr) (w : World) (e : Ending) (w' : World) : Prop :=
  ∃ p B v, e = .returned (.tuple #[.pointer (some ⟨p, 0, none⟩), v]) ∧ TreeAt w' p B t ∧ RefAt w' v t ∧ w.heap.size ≤ p ∧ w.heap.size ≤ B ∧ Later w w'

theorem Script.op {w : World} {A : Option Addr} {n : Nat} {os : List OpC} (h : Script w A n os) (hW : weightL os ≤ 8000) {o : OpC} (ho : o ∈ os) : OpOk w o.v o.A o.n := by
  have h1 := weight_mem ho
  have h2 := (h.lines o ho).1
  have h3 := h2.len
  unfold weight at h1
  refine ⟨h2, by omega, by simp only [maxLen]; omega, by simp only [maxLen]; omega, fun s hs => ?_⟩
  have := sizes_mem hs
  simp only [maxLen]; omega

set_option maxRecDepth 100000 in
set_option maxHeartbeats 800000 in
theorem made_any (A : Option Addr) (n c : Nat) (os : List OpC) (w : World) (hx : Script w A n os) (hn : n ≤ 80) (hW : weightL os ≤ 8000) :
    Calls Tryz.prog 6 #[.slice A n c] w (GivesMade (madeT os) w) := by
  have HX := Lib.hid hx; clear hx
  go_enter Tryz.func6, Tryz.ntmps6
  go_wp2_with fail
  refine (new_any w).mono ?_
  rintro e w1 ⟨p1, B1, rfl, ht1, hp1, hB1, hl1⟩
  have HT1 := Lib.hid ht1; have HL1 := Lib.hid hl1; clear ht1 hl1
  go_wp2
  go_loopg [4, 5, 15] (n + 1) (fun g s4 s5 s15 wr => ∃ (k p B : Nat) (v : Value) (t : Tr), k ≤ n ∧ n - k ≤ g ∧ s15 = .int .i64 k ∧ s4 = .pointer (some ⟨p, 0, none⟩) ∧ s5 = v ∧ w.heap.size ≤ p ∧ w.heap.size ≤ B ∧ Hid (t = madeT (os.take k)) ∧ Hid (Fits k t) ∧ Hid (TreeAt wr p B t) ∧ Hid (RefAt wr v t) ∧ Hid (Later w wr))
  case atStart => exact ⟨0, p1, B1, _, [], Nat.zero_le _, by omega, rfl, rfl, rfl, hp1, hB1, rfl, Fits.nil, HT1.out, RefAt.nil _, HL1.out⟩
  case round =>
    obtain ⟨k, p, B, v, t, hk, hg, rfl, rfl, hv, hp, hB, hte, hfit, htr, href, hwr⟩ := hrel
    obtain rfl := hv.symm
    clear hv
    by_cases hlt : k < n
    · obtain ⟨b, o, x, rfl, hz, g0, g1, g2, g3⟩ := (HX.out.later hwr.out).get hlt
      have hmem := List.mem_of_getElem? hz
      have hok := (HX.out.later hwr.out).op hW hmem
      have hwx := weight_mem hmem
      have hnext := made_next hz
      rw [← hte.out] at hnext
      have HNX := Lib.hid hnext
      have hstep := hfit.out.step (o := x.v) (by omega)
      have HST := Lib.hid hstep
      have hsm := hfit.out.small (by omega)
      have HSM := Lib.hid hsm
      have hlb : Later wr (wr.alloc (.cells #[.int .i64 x.v.kind, .string x.v.name, .string x.v.to, .slice x.A x.n x.c] 47)) := (Later.refl wr).alloc _
      have HD := Lib.hid (refDo_any v t x.v x.A x.n x.c _ (href.out.later hlb) (hok.later hlb) (by have := hsm.many; omega) hsm.lines)
      have HE := Lib.hid (fun (w2 : World) (h2 : Later (wr.alloc (.cells #[.int .i64 x.v.kind, .string x.v.name, .string x.v.to, .slice x.A x.n x.c] 47)) w2) => does_any p B t x.v x.A x.n x.c w2 (htr.out.later (hlb.trans h2)) (hok.later (hlb.trans h2)) hsm)
      have HLB := Lib.hid hlb
      have HBC : Hid ((wr.alloc (.cells #[.int .i64 x.v.kind, .string x.v.name, .string x.v.to, .slice x.A x.n x.c] 47)).cell? ⟨wr.heap.size, 0, none⟩ = some (.int .i64 x.v.kind) ∧ (wr.alloc (.cells #[.int .i64 x.v.kind, .string x.v.name, .string x.v.to, .slice x.A x.n x.c] 47)).cell? ⟨wr.heap.size, 1, none⟩ = some (.string x.v.name) ∧ (wr.alloc (.cells #[.int .i64 x.v.kind, .string x.v.name, .string x.v.to, .slice x.A x.n x.c] 47)).cell? ⟨wr.heap.size, 2, none⟩ = some (.string x.v.to) ∧ (wr.alloc (.cells #[.int .i64 x.v.kind, .string x.v.name, .string x.v.to, .slice x.A x.n x.c] 47)).cell? ⟨wr.heap.size, 3, none⟩ = some (.slice x.A x.n x.c)) := ⟨by simp, by simp, by simp, by simp⟩
      unfold opVal at HD HE
      generalize hr : doT t x.v = r at HD HE HNX HST
      obtain ⟨t2, en⟩ := r
      have hne : (en != en) = false := by simp
      clear hok hmem hwx hnext hz hlb hr hsm hstep
      go_wp2_with fail
      refine HD.out.mono ?_
      rintro e w2 ⟨v2, rfl, hr2, hl2⟩
      have HR2 := Lib.hid hr2; have HL2 := Lib.hid hl2
      have c0 := hl2.cell HBC.out.1
      have c1 := hl2.cell HBC.out.2.1
      have c2 := hl2.cell HBC.out.2.2.1
      have c3 := hl2.cell HBC.out.2.2.2
      clear hr2 hl2
      go_wp2_with fail
      refine (HE.out w2 HL2.out).mono ?_
      rintro e w3 ⟨p3, B3, rfl, ht3, hg3, hpb⟩
      have HT3 := Lib.hid ht3; have HG3 := Lib.hid hg3
      have hle2 : w.heap.size ≤ w2.heap.size := (hwr.out.trans (HLB.out.trans HL2.out)).le
      have hp3 : w.heap.size ≤ p3 := by rcases hpb with ⟨rfl, rfl⟩ | ⟨h, _⟩ <;> omega
      have hB3 : w.heap.size ≤ B3 := by rcases hpb with ⟨rfl, rfl⟩ | ⟨_, h⟩ <;> omega
      clear ht3 hg3 hpb
      go_wp2
      go_roundg (n - (k + 1))
      case measure => omega
      case rel =>
        obtain ⟨es, mc, hm⟩ := (htr.out.later (HLB.out.trans HL2.out)).files.map
        exact ⟨k + 1, p3, B3, v2, t2, by omega, Nat.le_refl _, by go_num, rfl, rfl, hp3, hB3, HNX.out.symm, HST.out, HT3.out, HR2.out.turned HG3.out hm, (hwr.out.trans (HLB.out.trans HL2.out)).turn HG3.out hB⟩
    · have e : os.take k = os := List.take_of_length_le (by rw [HX.out.len]; omega)
      rw [e] at hte
      clear e
      go_wp2
      go_ret2
      refine ⟨p, B, v, rfl, ?_, ?_, hp, hB, hwr.out⟩
      · rw [← hte.out]; exact htr.out
      · rw [← hte.out]; exact href.out

end Go.Proofs.YtbhnbkcokhfopaaGreat

/-
  What prim's deeds comes to, as a call: a new map from kinds to functions.
-/
namespace Go.Proofs.YtbhnbkcokhfopaaGreat
open Go.RowKit Go.Maps

/-- How a function reads: as itself. -/
def rawF (v : Value) : Option (DataW Value × List MemPlace) := some (.held v, [])

def deedV (f : FuncId) : Value := .func (.func f) #[] #[]
def deedsD : DataW Value := ((((DataW.map []).put (.int .i64 0) (.held (deedV 73))).put (.int .i64 1) (.held (deedV 74))).put (.int .i64 2) (.held (deedV 75))).put (.int .i64 3) (.held (deedV 76))

/-- Block B is the map of deeds. -/
def Deeds (w : World) (B : Nat) : Prop := w.ownsMap Tryz.prog 3 rawF B 4 deedsD

theorem keyed3 : Keyed Tryz.prog 3 := int_keyed Tryz.underlying3
theorem key3 {a : Int} (h : (Lit.int .i64 a).wf = true) : keyOf Tryz.prog 3 (.int .i64 a) = some (.int .i64 a) := keyOf_int_mk Tryz.underlying3 h

set_option maxHeartbeats 400000 in
theorem deeds_any (w : World) : Calls Tryz.prog 59 #[] w fun e w' => ∃ B, e = .returned (.map (some B)) ∧ Deeds w' B ∧ Later w w' := by
  have hmm := @run_makeMap Tryz.prog
  have o1 := World.ownsMap_made (H := Value) w Tryz.prog 3 rawF
  obtain ⟨w2, r2, o2, t2⟩ := o1.store keyed3 Tryz.underlying106 (by decide) (key3 (a := 0) (by decide)) (show rawF (deedV 73) = _ from rfl)
  obtain ⟨w3, r3, o3, t3⟩ := o2.store keyed3 Tryz.underlying106 (by decide) (key3 (a := 1) (by decide)) (show rawF (deedV 74) = _ from rfl)
  obtain ⟨w4, r4, o4, t4⟩ := o3.store keyed3 Tryz.underlying106 (by decide) (key3 (a := 2) (by decide)) (show rawF (deedV 75) = _ from rfl)
  obtain ⟨w5, r5, o5, t5⟩ := o4.store keyed3 Tryz.underlying106 (by decide) (key3 (a := 3) (by decide)) (show rawF (deedV 76) = _ from rfl)
  have hl : Later w w5 := ((((Later.refl w).alloc _).turn (Turned.of_map t2) (Nat.le_refl _)).turn (Turned.of_map t3) (Nat.le_refl _)).turn (Turned.of_map t4) (Nat.le_refl _) |>.turn (Turned.of_map t5) (Nat.le_refl _)
  have O5 := Lib.hid o5; have HL := Lib.hid hl
  unfold deedV at r2 r3 r4 r5
  clear o1 o2 o3 o4 o5 t2 t3 t4 t5 hl
  go_enter Tryz.func59, Tryz.ntmps59
  go_wp2
  go_ret
  exact ⟨_, rfl, O5.out, HL.out⟩

/-- What is found there. -/
def deedAt (k : Int) : FuncId := if k = 0 then 73 else if k = 1 then 74 else if k = 2 then 75 else 76
theorem Deeds.look {w : World} {B : Nat} (h : Deeds w B) {k : Int} (hk : k = 0 ∨ k = 1 ∨ k = 2 ∨ k = 3) :
    (Instr.lookup 106 (.map (some B)) (.int .i64 k) false).run Tryz.prog w = .ok (.func (.func (deedAt k)) #[] #[]) w := by
  have hz : (zeroValue 105).run Tryz.prog w = .ok .nilFunc w := by kernel_rfl
  have hw : (Lit.int .i64 k).wf = true := by rcases hk with rfl | rfl | rfl | rfl <;> decide
  obtain ⟨v, ps, hrun, hv⟩ := World.ownsMap.lookup h keyed3 Tryz.underlying106 hz (show rawF .nilFunc = _ from rfl) (key3 hw)
  have e : deedsD.atKey (.int .i64 k) (.held .nilFunc) = .held (deedV (deedAt k)) := by rcases hk with rfl | rfl | rfl | rfl <;> rfl
  rw [e] at hv
  simp only [rawF, Option.some.injEq, Prod.mk.injEq, DataW.held.injEq] at hv
  rw [hrun, hv.1]
  rfl
theorem Deeds.later {w w' : World} {B : Nat} (h : Deeds w B) (hl : Later w w') : Deeds w' B := h.kept (row := none) ⟨hl.os, hl.tape, hl.output, hl.size, fun i hi _ => hl.block i hi⟩ (by simp)

end Go.Proofs.YtbhnbkcokhfopaaGreat

/-
  What line.piece comes to, as a call.
-/
namespace Go.Proofs.YtbhnbkcokhfopaaGreat
open Go.RowKit

set_option maxHeartbeats 400000 in
theorem piece_any (A : Option Addr) (n c : Nat) (ss : List ByteArray) (w : World) (h : Row w A n ss) (hc : n ≤ c) (f t : Int) (h0 : 0 ≤ f) (h1 : f ≤ t) (h2 : t ≤ n) :
    Calls Tryz.prog 95 #[.slice A n c, .int .i64 f, .int .i64 t] w (IsRow ((ss.drop f.toNat).take (t.toNat - f.toNat)) w) := by
  have hr := h.piece (f := f.toNat) (t := t.toNat) (m := t.toNat) (by omega) (by omega) (Nat.le_refl _)
  generalize (ss.drop f.toNat).take (t.toNat - f.toNat) = out at hr ⊢
  clear h
  have h3 : t ≤ c := by omega
  by_cases hft : t = f
  · subst hft
    have hl : out = [] := List.eq_nil_of_length_eq_zero (by rw [hr.len]; omega)
    subst hl
    clear hr
    go_enter Tryz.func95, Tryz.ntmps95
    go_wp2
    go_ret
    exact ⟨A, rfl, Row.none, rfl⟩
  · rw [if_neg (by omega)] at hr
    have HR := Lib.hid hr; clear hr
    have h4 : ¬ t.toNat = f.toNat := by omega
    go_enter Tryz.func95, Tryz.ntmps95
    go_wp2
    go_ret
    have hr := HR.out
    rw [Nat.mul_one] at hr
    exact ⟨_, by rw [hr.len]; rfl, by rw [hr.len]; exact hr, rfl⟩

end Go.Proofs.YtbhnbkcokhfopaaGreat

/-
  What line.stands comes to, as a call.
-/
namespace Go.Proofs.YtbhnbkcokhfopaaGreat
open Go.RowKit

set_option maxHeartbeats 400000 in
theorem stands_any (A B : Option Addr) (n c m d : Nat) (l part : List ByteArray) (k : Int) (w : World) (hx : Row w A n l) (hy : Row w B m part) (hc : n ≤ c) (hn : n ≤ 65536) (hm : m ≤ 65536)
    (hk0 : -9223372036854775808 ≤ k) (hk1 : k ≤ 9223372036854775807) :
    Calls Tryz.prog 94 #[.slice A n c, .int .i64 k, .slice B m d] w fun e w' => e = .returned (.bool (standsB l k part)) ∧ ∃ q, w' = w.drewN q := by
  by_cases h0 : k < 0
  · have e : standsB l k part = false := by unfold standsB; rw [decide_eq_false (by omega)]; rfl
    have E := Lib.hid e; clear e hx hy
    go_enter Tryz.func94, Tryz.ntmps94
    go_wp2
    go_ret
    exact ⟨by rw [E.out]; rfl, 0, rfl⟩
  · by_cases h1 : (n : Int) - k < m
    · have e : standsB l k part = false := by unfold standsB; rw [decide_eq_false (by rw [hx.len, hy.len]; omega)]; rfl
      have E := Lib.hid e; clear e hx hy
      go_enter Tryz.func94, Tryz.ntmps94
      go_wp2
      go_ret
      exact ⟨by rw [E.out]; rfl, 0, rfl⟩
    · have e : standsB l k part = sameB ((l.drop k.toNat).take part.length) part := by unfold standsB; rw [decide_eq_true (by rw [hx.len, hy.len]; omega)]; rfl
      have el : (k + m).toNat - k.toNat = part.length := by rw [hy.len]; omega
      rw [← el] at e
      have E := Lib.hid e; clear e el
      have HX := Lib.hid hx; clear hx
      have HY := Lib.hid hy; clear hy
      go_enter Tryz.func94, Tryz.ntmps94
      go_wp2_with fail
      refine (piece_any A n c l w HX.out hc k (k + m) (by omega) (by omega) (by omega)).mono ?_
      rintro e w' ⟨A', rfl, hr, rfl⟩
      generalize hout : (l.drop k.toNat).take ((k + m).toNat - k.toNat) = out at hr E
      have HO := Lib.hid hout; clear hout
      have HR := Lib.hid hr; clear hr
      go_wp2_with fail
      refine (same_any A' B _ _ m d out part _ HR.out HY.out ?_ ?_).mono ?_
      · rw [← HO.out, List.length_take, List.length_drop, HX.out.len]; omega
      · omega
      rintro e w' ⟨rfl, q, rfl⟩
      go_wp2
      go_ret
      exact ⟨by rw [E.out]; rfl, q, rfl⟩

end Go.Proofs.YtbhnbkcokhfopaaGreat

/-
  What line.Splice comes to, as a call.
-/
namespace Go.Proofs.YtbhnbkcokhfopaaGreat
open Go.RowKit

set_option maxHeartbeats 400000 in
theorem splice_no (A B C : Option Addr) (n c m d p q : Nat) (l old : List ByteArray) (k : Int) (w : World) (hx : Row w A n l) (hy : Row w B m old) (hc : n ≤ c) (hn : n ≤ 65536) (hm : m ≤ 65536)
    (hk0 : -9223372036854775808 ≤ k) (hk1 : k ≤ 9223372036854775807) (hs : standsB l k old = false) :
    Calls Tryz.prog 81 #[.slice A n c, .int .i64 k, .slice B m d, .slice C p q] w fun e w' => e = .returned (.tuple #[.slice none 0 0, .bool false]) ∧ ∃ q, w' = w.drewN q := by
  have H := stands_any A B n c m d l old k w hx hy hc hn hm hk0 hk1
  rw [hs] at H
  have HS := Lib.hid H; clear H hx hy hs
  go_enter Tryz.func81, Tryz.ntmps81
  go_wp2_with (go_at_call 94; refine HS.out.mono ?_; rintro e w' ⟨rfl, q, rfl⟩)
  go_ret2
  exact ⟨rfl, _, rfl⟩

set_option maxHeartbeats 400000 in
theorem splice_yes (A B C : Option Addr) (n c m d p q : Nat) (l old with_ : List ByteArray) (k : Nat) (w : World) (hx : Row w A n l) (hy : Row w B m old) (hz : Row w C p with_) (hc : n ≤ c) (hn : n ≤ 65536) (hm : m ≤ 65536) (hp : p ≤ 65536)
    (hs : standsB l k old = true) :
    Calls Tryz.prog 81 #[.slice A n c, .int .i64 k, .slice B m d, .slice C p q] w (GivesRow2 (spliced l k m with_) w) := by
  have hkm := standsB_le hs
  rw [hx.len, hy.len] at hkm
  have H := stands_any A B n c m d l old k w hx hy hc hn hm (by omega) (by omega)
  rw [hs] at H
  have HS := Lib.hid H; clear H hs
  have HX := Lib.hid hx; clear hx
  have HZ := Lib.hid hz; clear hz
  obtain ⟨i0, hi, hz0, hz1, hz2⟩ := info_parts Tryz.textInfo
  go_enter Tryz.func81, Tryz.ntmps81
  go_wp2_with (first
    | (go_at_call 94; refine HS.out.mono ?_; rintro e w' ⟨rfl, q1, rfl⟩)
    | (at_make; refine wpList_make_row (w0 := w) rfl _ _ 45 rfl i0 Tryz.underlying45 hi hz0 hz1 hz2 ((Later.refl w).drewN q1) .i64 .i64 _ rfl rfl (by omega) (by omega) ?_; intro w1 v1 hown1))
  refine (piece_any A n c l w1 (HX.out.later hown1.later) hc 0 k (by omega) (by omega) (by omega)).mono ?_
  rintro e w' ⟨A1, rfl, hr1, rfl⟩
  have e1 : (l.drop (0 : Int).toNat).take ((k : Int).toNat - (0 : Int).toNat) = l.take k := by simp
  rw [e1] at hr1 ⊢
  clear e1
  have l1 : (l.take k).length ≤ 65536 := by rw [List.length_take, HX.out.len]; omega
  generalize ht1 : l.take k = s1 at hr1 l1 ⊢
  have T1 := Lib.hid ht1; clear ht1
  have HR1 := Lib.hid hr1; clear hr1
  have HO1 := Lib.hid hown1; clear hown1
  go_wp2_with (first
    | (at_builtin; refine wpList_append_row rfl _ _ 45 rfl i0 Tryz.underlying45 hi hz0 hz1 hz2 HO1.out rfl _ _ _ _ rfl HR1.out (by simp; omega) ?_; intro v2 w2 hown2 hg2; have HO2 := Lib.hid hown2; clear hown2 hg2)
    | (at_builtin; refine wpList_append_row rfl _ _ 45 rfl i0 Tryz.underlying45 hi hz0 hz1 hz2 HO2.out rfl _ _ _ _ rfl (HZ.out.later HO2.out.later) (by simp; omega) ?_; intro v3 w3 hown3 hg3; have HO3 := Lib.hid hown3; clear hown3 hg3))
  refine (piece_any A n c l w3 (HX.out.later HO3.out.later) hc (k + m) n (by omega) (by omega) (by omega)).mono ?_
  rintro e w' ⟨A4, rfl, hr4, rfl⟩
  have e4 : (l.drop ((k : Int) + m).toNat).take ((n : Int).toNat - ((k : Int) + m).toNat) = l.drop (k + m) := by
    rw [show ((k : Int) + m).toNat = k + m from by omega, Int.toNat_natCast]
    exact List.take_of_length_le (by rw [List.length_drop, HX.out.len]; omega)
  rw [e4] at hr4 ⊢
  clear e4
  have l4 : (l.drop (k + m)).length ≤ 65536 := by rw [List.length_drop, HX.out.len]; omega
  generalize ht4 : l.drop (k + m) = s4 at hr4 l4 ⊢
  have T4 := Lib.hid ht4; clear ht4
  have HR4 := Lib.hid hr4; clear hr4
  have hzl : with_.length = p := HZ.out.len
  have ZL : with_.length ≤ 65536 := by omega
  clear hzl
  go_wp2_with (at_builtin; refine wpList_append_row rfl _ _ 45 rfl i0 Tryz.underlying45 hi hz0 hz1 hz2 HO3.out rfl _ _ _ _ rfl HR4.out (by simp; omega) ?_; intro v5 w5 hown5 hg5; have HO5 := Lib.hid hown5; clear hown5 hg5)
  go_ret2
  have ef : spliced l k m with_ = ([] ++ s1 ++ with_) ++ s4 := by rw [spliced, T1.out, T4.out, List.nil_append]
  rw [ef]
  obtain ⟨A6, c6, hv, hcc, hr6⟩ := HO5.out.row
  exact ⟨A6, c6, by rw [← hv]; rfl, hcc, hr6, HO5.out.later⟩

end Go.Proofs.YtbhnbkcokhfopaaGreat

/-
  What prim's deeds do to a tree, as calls.
-/
namespace Go.Proofs.YtbhnbkcokhfopaaGreat
open Go.RowKit Go.Maps

/-- Whether it fits; the tree behind it; nothing else has turned. -/
def Deed (r : Tr × Int) (p B : Nat) (w : World) (e : Ending) (w' : World) : Prop := e = .returned (.bool (r.2 == 0)) ∧ TreeAt w' p B r.1 ∧ Turned B w w'

set_option maxRecDepth 100000 in
set_option maxHeartbeats 400000 in
theorem deedAdd_any (x : PrC) (p B : Nat) (t : Tr) (w : World) (ht : TreeAt w p B t) (hx : PrOk w x) (hl : t.length ≤ 65536) :
    Calls Tryz.prog 74 #[prV x, .pointer (some ⟨p, 0, none⟩)] w (Deed (addT t x.v.name) p B w) := by
  obtain ⟨⟨kd, nm, to, pl, old, new⟩, A, n, c, C, m, d⟩ := x
  have hlb : Later w (w.alloc (.cells #[.int .i64 kd, .string nm, .string to, .int .i64 pl, .slice A n c, .slice C m d] 53)) := (Later.refl w).alloc _
  have HC := Lib.hid (add_any p B nm t _ (ht.later hlb) hx.name hl)
  have HLB := Lib.hid hlb
  unfold prV
  dsimp only at HC ⊢
  clear hlb ht hx
  go_enter Tryz.func74, Tryz.ntmps74
  go_wp2_with fail
  refine HC.out.mono ?_
  rintro e w1 ⟨rfl, h1, h2⟩
  have H1 := Lib.hid h1; have H2 := Lib.hid h2; clear h1 h2
  go_wp2
  go_ret
  exact ⟨rfl, H1.out, (HLB.out.turned B).trans H2.out⟩

set_option maxRecDepth 100000 in
set_option maxHeartbeats 400000 in
theorem deedRemove_any (x : PrC) (p B : Nat) (t : Tr) (w : World) (ht : TreeAt w p B t) (hx : PrOk w x) (hb : ∀ f ∈ t, f.2.length ≤ 65536) :
    Calls Tryz.prog 75 #[prV x, .pointer (some ⟨p, 0, none⟩)] w (Deed (removeT t x.v.name) p B w) := by
  obtain ⟨⟨kd, nm, to, pl, old, new⟩, A, n, c, C, m, d⟩ := x
  have hlb : Later w (w.alloc (.cells #[.int .i64 kd, .string nm, .string to, .int .i64 pl, .slice A n c, .slice C m d] 53)) := (Later.refl w).alloc _
  have HC := Lib.hid (remove_any p B nm t _ (ht.later hlb) hx.name hb)
  have HLB := Lib.hid hlb
  unfold prV
  dsimp only at HC ⊢
  clear hlb ht hx
  go_enter Tryz.func75, Tryz.ntmps75
  go_wp2_with fail
  refine HC.out.mono ?_
  rintro e w1 ⟨rfl, h1, h2⟩
  have H1 := Lib.hid h1; have H2 := Lib.hid h2; clear h1 h2
  go_wp2
  go_ret
  exact ⟨rfl, H1.out, (HLB.out.turned B).trans H2.out⟩

set_option maxRecDepth 100000 in
set_option maxHeartbeats 400000 in
theorem deedMove_any (x : PrC) (p B : Nat) (t : Tr) (w : World) (ht : TreeAt w p B t) (hx : PrOk w x) (hl : t.length ≤ 65536) :
    Calls Tryz.prog 76 #[prV x, .pointer (some ⟨p, 0, none⟩)] w (Deed (moveT t x.v.name x.v.to) p B w) := by
  obtain ⟨⟨kd, nm, to, pl, old, new⟩, A, n, c, C, m, d⟩ := x
  have hlb : Later w (w.alloc (.cells #[.int .i64 kd, .string nm, .string to, .int .i64 pl, .slice A n c, .slice C m d] 53)) := (Later.refl w).alloc _
  have HC := Lib.hid (move_any p B nm to t _ (ht.later hlb) hx.name hx.to hl)
  have HLB := Lib.hid hlb
  unfold prV
  dsimp only at HC ⊢
  clear hlb ht hx
  go_enter Tryz.func76, Tryz.ntmps76
  go_wp2_with fail
  refine HC.out.mono ?_
  rintro e w1 ⟨rfl, h1, h2⟩
  have H1 := Lib.hid h1; have H2 := Lib.hid h2; clear h1 h2
  go_wp2
  go_ret
  exact ⟨rfl, H1.out, (HLB.out.turned B).trans H2.out⟩

set_option maxRecDepth 100000 in
set_option maxHeartbeats 800000 in
theorem deedSplice_any (x : PrC) (p B k h : Nat) (t : Tr) (w : World) (ht : TreeAt w p B t) (hx : PrOk w x) (hr : rightP x.v = true) (hs : Sized k h t) (hk : k ≤ 60000) (hh : h + x.m ≤ 65536) :
    Calls Tryz.prog 73 #[prV x, .pointer (some ⟨p, 0, none⟩)] w (Deed (hunkT t x.v) p B w) := by
  have hput := fun l hg i q => put_spliced (p := x.v) (l := l) hs hr hg i q
  have hall := (right_parts hr).2.2.2.1
  obtain ⟨⟨kd, nm, to, pl, old, new⟩, A, n, c, C, m, d⟩ := x
  have hlb : Later w (w.alloc (.cells #[.int .i64 kd, .string nm, .string to, .int .i64 pl, .slice A n c, .slice C m d] 53)) := (Later.refl w).alloc _
  have hbl : ∀ f ∈ t, f.2.length ≤ 65536 := fun f hf => by have := (hs.each f hf).2.2; omega
  have HG := Lib.hid (get_any p B nm t _ (ht.later hlb) hx.name hbl)
  have HT := Lib.hid ht; have HX := Lib.hid hx
  have c1 : (w.alloc (.cells #[.int .i64 kd, .string nm, .string to, .int .i64 pl, .slice A n c, .slice C m d] 53)).cell? ⟨w.heap.size, 1, none⟩ = some (.string nm) := by simp
  have c3 : (w.alloc (.cells #[.int .i64 kd, .string nm, .string to, .int .i64 pl, .slice A n c, .slice C m d] 53)).cell? ⟨w.heap.size, 3, none⟩ = some (.int .i64 pl) := by simp
  have c4 : (w.alloc (.cells #[.int .i64 kd, .string nm, .string to, .int .i64 pl, .slice A n c, .slice C m d] 53)).cell? ⟨w.heap.size, 4, none⟩ = some (.slice A n c) := by simp
  have c5 : (w.alloc (.cells #[.int .i64 kd, .string nm, .string to, .int .i64 pl, .slice A n c, .slice C m d] 53)).cell? ⟨w.heap.size, 5, none⟩ = some (.slice C m d) := by simp
  have CB := Lib.hid (And.intro c1 (And.intro c3 (And.intro c4 c5)))
  have hn1 := hx.omost; have hm1 := hx.nmost; have hlo := hx.lo; have hhi := hx.hi
  have hol := hx.old.len; have hnl := hx.new.len
  have HLB := Lib.hid hlb
  unfold prV
  dsimp only at hput hall hh hn1 hm1 hlo hhi hol hnl ⊢
  clear hlb ht hx hr c1 c3 c4 c5
  have HP := Lib.hid hput; have HA := Lib.hid hall; have HS := Lib.hid hs; have HBL := Lib.hid hbl
  clear hput hall hs hbl
  cases hg : getT t nm with
  | none =>
    have E : Hid (hunkT t ⟨kd, nm, to, pl, old, new⟩ = (t, 31)) := by simp [Hid, hunkT, hg]
    rw [E.out]
    rw [hg] at HG
    clear hg E
    go_enter Tryz.func73, Tryz.ntmps73
    go_wp2_with fail
    refine HG.out.mono ?_
    rintro e w1 ⟨v1, rfl, hown⟩
    simp only [Option.getD_none, Option.isSome_none] at hown ⊢
    have HL1 := Lib.hid (HLB.out.trans hown.later); clear hown
    go_wp2
    go_ret
    exact ⟨rfl, HT.out.later HL1.out, HL1.out.turned B⟩
  | some l =>
    rw [hg] at HG
    have hll : l.length ≤ 65536 := by have := (HS.out.get hg).2.2; omega
    have hlh : l.length + new.length ≤ 65536 := by have := (HS.out.get hg).2.2; omega
    have hla := (HS.out.get hg).2.1
    have HPG := Lib.hid (fun i q => HP.out l hg i q)
    cases hst : standsB l pl old
    · have E : Hid (hunkT t ⟨kd, nm, to, pl, old, new⟩ = (t, 31)) := by simp [Hid, hunkT, hg, hst]
      rw [E.out]
      clear hg E
      go_enter Tryz.func73, Tryz.ntmps73
      go_wp2_with fail
      refine HG.out.mono ?_
      rintro e w1 ⟨v1, rfl, hown⟩
      simp only [Option.getD_some, Option.isSome_some] at hown ⊢
      obtain ⟨A1, cc1, hv1, hcc1, hr1⟩ := hown.row
      subst hv1
      have hl1 := hown.later
      have b1 := hl1.cell CB.out.1; have b3 := hl1.cell CB.out.2.1; have b4 := hl1.cell CB.out.2.2.1; have b5 := hl1.cell CB.out.2.2.2
      have HSP := Lib.hid (splice_no A1 A C l.length cc1 n c m d l old pl w1 hr1 (HX.out.old.later (HLB.out.trans hl1)) hcc1 hll hn1 hlo hhi hst)
      have HL1 := Lib.hid (HLB.out.trans hl1)
      clear hown hr1 hl1 hst
      go_wp2_with fail
      refine HSP.out.mono ?_
      rintro e w2 ⟨rfl, q2, rfl⟩
      go_wp2
      go_ret
      exact ⟨rfl, HT.out.later (HL1.out.drewN q2), (HL1.out.drewN q2).turned B⟩
    · have hle := standsB_le hst
      obtain ⟨i, rfl⟩ := Int.eq_ofNat_of_zero_le hle.1
      have E : Hid (hunkT t ⟨kd, nm, to, i, old, new⟩ = (withT t nm (spliced l i n new), 0)) := by simp [Hid, hunkT, hg, hst, hol]
      rw [E.out]
      have hsl := spliced_le l new i n
      have hsa := allB_spliced hla HA.out i n
      have hsz : ∀ s ∈ spliced l i n new, s.size ≤ maxLen := fun s hs => by
        have := allB_mem.1 hsa s hs
        simp only [rightB, Bool.and_eq_true, decide_eq_true_eq] at this
        simp only [maxLen]; omega
      have HSA := Lib.hid hsz
      have HPT := Lib.hid (HPG.out i n)
      have HLE : Hid ((spliced l i n new).length ≤ 65536) := by simp only [Hid]; omega
      clear hg E hle hsa hsz hsl hla
      go_enter Tryz.func73, Tryz.ntmps73
      go_wp2_with fail
      refine HG.out.mono ?_
      rintro e w1 ⟨v1, rfl, hown⟩
      simp only [Option.getD_some, Option.isSome_some] at hown ⊢
      obtain ⟨A1, cc1, hv1, hcc1, hr1⟩ := hown.row
      subst hv1
      have hl1 := hown.later
      have b1 := hl1.cell CB.out.1; have b3 := hl1.cell CB.out.2.1; have b4 := hl1.cell CB.out.2.2.1; have b5 := hl1.cell CB.out.2.2.2
      have HSP := Lib.hid (splice_yes A1 A C l.length cc1 n c m d l old new i w1 hr1 (HX.out.old.later (HLB.out.trans hl1)) (HX.out.new.later (HLB.out.trans hl1)) hcc1 hll hn1 hm1 hst)
      have HL1 := Lib.hid hl1
      clear hown hr1 hl1 hst
      go_wp2_with fail
      refine HSP.out.mono ?_
      rintro e w2 ⟨A2, cc2, rfl, hcc2, hr2, hl2⟩
      have e1 := hl2.cell b1
      have HR2 := Lib.hid hr2
      have HL2 := Lib.hid (HLB.out.trans (HL1.out.trans hl2))
      clear hr2 hl2 b1 b3 b4 b5
      have hpa := put_any p B nm A2 (spliced l i n new).length cc2 (spliced l i n new) t w2 (HT.out.later HL2.out) HR2.out HX.out.name (by have := HS.out.many; omega) HLE.out HSA.out
      rw [HPT.out] at hpa
      have HPA := Lib.hid hpa; clear hpa
      generalize spliced l i n new = sp at *
      go_wp2_with fail
      refine HPA.out.mono ?_
      rintro e w3 ⟨rfl, h3, h4⟩
      have H3 := Lib.hid h3; have H4 := Lib.hid h4; clear h3 h4
      go_wp2
      go_ret
      exact ⟨rfl, H3.out, (HL2.out.turned B).trans H4.out⟩

end Go.Proofs.YtbhnbkcokhfopaaGreat
