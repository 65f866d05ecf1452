import Derived.Test.YtejkgkgjgojlkaaGreatDoorChecked
import Derived.Test.YtejkgkgjgojlkaaGreatDoorPk23
import Derived.Test.YtejkgkgjgojlkaaGreatDoorPk3
import Derived.Deep.LoopGhost
import Derived.Deep.RegionHeld3
import Derived.Lib.Hide
import Derived.Test.YtejkgkgjgojlkaaGreatDoorPk6
import Derived.Test.YtejkgkgjgojlkaaGreatDoorPk8
import Derived.Test.YtejkgkgjgojlkaaGreatDoorPk14

/-
  What tree's Copy comes to, as a call.
-/
namespace Go.Proofs.YtejkgkgjgojlkaaGreatDoor
open Go.RowKit Go.Maps

set_option maxRecDepth 100000 in
set_option maxHeartbeats 800000 in
theorem copy_any (p B : Nat) (t : Tr) (w : World) (ht : TreeAt w p B t) (hl : t.length ≤ 65536) (hb : ∀ f ∈ t, f.2.length ≤ 65536) :
    Calls Tryz.prog 34 #[.pointer (some ⟨p, 0, none⟩)] w (NewTree t w) := by
  obtain ⟨hc, z, hz, rfl⟩ := ht
  rw [mapT_length] at hl
  have HZ := Lib.hid hz
  have hBlt := hz.lt
  have HB := Lib.hid hb; clear hz hb
  go_enter Tryz.func34, Tryz.ntmps34
  go_wp2_with fail
  refine (new_any w).mono ?_
  rintro e w1 ⟨p1, B1, rfl, ht1, hp1, hB1, hl1⟩
  have hc1 := hl1.cell hc
  have hcell1 := ht1.cell
  have hne1 := ht1.ne
  have hp1lt := ht1.lt
  have HT1 := Lib.hid ht1; have HL1 := Lib.hid hl1; clear ht1
  have hle1 := hl1.le
  clear hl1
  go_wp2_with (at_range; refine wpList_range_files rfl _ rfl B z rfl (HZ.out.later HL1.out) ?_; intro w2 hrg2 hl2; have HR2 := Lib.hid hrg2; have HL2 := Lib.hid hl2; clear hrg2 hl2)
  go_frame
  go_loopg [] (z.length + 1) (fun g wr => ∃ (left : Lit → Bool) (cnt : Nat), cnt ≤ g ∧ Later w wr ∧ Hid (TreeAt wr p1 B1 (seen left (mapT (·.2) z))) ∧ Hid (Ranging wr B w1.heap.size z left cnt))
  case atStart =>
    refine ⟨_, _, Nat.le_succ _, HL1.out.trans HL2.out, ?_, HR2.out⟩
    have := HT1.out.later HL2.out
    rw [seen_map, seen_start]
    exact this
  case round =>
    obtain ⟨left, cnt, hcg, hwr, hct, hrg⟩ := hrel
    have hcellr := hct.out.cell
    have hle := hwr.le
    have HW := Lib.hid hwr; clear hwr
    go_wp2_with (at_next; refine wpList_next_files rfl _ rfl B w1.heap.size z left cnt rfl hrg.out ?_ ?_)
    · intro hdone
      have E : Hid (seen left (mapT (·.2) z) = mapT (·.2) z) := by rw [seen_end hdone]; rfl
      rw [E.out] at hct
      clear hdone E
      go_wp2
      go_ret
      exact ⟨p1, B1, rfl, hct.out, hp1, hB1, HW.out⟩
    · intro nm A m c l w' cnt' hmem hnm hmc hrow hlk hrg' hlt hturn hen
      have hmem2 : (nm, l) ∈ mapT (·.2) z := by simp only [mapT, List.mem_map]; exact ⟨_, hmem, rfl⟩
      have hm : m ≤ 65536 := by rw [← hrow.len]; exact HB.out _ hmem2
      have HS := Lib.hid (seen_step (left := left) (rising_map.2 hrg'.rise) hmem2)
      have hct' : TreeAt w' p1 B1 (seen left (mapT (·.2) z)) := by
        obtain ⟨h1, z1, h2, h3⟩ := hct.out
        have hit : B1 ≠ w1.heap.size := by have := HT1.out.files.lt; omega
        exact ⟨hturn.cell h1 (by show p1 ≠ w1.heap.size; omega), z1, ⟨h2.own.kept hturn (by simpa using hit), h2.rise, fun f hf => by
          obtain ⟨A2, m2, c2, e2, h4, h5⟩ := h2.reads f hf
          exact ⟨A2, m2, c2, e2, h4, h5.1, fun hn => by
            obtain ⟨b, o, e, hcc⟩ := h5.2 hn
            exact ⟨b, o, e, fun j s hs => hturn.cell (hcc j s hs) (iter_cell hrg.out.at_ (hcc j s hs))⟩⟩⟩, h3⟩
      have hcell' := hct'.cell
      have HCT := Lib.hid hct'
      have HRW := Lib.hid hrow
      have HRG := Lib.hid hrg'; have HT := Lib.hid hturn
      have hlw : Later w w' := HW.out.turn hturn hle1
      have HLW := Lib.hid hlw
      have HNM := Lib.hid hnm
      have hzl : Hid ((seen left z).length < maxLen) := by have := seen_length left z; simp only [Hid, maxLen]; omega
      clear hct' hrow hmem hlk hrg' hturn hmem2 hlw hct hrg hnm
      go_wp2_with fail
      go_region_held3 (fun w' => w'.cell? ⟨p1, 0, none⟩ = some (.map (some B1))) (go_keep)
        (first
          | (go_at_call 72; refine (clone_any A m c l _ (HRW.out.later (by first | exact Later.refl _ | exact (Later.refl _).drew | exact (Later.refl _).drewN _)) hm).mono ?_; rintro e w3 ⟨v3, rfl, hown⟩; have HL3 : Hid (Later w' w3) := Later.trans (by first | exact Later.refl _ | exact (Later.refl _).drew | exact (Later.refl _).drewN _) hown.later; have hc3 := HL3.out.cell hcell'; obtain ⟨A3, c3, rfl, hcc, hr3⟩ := hown.row; have HR := Lib.hid hr3; have H3 := HCT.out.later HL3.out; obtain ⟨-, z3, hz3, e3⟩ := H3; have hzl3 : z3.length < maxLen := (by have h9 := hzl.out; rw [← mapT_length (fun x : Held => x.2) z3, e3, seen_map, mapT_length]; exact h9); obtain ⟨w4, hrun4, hown4, hturn4⟩ := hz3.own.store keyed9 Tryz.underlying114 hzl3 (key9 HNM.out) (raw_mk A3 l.length c3); have HO4 := Lib.hid (hz3.put hown4 hturn4 ⟨A3, _, c3, rfl, hcc, hr3⟩); have HU4 := Lib.hid (Turned.of_map hturn4); have hc4 := HU4.out.cell hc3 hne1; have HM3 := Lib.hid hz3.map; have HE3 := Lib.hid e3; clear hown hr3 hown4 hturn4 hz3 hzl3 e3))
      go_wp2
      go_roundg cnt'
      case measure => omega
      case rel =>
        obtain ⟨mes, mcl, hmm⟩ := HM3.out
        refine ⟨but left nm, cnt', Nat.le_refl _, (HLW.out.trans HL3.out).turn HU4.out hB1, ?_, (HRG.out.later HL3.out).other HU4.out (by omega) hmm⟩
        refine (HCT.out.later HL3.out).to HU4.out ⟨_, HO4.out, ?_⟩
        rw [HS.out, ← HE3.out]
        exact (withT_map (fun x : Held => x.2) z3 nm (_, l)).symm

end Go.Proofs.YtejkgkgjgojlkaaGreatDoor

/-
  What the statements' own 'does' comes to, as a call.
-/
namespace Go.Proofs.YtejkgkgjgojlkaaGreatDoor
open Go.RowKit Go.Maps

/-- A tree, this one or a new one, and an error's number; nothing has turned but the tree. -/
def DoesOp (r : Tr × Int) (p B : Nat) (w : World) (e : Ending) (w' : World) : Prop :=
  ∃ p' B', e = .returned (.tuple #[.pointer (some ⟨p', 0, none⟩), .int .i64 r.2]) ∧ TreeAt w' p' B' r.1 ∧ Turned B w w' ∧ ((p' = p ∧ B' = B) ∨ (w.heap.size ≤ p' ∧ w.heap.size ≤ B'))

theorem does_of {r : Tr × Int} {p B : Nat} {w w1 w' : World} (hl : Later w w1) (h : TreeAt w' p B r.1) (ht : Turned B w1 w') : DoesOp r p B w (.returned (.tuple #[.pointer (some ⟨p, 0, none⟩), .int .i64 r.2])) w' :=
  ⟨p, B, rfl, h, (hl.turned B).trans ht, .inl ⟨rfl, rfl⟩⟩

section
variable (p B : Nat) (t : Tr) (nm to : ByteArray) (Al : Option Addr) (nl cl : Nat) (l : List ByteArray) (w : World)

set_option maxRecDepth 100000 in
set_option maxHeartbeats 400000 in
theorem does0 (ht : TreeAt w p B t) (hs : nm.size ≤ maxLen) (hl : t.length ≤ 65536) :
    Calls Tryz.prog 63 #[.pointer (some ⟨p, 0, none⟩), .agg #[.int .i64 0, .string nm, .string to, .slice Al nl cl]] w (DoesOp (addT t nm) p B w) := by
  have hlb : Later w (w.alloc (.cells #[.int .i64 0, .string nm, .string to, .slice Al nl cl] 99)) := (Later.refl w).alloc _
  have HC := Lib.hid (add_any p B nm t _ (ht.later hlb) hs hl)
  have HLB := Lib.hid hlb
  clear hlb ht hs
  go_enter Tryz.func63, Tryz.ntmps63
  go_wp2_with fail
  refine HC.out.mono ?_
  rintro e w1 ⟨rfl, h1, h2⟩
  have H1 := Lib.hid h1; have H2 := Lib.hid h2; clear h1 h2
  go_wp2
  go_ret2
  exact does_of HLB.out H1.out H2.out

set_option maxRecDepth 100000 in
set_option maxHeartbeats 400000 in
theorem does1 (ht : TreeAt w p B t) (hs : nm.size ≤ maxLen) (hb : ∀ f ∈ t, f.2.length ≤ 65536) :
    Calls Tryz.prog 63 #[.pointer (some ⟨p, 0, none⟩), .agg #[.int .i64 1, .string nm, .string to, .slice Al nl cl]] w (DoesOp (removeT t nm) p B w) := by
  have hlb : Later w (w.alloc (.cells #[.int .i64 1, .string nm, .string to, .slice Al nl cl] 99)) := (Later.refl w).alloc _
  have HC := Lib.hid (remove_any p B nm t _ (ht.later hlb) hs hb)
  have HLB := Lib.hid hlb
  clear hlb ht hs hb
  go_enter Tryz.func63, Tryz.ntmps63
  go_wp2_with fail
  refine HC.out.mono ?_
  rintro e w1 ⟨rfl, h1, h2⟩
  have H1 := Lib.hid h1; have H2 := Lib.hid h2; clear h1 h2
  go_wp2
  go_ret2
  exact does_of HLB.out H1.out H2.out

set_option maxRecDepth 100000 in
set_option maxHeartbeats 400000 in
theorem does2 (ht : TreeAt w p B t) (hs : nm.size ≤ maxLen) (hs2 : to.size ≤ maxLen) (hl : t.length ≤ 65536) :
    Calls Tryz.prog 63 #[.pointer (some ⟨p, 0, none⟩), .agg #[.int .i64 2, .string nm, .string to, .slice Al nl cl]] w (DoesOp (moveT t nm to) p B w) := by
  have hlb : Later w (w.alloc (.cells #[.int .i64 2, .string nm, .string to, .slice Al nl cl] 99)) := (Later.refl w).alloc _
  have HC := Lib.hid (move_any p B nm to t _ (ht.later hlb) hs hs2 hl)
  have HLB := Lib.hid hlb
  clear hlb ht hs hs2
  go_enter Tryz.func63, Tryz.ntmps63
  go_wp2_with fail
  refine HC.out.mono ?_
  rintro e w1 ⟨rfl, h1, h2⟩
  have H1 := Lib.hid h1; have H2 := Lib.hid h2; clear h1 h2
  go_wp2
  go_ret2
  exact does_of HLB.out H1.out H2.out

set_option maxRecDepth 100000 in
set_option maxHeartbeats 400000 in
theorem does3 (ht : TreeAt w p B t) (hs : nm.size ≤ maxLen) (hl : t.length ≤ 65536) (hr : Row w Al nl l) (hn : nl ≤ 65536) (hb : ∀ s ∈ l, s.size ≤ maxLen) :
    Calls Tryz.prog 63 #[.pointer (some ⟨p, 0, none⟩), .agg #[.int .i64 3, .string nm, .string to, .slice Al nl cl]] w (DoesOp (putT t nm l) p B w) := by
  have hlb : Later w (w.alloc (.cells #[.int .i64 3, .string nm, .string to, .slice Al nl cl] 99)) := (Later.refl w).alloc _
  have HC := Lib.hid (put_any p B nm Al nl cl l t _ (ht.later hlb) (hr.later hlb) hs hl hn hb)
  have HLB := Lib.hid hlb
  clear hlb ht hs hr hb
  go_enter Tryz.func63, Tryz.ntmps63
  go_wp2_with fail
  refine HC.out.mono ?_
  rintro e w1 ⟨rfl, h1, h2⟩
  have H1 := Lib.hid h1; have H2 := Lib.hid h2; clear h1 h2
  go_wp2
  go_ret2
  exact does_of HLB.out H1.out H2.out

set_option maxRecDepth 100000 in
set_option maxHeartbeats 400000 in
theorem doesElse (k : Int) (h0 : k ≠ 0) (h1 : k ≠ 1) (h2 : k ≠ 2) (h3 : k ≠ 3) (h4 : k ≠ 4) (ht : TreeAt w p B t) :
    Calls Tryz.prog 63 #[.pointer (some ⟨p, 0, none⟩), .agg #[.int .i64 k, .string nm, .string to, .slice Al nl cl]] w (DoesOp (t, 0) p B w) := by
  have hlb : Later w (w.alloc (.cells #[.int .i64 k, .string nm, .string to, .slice Al nl cl] 99)) := (Later.refl w).alloc _
  have HT := Lib.hid (ht.later hlb)
  have HLB := Lib.hid hlb
  have b0 : (k == 0) = false := by simpa using h0
  have b1 : (k == 1) = false := by simpa using h1
  have b2 : (k == 2) = false := by simpa using h2
  have b3 : (k == 3) = false := by simpa using h3
  have b4 : (k == 4) = false := by simpa using h4
  clear hlb ht h0 h1 h2 h3 h4
  go_enter Tryz.func63, Tryz.ntmps63
  go_wp2
  go_ret2
  exact does_of (r := (t, 0)) HLB.out HT.out (Turned.refl B _)

theorem add_length (t : Tr) (n : ByteArray) : (addT t n).1.length ≤ t.length + 1 := by
  unfold addT
  split
  · simp
  · split
    · simp
    · exact with_length n []
theorem put_length (t : Tr) (n : ByteArray) (l : List ByteArray) : (putT t n l).1.length ≤ t.length + 1 := by
  unfold putT
  split
  · simp
  · split
    · simp
    · exact with_length n l

/-- The text 'none'. -/
def noneText : ByteArray := ⟨#[110, 111, 110, 101]⟩
theorem noneText_size : noneText.size ≤ maxLen := by simp [noneText, maxLen, ByteArray.size]
theorem add_names {t : Tr} (h : ∀ f ∈ t, f.1.size ≤ maxLen) : ∀ s ∈ namesT (addT t noneText).1, s.size ≤ maxLen := by
  intro s hs
  obtain ⟨f, hf, rfl⟩ := List.mem_map.1 hs
  unfold addT at hf
  split at hf
  · exact h f hf
  · split at hf
    · exact h f hf
    · rcases mem_with.1 hf with rfl | hf
      · exact noneText_size
      · exact h f hf.1

set_option maxRecDepth 100000 in
set_option maxHeartbeats 800000 in
theorem does4 (ht : TreeAt w p B t) (hl : t.length ≤ 1000) (hb : ∀ f ∈ t, f.2.length ≤ 65536) (hns : ∀ f ∈ t, f.1.size ≤ maxLen) :
    Calls Tryz.prog 63 #[.pointer (some ⟨p, 0, none⟩), .agg #[.int .i64 4, .string nm, .string to, .slice Al nl cl]] w (DoesOp (t, 0) p B w) := by
  have hlb : Later w (w.alloc (.cells #[.int .i64 4, .string nm, .string to, .slice Al nl cl] 99)) := (Later.refl w).alloc _
  have HC := Lib.hid (copy_any p B t _ (ht.later hlb) (by omega) hb)
  have HT := Lib.hid (ht.later hlb)
  have hBw := ht.files.lt
  have HLB := Lib.hid hlb
  have hlb0 : w.heap.size ≤ (w.alloc (.cells #[.int .i64 4, .string nm, .string to, .slice Al nl cl] 99)).heap.size := hlb.le
  clear hlb ht hb
  go_enter Tryz.func63, Tryz.ntmps63
  go_wp2_with fail
  refine HC.out.mono ?_
  rintro e w1 ⟨p1, B1, rfl, ht1, hp1, hB1, hl1⟩
  have HT1 := Lib.hid ht1; have HL1 := Lib.hid hl1
  have hne : B1 ≠ B := by omega
  have hp1' : w.heap.size ≤ p1 := Nat.le_trans hlb0 hp1
  have hB1' : w.heap.size ≤ B1 := Nat.le_trans hlb0 hB1
  clear ht1 hl1 hp1 hB1
  go_wp2_with fail
  refine (add_any p B noneText t w1 (HT.out.later HL1.out) (by simp [noneText, maxLen, ByteArray.size]) (by omega)).mono ?_
  rintro e w2 ⟨rfl, ht2, hg2⟩
  have hal := add_length t noneText
  have HG2 : Hid (Turned B w w2) := ((HLB.out.trans HL1.out).turned B).trans hg2
  have HC2 : Hid (TreeAt w2 p1 B1 t) := by
    obtain ⟨es, c, hm⟩ := (HT.out.later HL1.out).files.map
    exact HT1.out.other hg2 hne hm
  have hns2 := add_names hns
  have HNS : Hid (∀ s ∈ namesT (addT t noneText).1, s.size ≤ maxLen) := hns2
  clear hns2 hns
  generalize (addT t noneText).1 = t2 at ht2 hal HNS
  generalize (addT t noneText).2 = e2
  have HT2 := Lib.hid ht2
  clear ht2 hg2
  go_wp2_with fail
  refine (names_any p B t2 w2 HT2.out (by omega)).mono ?_
  rintro e w3 ⟨v3, rfl, hown3⟩
  obtain ⟨A3, c3, rfl, hcc3, hr3⟩ := hown3.row
  have hnl : (namesT t2).length ≤ 1001 := by simp only [namesT, List.length_map]; omega
  generalize namesT t2 = ns at hown3 hcc3 hr3 hnl HNS ⊢
  have HR3 := Lib.hid hr3
  have HG3 : Hid (Turned B w w3) := HG2.out.trans (hown3.later.turned B)
  have HC3 := Lib.hid (HC2.out.later hown3.later)
  have HT3 := Lib.hid (HT2.out.later hown3.later)
  clear hown3 hr3
  go_wp2
  go_loopg [52] (ns.length + 1) (fun g s52 wr => ∃ (k : Nat) (tt : Tr), k ≤ ns.length ∧ ns.length - k ≤ g ∧ s52 = .int .i64 k ∧ tt.length ≤ t2.length + k ∧ Hid (TreeAt wr p B tt) ∧ Hid (TreeAt wr p1 B1 t) ∧ Hid (Turned B w wr) ∧ Hid (Row wr A3 ns.length ns))
  case atStart => exact ⟨0, t2, Nat.zero_le _, by omega, rfl, Nat.le_refl _, HT3.out, HC3.out, HG3.out, HR3.out⟩
  case round =>
    obtain ⟨k, tt, hk, hg, rfl, htl, hct, hcc, hgt, hrw⟩ := hrel
    by_cases hlt : k < ns.length
    · obtain ⟨b1, o1, rfl, g1⟩ := hrw.out.get hlt
      have hpl : ∀ s ∈ [noneText], s.size ≤ maxLen := fun s hs => by simp at hs; subst hs; simp [noneText, maxLen, ByteArray.size]
      have hrn : Row (wr.alloc (.cells #[.string noneText] 9)) (some ⟨wr.heap.size, 0, none⟩) 1 [noneText] := Row.one wr noneText 9
      have hcell := hct.out.cell
      have hnm : (ns.getD k ByteArray.empty).size ≤ maxLen := by
        simp only [List.getD, List.getElem?_eq_getElem hlt, Option.getD_some]
        exact HNS.out _ (List.getElem_mem hlt)
      have HP := Lib.hid (put_any p B (ns.getD k ByteArray.empty) (some ⟨wr.heap.size, 0, none⟩) 1 1 [noneText] tt _ (hct.out.later ((Later.refl wr).alloc _)) hrn hnm (by omega) (by omega) hpl)
      generalize ns.getD k ByteArray.empty = nx at g1 HP hnm
      have hpl2 := put_length tt nx [noneText]
      clear hpl hrn hnm
      go_wp2_with fail
      refine HP.out.mono ?_
      rintro e w5 ⟨rfl, ht5, hg5⟩
      generalize (putT tt nx [noneText]).1 = t5 at ht5 hpl2
      generalize (putT tt nx [noneText]).2 = e5
      have HT5 := Lib.hid ht5; have HG5 := Lib.hid hg5
      clear ht5 hg5
      go_wp2
      go_roundg (ns.length - (k + 1))
      case measure => omega
      case rel =>
        have hla : Later wr (wr.alloc (.cells #[.string noneText] 9)) := (Later.refl wr).alloc _
        obtain ⟨es, c, hm⟩ := (hct.out.later hla).files.map
        exact ⟨k + 1, t5, by omega, Nat.le_refl _, by go_num, by omega, HT5.out, (hcc.out.later hla).other HG5.out hne hm, (hgt.out.trans (hla.turned B)).trans HG5.out, (hrw.out.later hla).turned HG5.out hm⟩
    · clear hct
      go_wp2
      go_ret2
      exact ⟨p1, B1, rfl, hcc.out, hgt.out, .inr ⟨hp1', hB1'⟩⟩

end

/-- A tree of few, small files. -/
structure Small (t : Tr) : Prop where
  many : t.length ≤ 1000
  names : ∀ f ∈ t, f.1.size ≤ maxLen
  lines : ∀ f ∈ t, f.2.length ≤ 65536

theorem does_any (p B : Nat) (t : Tr) (o : OpV) (Al : Option Addr) (nl cl : Nat) (w : World) (ht : TreeAt w p B t) (ho : OpOk w o Al nl) (hs : Small t) :
    Calls Tryz.prog 63 #[.pointer (some ⟨p, 0, none⟩), opVal o Al nl cl] w (DoesOp (doT t o) p B w) := by
  have hl := hs.many
  obtain ⟨kind, nm, to, l⟩ := o
  by_cases h0 : kind = 0
  · subst h0
    exact does0 p B t nm to Al nl cl w ht ho.name (by omega)
  by_cases h1 : kind = 1
  · subst h1
    exact does1 p B t nm to Al nl cl w ht ho.name hs.lines
  by_cases h2 : kind = 2
  · subst h2
    exact does2 p B t nm to Al nl cl w ht ho.name ho.to (by omega)
  by_cases h3 : kind = 3
  · subst h3
    exact does3 p B t nm to Al nl cl l w ht ho.name (by omega) ho.row ho.most ho.lines
  have e : doT t ⟨kind, nm, to, l⟩ = (t, 0) := by simp [doT, h0, h1, h2, h3]
  rw [e]
  by_cases h4 : kind = 4
  · subst h4
    exact does4 p B t nm to Al nl cl w ht hl hs.lines hs.names
  exact doesElse p B t nm to Al nl cl w kind h0 h1 h2 h3 h4 ht

end Go.Proofs.YtejkgkgjgojlkaaGreatDoor

/-
  What the statements' own Made comes to, as a call: the tree behind calls, and the document's.
-/
namespace Go.Proofs.YtejkgkgjgojlkaaGreatDoor
open Go.RowKit Go.Maps

/-- The tree behind calls. -/
def madeT (os : List OpC) : Tr := os.foldl (fun t o => (doT t o.v).1) []
theorem made_next {os : List OpC} {k : Nat} {o : OpC} (h : os[k]? = some o) : madeT (os.take (k + 1)) = (doT (madeT (os.take k)) o.v).1 := by
  obtain ⟨hk, rfl⟩ := List.getElem?_eq_some_iff.1 h
  unfold madeT
  rw [List.take_succ_eq_append_getElem hk, List.foldl_append]
  rfl

/-- How many lines and bytes a file has. -/
def heavy (l : List ByteArray) : Nat := l.length + (l.map ByteArray.size).sum

/-- At most k files, each with a name, lines that may be, and not too many. -/
structure Fits (k : Nat) (t : Tr) : Prop where
  many : t.length ≤ k
  each : ∀ f ∈ t, namedB f.1 = true ∧ allB f.2 = true ∧ heavy f.2 ≤ 8000

theorem named_size {s : ByteArray} (h : namedB s = true) : 1 ≤ s.size ∧ s.size ≤ 24 := by
  simp only [namedB, Bool.and_eq_true, decide_eq_true_eq] at h
  exact h.1

theorem Fits.small {k : Nat} {t : Tr} (h : Fits k t) (hk : k ≤ 1000) : Small t :=
  ⟨Nat.le_trans h.many hk, fun f hf => by have := named_size (h.each f hf).1; simp only [maxLen]; omega, fun f hf => by have := (h.each f hf).2.2; unfold heavy at this; omega⟩
theorem Fits.nil : Fits 0 [] := ⟨Nat.le_refl _, fun f hf => by cases hf⟩
theorem Fits.mono {j k : Nat} {t : Tr} (h : Fits j t) (hk : j ≤ k) : Fits k t := ⟨Nat.le_trans h.many hk, h.each⟩
theorem Fits.with_ {k : Nat} {t : Tr} (h : Fits k t) {n : ByteArray} {l : List ByteArray} (h1 : namedB n = true) (h2 : allB l = true) (h3 : heavy l ≤ 8000) : Fits (k + 1) (withT t n l) :=
  ⟨Nat.le_trans (with_length n l) (Nat.succ_le_succ h.many), fun f hf => by
    rcases mem_with.1 hf with rfl | hf
    · exact ⟨h1, h2, h3⟩
    · exact h.each f hf.1⟩
theorem Fits.without {k : Nat} {t : Tr} (h : Fits k t) (n : ByteArray) : Fits k (withoutT t n) := ⟨Nat.le_trans (without_length t n) h.many, fun f hf => h.each f (mem_without.1 hf).1⟩
theorem allB_nil : allB [] = true := by simp [allB]
theorem Fits.add {k : Nat} {t : Tr} (h : Fits k t) (n : ByteArray) : Fits (k + 1) (addT t n).1 := by
  unfold addT
  split
  · exact h.mono (Nat.le_succ _)
  · rename_i h1
    split
    · exact h.mono (Nat.le_succ _)
    · exact h.with_ (by simpa using h1) allB_nil (by simp [heavy])
theorem Fits.remove {k : Nat} {t : Tr} (h : Fits k t) (n : ByteArray) : Fits (k + 1) (removeT t n).1 := by
  unfold removeT
  split
  · exact h.mono (Nat.le_succ _)
  · split
    · exact h.mono (Nat.le_succ _)
    · exact (h.without n).mono (Nat.le_succ _)
theorem Fits.move {k : Nat} {t : Tr} (h : Fits k t) (a b : ByteArray) : Fits (k + 1) (moveT t a b).1 := by
  unfold moveT
  split
  · exact h.mono (Nat.le_succ _)
  · rename_i l hl
    split
    · exact h.mono (Nat.le_succ _)
    · rename_i h1
      split
      · exact h.mono (Nat.le_succ _)
      · have := h.each _ (getT_mem hl)
        exact (h.without a).with_ (by simpa using h1) this.2.1 this.2.2
theorem hasT_named {k : Nat} {t : Tr} (h : Fits k t) {n : ByteArray} (hn : hasT t n = true) : namedB n = true := by
  obtain ⟨f, hf, rfl⟩ := hasT_iff.1 hn
  exact (h.each f hf).1
theorem Fits.put {k : Nat} {t : Tr} (h : Fits k t) (n : ByteArray) {l : List ByteArray} (hl : heavy l ≤ 8000) : Fits (k + 1) (putT t n l).1 := by
  unfold putT
  split
  · exact h.mono (Nat.le_succ _)
  · rename_i h1
    split
    · exact h.mono (Nat.le_succ _)
    · rename_i h2
      exact h.with_ (hasT_named h (by simpa using h1)) (by simpa using h2) hl
theorem Fits.step {k : Nat} {t : Tr} (h : Fits k t) {o : OpV} (ho : weight o ≤ 8000) : Fits (k + 1) (doT t o).1 := by
  have hl : heavy o.l ≤ 8000 := by unfold weight at ho; unfold heavy; omega
  unfold doT
  split
  · exact h.add _
  · split
    · exact h.remove _
    · split
      · exact h.move _ _
      · split
        · exact h.put _ hl
        · exact h.mono (Nat.le_succ _)

theorem made_fits {w : World} {A : Option Addr} {n : Nat} {os : List OpC} (h : Script w A n os) (hW : weightL os ≤ 8000) : Fits n (madeT os) := by
  have key : ∀ k, k ≤ os.length → Fits k (madeT (os.take k)) := fun k => by
    induction k with
    | zero => intro _; simpa [madeT] using Fits.nil
    | succ k ih =>
      intro hk
      have hz : os[k]? = some os[k] := List.getElem?_eq_getElem (by omega)
      rw [made_next hz]
      exact (ih (by omega)).step (Nat.le_trans (weight_mem (List.mem_of_getElem? hz)) hW)
  have := key os.length (Nat.le_refl _)
  rwa [List.take_length, h.len] at this

/-- A tree, and the document's. -/
def GivesMade (t : Tr) (w : World) (e : Ending) (w' : World) : Prop :=
  ∃ p B v, e = .returned (.tuple #[.pointer (some ⟨p, 0, none⟩), v]) ∧ TreeAt w' p B t ∧ RefAt w' v t ∧ w.heap.size ≤ p ∧ w.heap.size ≤ B ∧ Later w w'

theorem Script.op {w : World} {A : Option Addr} {n : Nat} {os : List OpC} (h : Script w A n os) (hW : weightL os ≤ 8000) {o : OpC} (ho : o ∈ os) : OpOk w o.v o.A o.n := by
  have h1 := weight_mem ho
  have h2 := (h.lines o ho).1
  have h3 := h2.len
  unfold weight at h1
  refine ⟨h2, by omega, by simp only [maxLen]; omega, by simp only [maxLen]; omega, fun s hs => ?_⟩
  have := sizes_mem hs
  simp only [maxLen]; omega

set_option maxRecDepth 100000 in
set_option maxHeartbeats 800000 in
theorem made_any (A : Option Addr) (n c : Nat) (os : List OpC) (w : World) (hx : Script w A n os) (hn : n ≤ 80) (hW : weightL os ≤ 8000) :
    Calls Tryz.prog 27 #[.slice A n c] w (GivesMade (madeT os) w) := by
  have HX := Lib.hid hx; clear hx
  go_enter Tryz.func27, Tryz.ntmps27
  go_wp2_with fail
  refine (new_any w).mono ?_
  rintro e w1 ⟨p1, B1, rfl, ht1, hp1, hB1, hl1⟩
  have HT1 := Lib.hid ht1; have HL1 := Lib.hid hl1; clear ht1 hl1
  go_wp2
  go_loopg [4, 5, 15] (n + 1) (fun g s4 s5 s15 wr => ∃ (k p B : Nat) (v : Value) (t : Tr), k ≤ n ∧ n - k ≤ g ∧ s15 = .int .i64 k ∧ s4 = .pointer (some ⟨p, 0, none⟩) ∧ s5 = v ∧ w.heap.size ≤ p ∧ w.heap.size ≤ B ∧ Hid (t = madeT (os.take k)) ∧ Hid (Fits k t) ∧ Hid (TreeAt wr p B t) ∧ Hid (RefAt wr v t) ∧ Hid (Later w wr))
  case atStart => exact ⟨0, p1, B1, _, [], Nat.zero_le _, by omega, rfl, rfl, rfl, hp1, hB1, rfl, Fits.nil, HT1.out, RefAt.nil _, HL1.out⟩
  case round =>
    obtain ⟨k, p, B, v, t, hk, hg, rfl, rfl, hv, hp, hB, hte, hfit, htr, href, hwr⟩ := hrel
    obtain rfl := hv.symm
    clear hv
    by_cases hlt : k < n
    · obtain ⟨b, o, x, rfl, hz, g0, g1, g2, g3⟩ := (HX.out.later hwr.out).get hlt
      have hmem := List.mem_of_getElem? hz
      have hok := (HX.out.later hwr.out).op hW hmem
      have hwx := weight_mem hmem
      have hnext := made_next hz
      rw [← hte.out] at hnext
      have HNX := Lib.hid hnext
      have hstep := hfit.out.step (o := x.v) (by omega)
      have HST := Lib.hid hstep
      have hsm := hfit.out.small (by omega)
      have HSM := Lib.hid hsm
      have hlb : Later wr (wr.alloc (.cells #[.int .i64 x.v.kind, .string x.v.name, .string x.v.to, .slice x.A x.n x.c] 99)) := (Later.refl wr).alloc _
      have HD := Lib.hid (refDo_any v t x.v x.A x.n x.c _ (href.out.later hlb) (hok.later hlb) (by have := hsm.many; omega) hsm.lines)
      have HE := Lib.hid (fun (w2 : World) (h2 : Later (wr.alloc (.cells #[.int .i64 x.v.kind, .string x.v.name, .string x.v.to, .slice x.A x.n x.c] 99)) w2) => does_any p B t x.v x.A x.n x.c w2 (htr.out.later (hlb.trans h2)) (hok.later (hlb.trans h2)) hsm)
      have HLB := Lib.hid hlb
      have HBC : Hid ((wr.alloc (.cells #[.int .i64 x.v.kind, .string x.v.name, .string x.v.to, .slice x.A x.n x.c] 99)).cell? ⟨wr.heap.size, 0, none⟩ = some (.int .i64 x.v.kind) ∧ (wr.alloc (.cells #[.int .i64 x.v.kind, .string x.v.name, .string x.v.to, .slice x.A x.n x.c] 99)).cell? ⟨wr.heap.size, 1, none⟩ = some (.string x.v.name) ∧ (wr.alloc (.cells #[.int .i64 x.v.kind, .string x.v.name, .string x.v.to, .slice x.A x.n x.c] 99)).cell? ⟨wr.heap.size, 2, none⟩ = some (.string x.v.to) ∧ (wr.alloc (.cells #[.int .i64 x.v.kind, .string x.v.name, .string x.v.to, .slice x.A x.n x.c] 99)).cell? ⟨wr.heap.size, 3, none⟩ = some (.slice x.A x.n x.c)) := ⟨by simp, by simp, by simp, by simp⟩
      unfold opVal at HD HE
      generalize hr : doT t x.v = r at HD HE HNX HST
      obtain ⟨t2, en⟩ := r
      have hne : (en != en) = false := by simp
      clear hok hmem hwx hnext hz hlb hr hsm hstep
      go_wp2_with fail
      refine HD.out.mono ?_
      rintro e w2 ⟨v2, rfl, hr2, hl2⟩
      have HR2 := Lib.hid hr2; have HL2 := Lib.hid hl2
      have c0 := hl2.cell HBC.out.1
      have c1 := hl2.cell HBC.out.2.1
      have c2 := hl2.cell HBC.out.2.2.1
      have c3 := hl2.cell HBC.out.2.2.2
      clear hr2 hl2
      go_wp2_with fail
      refine (HE.out w2 HL2.out).mono ?_
      rintro e w3 ⟨p3, B3, rfl, ht3, hg3, hpb⟩
      have HT3 := Lib.hid ht3; have HG3 := Lib.hid hg3
      have hle2 : w.heap.size ≤ w2.heap.size := (hwr.out.trans (HLB.out.trans HL2.out)).le
      have hp3 : w.heap.size ≤ p3 := by rcases hpb with ⟨rfl, rfl⟩ | ⟨h, _⟩ <;> omega
      have hB3 : w.heap.size ≤ B3 := by rcases hpb with ⟨rfl, rfl⟩ | ⟨_, h⟩ <;> omega
      clear ht3 hg3 hpb
      go_wp2
      go_roundg (n - (k + 1))
      case measure => omega
      case rel =>
        obtain ⟨es, mc, hm⟩ := (htr.out.later (HLB.out.trans HL2.out)).files.map
        exact ⟨k + 1, p3, B3, v2, t2, by omega, Nat.le_refl _, by go_num, rfl, rfl, hp3, hB3, HNX.out.symm, HST.out, HT3.out, HR2.out.turned HG3.out hm, (hwr.out.trans (HLB.out.trans HL2.out)).turn HG3.out hB⟩
    · have e : os.take k = os := List.take_of_length_le (by rw [HX.out.len]; omega)
      rw [e] at hte
      clear e
      go_wp2
      go_ret2
      refine ⟨p, B, v, rfl, ?_, ?_, hp, hB, hwr.out⟩
      · rw [← hte.out]; exact htr.out
      · rw [← hte.out]; exact href.out

end Go.Proofs.YtejkgkgjgojlkaaGreatDoor

/-
  What maps.EqualFunc at files with line.Same, and tree.Same, come to, as calls.
-/
namespace Go.Proofs.YtejkgkgjgojlkaaGreatDoor
open Go.RowKit Go.Maps

section
variable {α : Type}
theorem rising_le : ∀ {a b : Fl α}, Rising a → Rising b → (∀ f ∈ a, f ∈ b) → a.length ≤ b.length
  | [], _, _, _, _ => Nat.zero_le _
  | x :: a, [], _, _, h => absurd (h x List.mem_cons_self) (by simp)
  | x :: a, y :: b, ha, hb, h => by
    by_cases e : x = y
    · subst e
      have := rising_le (rising_tail ha) (rising_tail hb) fun f hf => by
        rcases List.mem_cons.1 (h f (List.mem_cons_of_mem _ hf)) with rfl | h1
        · exact absurd rfl (ltN_ne (rising_head ha hf))
        · exact h1
      simpa using this
    · have hx : x ∈ b := (List.mem_cons.1 (h x List.mem_cons_self)).resolve_left e
      have hlt := rising_head hb hx
      have := rising_le (a := x :: a) ha (rising_tail hb) fun f hf => by
        rcases List.mem_cons.1 (h f hf) with rfl | h1
        · rcases List.mem_cons.1 hf with rfl | hf
          · exact absurd rfl e
          · have := ltN_asymm (rising_head ha hf); rw [hlt] at this; cases this
        · exact h1
      simp at this ⊢; omega
/-- As many files, all of them there: the same. -/
theorem rising_sub : ∀ {a b : Fl α}, Rising a → Rising b → (∀ f ∈ a, f ∈ b) → b.length ≤ a.length → a = b
  | [], [], _, _, _, _ => rfl
  | [], y :: b, _, _, _, h => absurd h (by simp)
  | x :: a, [], _, _, h, _ => absurd (h x List.mem_cons_self) (by simp)
  | x :: a, y :: b, ha, hb, h, hl => by
    have e : x = y := by
      rcases Classical.em (x = y) with e | e
      · exact e
      · have hx : x ∈ b := (List.mem_cons.1 (h x List.mem_cons_self)).resolve_left e
        have hlt := rising_head hb hx
        have := rising_le (a := x :: a) ha (rising_tail hb) fun f hf => by
          rcases List.mem_cons.1 (h f hf) with rfl | h1
          · rcases List.mem_cons.1 hf with rfl | hf
            · exact absurd rfl e
            · have := ltN_asymm (rising_head ha hf); rw [hlt] at this; cases this
          · exact h1
        simp at this hl; omega
    subst e
    refine congrArg _ (rising_sub (rising_tail ha) (rising_tail hb) (fun f hf => ?_) (by simpa using hl))
    rcases List.mem_cons.1 (h f (List.mem_cons_of_mem _ hf)) with rfl | h1
    · exact absurd rfl (ltN_ne (rising_head ha hf))
    · exact h1
end

theorem FA.step {w w' : World} {B r n cnt : Nat} {z : Fl Held} {D : DataW Value} {left : Lit → Bool} {B0 : Nat} (h : FA w B z) (hr : w.ranges Tryz.prog 9 raw B0 r n D left cnt) (hg : Turned r w w') (hne : B ≠ r) : FA w' B z :=
  ⟨h.own.kept hg (by simpa using hne), h.rise, fun f hf => by
    obtain ⟨A, m, c, e, h1, h2⟩ := h.reads f hf
    exact ⟨A, m, c, e, h1, h2.1, fun hn => by
      obtain ⟨b, o, e, hc⟩ := h2.2 hn
      exact ⟨b, o, e, fun j s hs => hg.cell (hc j s hs) (iter_cell hr (hc j s hs))⟩⟩⟩

set_option maxHeartbeats 800000 in
theorem equalFunc_any (B1 B2 : Nat) (z1 z2 : Fl Held) (w : World) (h1 : FA w B1 z1) (h2 : FA w B2 z2) (hb1 : ∀ f ∈ z1, f.2.2.length ≤ 65536) (hb2 : ∀ f ∈ z2, f.2.2.length ≤ 65536) :
    Calls Tryz.prog 73 #[.map (some B1), .map (some B2), .func (.func 18) #[] #[]] w (Says (sameT (mapT (·.2) z1) (mapT (·.2) z2)) w) := by
  have H1 := Lib.hid h1; have H2 := Lib.hid h2
  have hlt1 := h1.lt; have hlt2 := h2.lt
  have HB1 := Lib.hid hb1; have HB2 := Lib.hid hb2
  have R1 : Hid (Rising (mapT (·.2) z1)) := rising_map.2 h1.rise
  have R2 : Hid (Rising (mapT (·.2) z2)) := rising_map.2 h2.rise
  clear h1 h2 hb1 hb2
  by_cases hlen : z1.length = z2.length
  · have HLEN := Lib.hid hlen
    have hd : ((z1.length : Int) != (z2.length : Int)) = false := by rw [bne_eq_false_iff_eq]; omega
    go_enter Tryz.func73, Tryz.ntmps73
    go_wp2_with (first
      | (at_len; refine wpList_len_own _ rfl _ 114 rfl 9 32 Tryz.underlying114 raw B1 z1.length _ rfl H1.out.own ?_; rw [size_datum, mapT_length])
      | (at_len; refine wpList_len_own _ rfl _ 114 rfl 9 32 Tryz.underlying114 raw B2 z2.length _ rfl H2.out.own ?_; rw [size_datum, mapT_length])
      | (at_range; refine wpList_range_files rfl _ rfl B1 z1 rfl H1.out ?_; intro w0 hrg0 hl0; have HR0 := Lib.hid hrg0; have HL0 := Lib.hid hl0; clear hrg0 hl0))
    go_frame
    clear hd hlen
    go_loopg [] (z1.length + 1) (fun g wr => ∃ (left : Lit → Bool) (cnt : Nat), cnt ≤ g ∧ Later w wr ∧ Hid (FA wr B2 z2) ∧ Hid (Ranging wr B1 w.heap.size z1 left cnt) ∧ Hid (∀ f ∈ seen left (mapT (·.2) z1), f ∈ mapT (·.2) z2))
    case atStart => exact ⟨_, _, Nat.le_succ _, HL0.out, H2.out.later HL0.out, HR0.out, by rw [seen_map, seen_start]; exact fun f hf => by cases hf⟩
    case round =>
      obtain ⟨left, cnt, hcg, hwr, hf2, hrg, hall⟩ := hrel
      have HW := Lib.hid hwr; clear hwr
      go_wp2_with (at_next; refine wpList_next_files rfl _ rfl B1 w.heap.size z1 left cnt rfl hrg.out ?_ ?_)
      · intro hdone
        have E : Hid (sameT (mapT (·.2) z1) (mapT (·.2) z2) = true) := by
          have hall' := hall.out
          rw [seen_end hdone] at hall'
          have e := rising_sub R1.out R2.out hall' (by rw [mapT_length, mapT_length]; exact Nat.le_of_eq HLEN.out.symm)
          rw [e]; exact sameT_self _
        clear hdone hall
        go_wp2
        go_ret
        exact ⟨ret_bool E.out.symm, HW.out⟩
      · intro nm A m c l w' cnt' hmem hnm hmc hrow hlk hrg' hlt hturn hen
        have hmem1 : (nm, l) ∈ mapT (·.2) z1 := by simp only [mapT, List.mem_map]; exact ⟨_, hmem, rfl⟩
        have hm : m ≤ 65536 := by rw [← hrow.len]; exact HB1.out _ hmem
        have hf2' : FA w' B2 z2 := hf2.out.step hrg.out.at_ hturn (by omega)
        have hlw : Later w w' := HW.out.turn hturn (Nat.le_refl _)
        have HLW := Lib.hid hlw; have HF2 := Lib.hid hf2'
        have HRG := Lib.hid hrg'
        cases hg : getT z2 nm with
        | none =>
          have hlook := hf2'.look_no hnm hg
          have E : Hid (sameT (mapT (·.2) z1) (mapT (·.2) z2) = false) := sameT_no fun e => by
            have h9 : getT (mapT (·.2) z2) nm = none := by rw [getT_map, hg]; rfl
            exact getT_none.1 h9 _ (e ▸ hmem1) rfl
          clear hrow hmem hlk hrg' hturn hmem1 hf2' hlw hg hall hf2 hrg
          go_wp2
          go_ret
          exact ⟨ret_bool E.out.symm, HLW.out⟩
        | some x =>
          have hlook := hf2'.look_yes hnm hg
          obtain ⟨A2, m2, c2, hv, hmc2, hr2⟩ := hf2'.get hg
          have hm2 : m2 ≤ 65536 := by rw [← hr2.len]; exact HB2.out _ (getT_mem hg)
          rw [hv] at hlook
          have hg2 : getT (mapT (·.2) z2) nm = some x.2 := by rw [getT_map, hg]; rfl
          have hsame := same_any A A2 m c m2 c2 l x.2 w' hrow hr2 hm hm2
          by_cases hx : l = x.2
          · have hall' : ∀ f ∈ seen (but left nm) (mapT (·.2) z1), f ∈ mapT (·.2) z2 := fun f hf => by
              rw [seen_step R1.out hmem1] at hf
              rcases mem_with.1 hf with rfl | hf
              · rw [hx]; exact getT_mem hg2
              · exact hall.out f hf.1
            have HALL := Lib.hid hall'
            rw [sameB_yes hx] at hsame
            have HS := Lib.hid hsame
            clear hrow hmem hlk hrg' hturn hmem1 hf2' hlw hg hall hf2 hrg hr2 hv hg2 hx hall' hsame
            go_wp2_with (go_at_call 18; refine HS.out.mono ?_; rintro e w4 ⟨rfl, q, rfl⟩)
            go_roundg cnt'
            case measure => omega
            case rel =>
              have hd : Later w' (w'.drewN q) := (Later.refl _).drewN q
              exact ⟨but left nm, cnt', Nat.le_refl _, HLW.out.trans hd, HF2.out.later hd, HRG.out.later hd, HALL.out⟩
          · have E : Hid (sameT (mapT (·.2) z1) (mapT (·.2) z2) = false) := sameT_no fun e => by
              have h9 := (getT_iff R2.out).2 (e ▸ hmem1)
              rw [hg2] at h9; exact hx (Option.some.inj h9).symm
            rw [sameB_no hx] at hsame
            have HS := Lib.hid hsame
            clear hrow hmem hlk hrg' hturn hmem1 hf2' hlw hg hall hf2 hrg hr2 hv hg2 hx hsame
            go_wp2_with (go_at_call 18; refine HS.out.mono ?_; rintro e w4 ⟨rfl, q, rfl⟩)
            go_ret
            exact ⟨ret_bool E.out.symm, HLW.out.drewN q⟩
  · have E : Hid (sameT (mapT (·.2) z1) (mapT (·.2) z2) = false) := sameT_no fun e => hlen (by have := congrArg List.length e; rwa [mapT_length, mapT_length] at this)
    rw [E.out]
    have hd : ((z1.length : Int) != (z2.length : Int)) = true := by rw [bne_iff_ne]; omega
    clear hlen E
    go_enter Tryz.func73, Tryz.ntmps73
    go_wp2_with (first
      | (at_len; refine wpList_len_own _ rfl _ 114 rfl 9 32 Tryz.underlying114 raw B1 z1.length _ rfl H1.out.own ?_; rw [size_datum, mapT_length])
      | (at_len; refine wpList_len_own _ rfl _ 114 rfl 9 32 Tryz.underlying114 raw B2 z2.length _ rfl H2.out.own ?_; rw [size_datum, mapT_length]))
    go_ret
    exact ⟨rfl, Later.refl w⟩

set_option maxRecDepth 100000 in
set_option maxHeartbeats 400000 in
theorem sameTree_any (p1 B1 p2 B2 : Nat) (t1 t2 : Tr) (w : World) (h1 : TreeAt w p1 B1 t1) (h2 : TreeAt w p2 B2 t2) (hb1 : ∀ f ∈ t1, f.2.length ≤ 65536) (hb2 : ∀ f ∈ t2, f.2.length ≤ 65536) :
    Calls Tryz.prog 35 #[.pointer (some ⟨p1, 0, none⟩), .pointer (some ⟨p2, 0, none⟩)] w (Says (sameT t1 t2) w) := by
  obtain ⟨hc1, z1, hz1, rfl⟩ := h1
  obtain ⟨hc2, z2, hz2, rfl⟩ := h2
  have B1' : ∀ f ∈ z1, f.2.2.length ≤ 65536 := fun f hf => hb1 (f.1, f.2.2) (by simp only [mapT, List.mem_map]; exact ⟨_, hf, rfl⟩)
  have B2' : ∀ f ∈ z2, f.2.2.length ≤ 65536 := fun f hf => hb2 (f.1, f.2.2) (by simp only [mapT, List.mem_map]; exact ⟨_, hf, rfl⟩)
  have HE := Lib.hid (fun (w1 : World) (h : Later w w1) => equalFunc_any B1 B2 z1 z2 w1 (hz1.later h) (hz2.later h) B1' B2')
  clear hz1 hz2 hb1 hb2 B1' B2'
  go_enter Tryz.func35, Tryz.ntmps35
  go_wp2_with fail
  go_region_held3 (fun w' => w'.cell? ⟨p1, 0, none⟩ = some (.map (some B1)) ∧ w'.cell? ⟨p2, 0, none⟩ = some (.map (some B2))) (go_keep)
    (first
      | (go_at_call 73; refine (HE.out _ (by first | exact Later.refl _ | exact (Later.refl _).drew | exact (Later.refl _).drewN _)).mono ?_; rintro e w1 ⟨rfl, hl1⟩; have HL : Hid (Later w w1) := Later.trans (by first | exact Later.refl _ | exact (Later.refl _).drew | exact (Later.refl _).drewN _) hl1; have hd1 := HL.out.cell hc1; have hd2 := HL.out.cell hc2; clear hl1))
  go_wp2
  go_ret
  exact ⟨rfl, HL.out⟩

end Go.Proofs.YtejkgkgjgojlkaaGreatDoor

/-
  What stands while a tree turns: blocks, prims, other trees; how great trees become.
-/
namespace Go.Proofs.YtejkgkgjgojlkaaGreatDoor
open Go.RowKit Go.Maps

theorem PrOk.turnS {w w' : World} {x : PrC} {B : Nat} (h : PrOk w x) (hg : Turned B w w') {es : Array MapEntry} {c : Nat} (hm : w.heap[B]? = some (.map es c)) : PrOk w' x :=
  ⟨h.old.turned hg hm, h.new.turned hg hm, h.oroom, h.nroom, h.omost, h.nmost, h.name, h.to, h.lo, h.hi, h.olds, h.news⟩
theorem BoxAt.turnS {w w' : World} {g B : Nat} {cs : Array Value} {t : TypeId} (h : BoxAt w g cs t) (hg : Turned B w w') {es : Array MapEntry} {c : Nat} (hm : w.heap[B]? = some (.map es c)) : BoxAt w' g cs t :=
  h.other hg (by rintro rfl; unfold BoxAt at h; rw [h] at hm; cases hm)
theorem Fits.sizedS {k : Nat} {t : Tr} (h : Fits k t) : Sized k 8000 t := ⟨h.many, fun f hf => ⟨(h.each f hf).1, (h.each f hf).2.1, by have := (h.each f hf).2.2; unfold heavy at this; omega⟩⟩
theorem Sized.lines {k h : Nat} {t : Tr} (hs : Sized k h t) (hh : h ≤ 65536) : ∀ f ∈ t, f.2.length ≤ 65536 := fun f hf => Nat.le_trans (hs.each f hf).2.2 hh

end Go.Proofs.YtejkgkgjgojlkaaGreatDoor
