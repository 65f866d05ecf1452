import Derived.Test.YtboffgmaohcpfaaDoorPk8
import Derived.Test.YtboffgmaohcpfaaDoorPk5
import Derived.Test.YtboffgmaohcpfaaDoorPk7
import Derived.Test.YtboffgmaohcpfaaDoorPk6
import Derived.Test.YtboffgmaohcpfaaDoorPk4

/-
  The statements' own example: two lines in the place of one.
-/
namespace Go.Proofs.YtboffgmaohcpfaaDoor
open Go.RowKit Go.Maps

def qA : ByteArray := ⟨#[97]⟩
def qB : ByteArray := ⟨#[98]⟩
def qX : ByteArray := ⟨#[120]⟩
def qY : ByteArray := ⟨#[121]⟩
def qZ : ByteArray := ⟨#[122]⟩
def uA0 : Tr := [(qA, [])]
def uA : Tr := [(qA, [qX, qY])]
def uZ : Tr := [(qA, [qX, qZ, qZ])]
def uB : Tr := [(qB, [qX, qY])]
def pH : Pr := ⟨0, qA, ByteArray.empty, 1, [qY], [qZ, qZ]⟩
def bareC (k : Int) (a b : ByteArray) : PrC := ⟨⟨k, a, b, 0, [], []⟩, none, 0, 0, none, 0, 0⟩

theorem qx1 : applyP [] (bareC 1 qA ByteArray.empty).v = (uA0, 0) := by kernel_rfl
theorem qx2 : putT uA0 qA [qX, qY] = (uA, 0) := by kernel_rfl
theorem qx3 : applyP uA pH = (uZ, 0) := by kernel_rfl
theorem qx4 : applyP uZ (invertP pH) = (uA, 0) := by kernel_rfl
theorem qx5 : applyP uA (bareC 3 qA qB).v = (uB, 0) := by kernel_rfl
theorem qx6 : namesP (bareC 3 qB qA).v = [qA, qB] := by kernel_rfl
theorem qx7 : applyP uB pH = (uB, 31) := by kernel_rfl
theorem qx8 : applyP uB (bareC 0 ByteArray.empty ByteArray.empty).v = (uB, 30) := by kernel_rfl
theorem qx9 : rightP pH = true := by kernel_rfl
theorem qt1 : txt (textT uZ) = ⟨#[97, 32, 51, 10, 120, 10, 122, 10, 122, 10]⟩ := by kernel_rfl
theorem qt2 : txt (textT uB) = ⟨#[98, 32, 50, 10, 120, 10, 121, 10]⟩ := by kernel_rfl
theorem qt3 : (textT uZ).length ≤ 1000000 := of_decide_eq_true (by kernel_rfl)
theorem qt4 : (textT uB).length ≤ 1000000 := of_decide_eq_true (by kernel_rfl)
theorem small_q {s : ByteArray} (h : s.size ≤ 100) : s.size ≤ maxLen := by simp only [maxLen]; omega
theorem sizedA : Sized 1 3 uA := ⟨by simp [uA], fun f hf => by simp [uA] at hf; subst hf; exact ⟨by kernel_rfl, by kernel_rfl, by simp⟩⟩
theorem sizedZ : Sized 1 3 uZ := ⟨by simp [uZ], fun f hf => by simp [uZ] at hf; subst hf; exact ⟨by kernel_rfl, by kernel_rfl, by simp⟩⟩
theorem sizedB : Sized 1 3 uB := ⟨by simp [uB], fun f hf => by simp [uB] at hf; subst hf; exact ⟨by kernel_rfl, by kernel_rfl, by simp⟩⟩
theorem sized_some {k h : Nat} {t : Tr} (hs : Sized k h t) (hh : h ≤ 65536) : ∀ f ∈ t, f.1.size ≤ maxLen ∧ f.2.length ≤ 65536 := fun f hf => by
  have h1 := (hs.each f hf).1
  simp only [namedB, Bool.and_eq_true, decide_eq_true_eq] at h1
  exact ⟨by simp only [maxLen]; omega, Nat.le_trans (hs.each f hf).2.2 hh⟩
theorem bare_ok (w : World) (k : Int) {a b : ByteArray} (ha : a.size ≤ 100) (hb : b.size ≤ 100) : PrOk w (bareC k a b) :=
  ⟨Row.none, Row.none, Nat.le_refl _, Nat.le_refl _, by simp [bareC], by simp [bareC], small_q ha, small_q hb, by simp [bareC], by simp [bareC], (fun s hs => by simp [bareC] at hs), (fun s hs => by simp [bareC] at hs)⟩

theorem pH_ok {w : World} {A C : Option Addr} {c d : Nat} (h1 : Row w A 1 [qY]) (h2 : Row w C 2 [qZ, qZ]) (hc : 1 ≤ c) (hd : 2 ≤ d) : PrOk w ⟨pH, A, 1, c, C, 2, d⟩ :=
  ⟨h1, h2, hc, hd, show 1 ≤ 65536 by decide, show 2 ≤ 65536 by decide, small_q (show qA.size ≤ 100 by decide), small_q (show ByteArray.empty.size ≤ 100 by decide), show (-9223372036854775808 : Int) ≤ 1 by decide, show (1 : Int) ≤ 9223372036854775807 by decide,
    (fun s hs => by simp [pH] at hs; subst hs; exact small_q (by decide)), (fun s hs => by simp [pH] at hs; subst hs; exact small_q (by decide))⟩
theorem pI_ok {w : World} {A C : Option Addr} {c d : Nat} (h1 : Row w A 2 [qZ, qZ]) (h2 : Row w C 1 [qY]) (hc : 2 ≤ c) (hd : 1 ≤ d) : PrOk w ⟨invertP pH, A, 2, c, C, 1, d⟩ :=
  ⟨h1, h2, hc, hd, show 2 ≤ 65536 by decide, show 1 ≤ 65536 by decide, small_q (show qA.size ≤ 100 by decide), small_q (show ByteArray.empty.size ≤ 100 by decide), show (-9223372036854775808 : Int) ≤ 1 by decide, show (1 : Int) ≤ 9223372036854775807 by decide,
    (fun s hs => by simp [pH, invertP] at hs; subst hs; exact small_q (by decide)), (fun s hs => by simp [pH, invertP] at hs; subst hs; exact small_q (by decide))⟩
theorem PrOk.turned {w w' : World} {x : PrC} {B : Nat} (h : PrOk w x) (hg : Turned B w w') {es : Array MapEntry} {c : Nat} (hm : w.heap[B]? = some (.map es c)) : PrOk w' x :=
  ⟨h.old.turned hg hm, h.new.turned hg hm, h.oroom, h.nroom, h.omost, h.nmost, h.name, h.to, h.lo, h.hi, h.olds, h.news⟩
theorem BoxAt.turned {w w' : World} {g B : Nat} {cs : Array Value} {t : TypeId} (h : BoxAt w g cs t) (hg : Turned B w w') {es : Array MapEntry} {c : Nat} (hm : w.heap[B]? = some (.map es c)) : BoxAt w' g cs t :=
  h.other hg (by rintro rfl; unfold BoxAt at h; rw [h] at hm; cases hm)
/-- What stands while a tree turns: the tree, a prim, its box. -/
structure Stand (w w' : World) (p B : Nat) (t : Tr) (x : PrC) (g : Nat) : Prop where
  tree : TreeAt w' p B t
  prim : PrOk w' x
  box : BoxAt w' g (prL x).toArray 28
  later : Later w w'
theorem Stand.next {w w1 w2 : World} {p B g : Nat} {t t' : Tr} {x : PrC} (h : Stand w w1 p B t x g) (ht : TreeAt w2 p B t') (hg : Turned B w1 w2) (hB : w.heap.size ≤ B) : Stand w w2 p B t' x g := by
  obtain ⟨es, c, hm⟩ := h.tree.files.map
  exact ⟨ht, h.prim.turned hg hm, h.box.turned hg hm, h.later.turn hg hB⟩
theorem Stand.on {w w1 w2 : World} {p B g : Nat} {t : Tr} {x : PrC} (h : Stand w w1 p B t x g) (hl : Later w1 w2) : Stand w w2 p B t x g := ⟨h.tree.later hl, h.prim.later hl, h.box.later hl, h.later.trans hl⟩
theorem Stand.row {w w1 w2 : World} {p B g n : Nat} {t : Tr} {x : PrC} {A : Option Addr} {l : List ByteArray} (h : Stand w w1 p B t x g) (hg : Turned B w1 w2) (hr : Row w1 A n l) : Row w2 A n l := by
  obtain ⟨es, c, hm⟩ := h.tree.files.map
  exact hr.turned hg hm
theorem Row.head {w : World} {b o n : Nat} {s : ByteArray} {l : List ByteArray} (h : Row w (some ⟨b, o, .none⟩) n (s :: l)) : w.cell? ⟨b, o, .none⟩ = some (.string s) := by
  obtain ⟨b', o', e, hc⟩ := h.2 (by have := h.1; simp at this; omega)
  cases e
  have := hc 0 s rfl
  simpa using this
/-- The six cells of the box. -/
theorem Stand.cells {w w1 : World} {p B g : Nat} {t : Tr} {x : PrC} (h : Stand w w1 p B t x g) : w1.cell? ⟨g, 0, none⟩ = some (.int .i64 x.v.kind) ∧ w1.cell? ⟨g, 1, none⟩ = some (.string x.v.name) ∧ w1.cell? ⟨g, 2, none⟩ = some (.string x.v.to) ∧ w1.cell? ⟨g, 3, none⟩ = some (.int .i64 x.v.place) ∧ w1.cell? ⟨g, 4, none⟩ = some (.slice x.A x.n x.c) ∧ w1.cell? ⟨g, 5, none⟩ = some (.slice x.B x.m x.d) :=
  ⟨h.box.cell rfl, h.box.cell rfl, h.box.cell rfl, h.box.cell rfl, h.box.cell rfl, h.box.cell rfl⟩

set_option maxRecDepth 100000 in
set_option maxHeartbeats 8000000 in
theorem aliveP_any (w : World) (htab : Tab w) : Calls Tryd.prog 8 #[] w (Says true w) := by
  have HTB := Lib.hid htab; clear htab
  go_enter Tryd.func8, Tryd.ntmps8
  go_wp2_with fail
  refine (new_any w).mono ?_
  rintro e w1 ⟨p, B, rfl, ht1, hp, hB, hl1⟩
  have HT1 := Lib.hid ht1; have HL1 := Lib.hid hl1; clear ht1 hl1
  go_wp2_with fail
  have hst : Stand w (((w1.alloc (.cells #[.string ⟨#[121]⟩] 9)).alloc (.cells #[.string ⟨#[122]⟩, .string ⟨#[122]⟩] 9)).alloc (.cells #[.int .i64 0, .string ⟨#[97]⟩, .string ⟨#[]⟩, .int .i64 1, .slice (some ⟨w1.heap.size, 0, none⟩) 1 1, .slice (some ⟨w1.heap.size + 1, 0, none⟩) 2 2] 28)) p B [] ⟨pH, some ⟨w1.heap.size, 0, none⟩, 1, 1, some ⟨w1.heap.size + 1, 0, none⟩, 2, 2⟩ (w1.heap.size + 1 + 1) := by
    have hl : Later w1 (((w1.alloc (.cells #[.string ⟨#[121]⟩] 9)).alloc (.cells #[.string ⟨#[122]⟩, .string ⟨#[122]⟩] 9)).alloc (.cells #[.int .i64 0, .string ⟨#[97]⟩, .string ⟨#[]⟩, .int .i64 1, .slice (some ⟨w1.heap.size, 0, none⟩) 1 1, .slice (some ⟨w1.heap.size + 1, 0, none⟩) 2 2] 28)) := (((Later.refl w1).alloc _).alloc _).alloc _
    refine ⟨HT1.out.later hl, pH_ok ((Row.lit w1 [qY] 9).later (((Later.refl _).alloc _).alloc _)) ((Row.lit2 w1 _ [qZ, qZ] 9).later ((Later.refl _).alloc _)) (Nat.le_refl _) (Nat.le_refl _), ?_, HL1.out.trans hl⟩
    have := BoxAt.made ((w1.alloc (.cells #[.string ⟨#[121]⟩] 9)).alloc (.cells #[.string ⟨#[122]⟩, .string ⟨#[122]⟩] 9)) (prL ⟨pH, some ⟨w1.heap.size, 0, none⟩, 1, 1, some ⟨w1.heap.size + 1, 0, none⟩, 2, 2⟩).toArray 28
    rw [show ((w1.alloc (.cells #[.string ⟨#[121]⟩] 9)).alloc (.cells #[.string ⟨#[122]⟩, .string ⟨#[122]⟩] 9)).heap.size = w1.heap.size + 1 + 1 from by simp] at this
    exact this
  generalize ((w1.alloc (.cells #[.string ⟨#[121]⟩] 9)).alloc (.cells #[.string ⟨#[122]⟩, .string ⟨#[122]⟩] 9)).alloc (.cells #[.int .i64 0, .string ⟨#[97]⟩, .string ⟨#[]⟩, .int .i64 1, .slice (some ⟨w1.heap.size, 0, none⟩) 1 1, .slice (some ⟨w1.heap.size + 1, 0, none⟩) 2 2] 28) = w2 at hst ⊢
  have H2 := Lib.hid hst; clear hst HT1 HL1
  generalize w1.heap.size = g1 at H2 ⊢
  refine (apply_any (bareC 1 qA ByteArray.empty) p B 0 0 [] w2 H2.out.tree (bare_ok w2 1 (by decide) (by decide)) Sized.nil (by omega) (by simp [bareC])).mono ?_
  rw [qx1]
  rintro e w3 ⟨rfl, ht3, hg3⟩
  have H3 := Lib.hid (H2.out.next ht3 hg3 hB); clear ht3 hg3
  go_wp2_with fail
  refine (put_any p B qA (some ⟨w3.heap.size, 0, none⟩) 2 2 [qX, qY] uA0 _ (H3.out.tree.later ((Later.refl w3).alloc _)) (Row.lit w3 [qX, qY] 9) (small_q (by decide)) (by simp [uA0]) (by omega) (fun s hs => by simp at hs; rcases hs with rfl | rfl <;> exact small_q (by decide))).mono ?_
  rw [qx2]
  rintro e w4 ⟨rfl, ht4, hg4⟩
  have H4 := Lib.hid ((H3.out.on ((Later.refl w3).alloc _)).next ht4 hg4 hB); clear ht4 hg4
  obtain ⟨y0, y1, y2, y3, y4, y5⟩ := H4.out.cells
  simp only [pH, qA] at y0 y1 y2 y3 y4 y5
  go_wp2_with fail
  refine (apply_any ⟨pH, some ⟨g1, 0, none⟩, 1, 1, some ⟨g1 + 1, 0, none⟩, 2, 2⟩ p B 1 3 uA w4 H4.out.tree H4.out.prim sizedA (by omega) (by simp)).mono ?_
  rw [qx3]
  rintro e w5 ⟨rfl, ht5, hg5⟩
  have H5 := Lib.hid (H4.out.next ht5 hg5 hB); clear ht5 hg5 y0 y1 y2 y3 y4 y5
  go_wp2_with fail
  refine (treeText_any p B uZ w5 H5.out.tree (HTB.out.later H5.out.later) (by simp [uZ]) qt3 (sized_some sizedZ (by omega))).mono ?_
  rw [qt1]
  rintro e w6 ⟨rfl, hl6⟩
  have H6 := Lib.hid (H5.out.on hl6); clear hl6
  obtain ⟨y0, y1, y2, y3, y4, y5⟩ := H6.out.cells
  simp only [pH, qA] at y0 y1 y2 y3 y4 y5
  go_wp2_with fail
  refine (primInvert_any ⟨pH, some ⟨g1, 0, none⟩, 1, 1, some ⟨g1 + 1, 0, none⟩, 2, 2⟩ w6 H6.out.prim).mono ?_
  rintro e w7 ⟨u, v, rfl, hpr⟩
  obtain ⟨A1, c1, hv1, hc1, hr1⟩ := hpr.old.row
  obtain ⟨A2, c2, hv2, hc2, hr2⟩ := hpr.new.row
  subst hv1 hv2
  have H7 := Lib.hid (H6.out.on hpr.later)
  have HP7 : Hid (PrOk w7 ⟨invertP pH, A1, 2, c1, A2, 1, c2⟩) := pI_ok hr1 hr2 hc1 hc2
  clear hpr hr1 hr2 hc1 hc2 y0 y1 y2 y3 y4 y5
  go_wp2_with fail
  refine (apply_any ⟨invertP pH, A1, 2, c1, A2, 1, c2⟩ p B 1 3 uZ w7 H7.out.tree HP7.out sizedZ (by omega) (by simp)).mono ?_
  rw [qx4]
  rintro e w8 ⟨rfl, ht8, hg8⟩
  have H8 := Lib.hid (H7.out.next ht8 hg8 hB); clear ht8 hg8
  go_wp2_with fail
  refine (apply_any (bareC 3 qA qB) p B 1 3 uA w8 H8.out.tree (bare_ok w8 3 (by decide) (by decide)) sizedA (by omega) (by simp [bareC])).mono ?_
  rw [qx5]
  rintro e w9 ⟨rfl, ht9, hg9⟩
  have H9 := Lib.hid (H8.out.next ht9 hg9 hB); clear ht9 hg9
  go_wp2_with fail
  refine (primNames_any (bareC 3 qB qA) w9).mono ?_
  rw [qx6]
  rintro e w10 ⟨An, cn, rfl, hcn, hrn, hl10⟩
  have H10 := Lib.hid (H9.out.on hl10)
  have HR10 := Lib.hid hrn
  clear hrn hl10
  go_wp2_with fail
  obtain ⟨bn, on, rfl, gn⟩ := HR10.out.get (k := 0) (by simp)
  simp only [List.getD_cons_zero, qA, Nat.add_zero] at gn
  have s0 := And.intro HR10.out.head H10.out.cells
  clear gn
  have HT1 : Hid (∀ w1, Later w10 w1 → Calls Tryd.prog 23 #[.pointer (some ⟨p, 0, none⟩)] w1 fun e w' => e = .returned (.string ⟨#[98, 32, 50, 10, 120, 10, 121, 10]⟩) ∧ Later w1 w') := fun w1 hl => by
    have := treeText_any p B uB w1 (H10.out.tree.later hl) (HTB.out.later (H10.out.later.trans hl)) (by simp [uB]) qt4 (sized_some sizedB (by omega))
    rw [qt2] at this
    exact this
  have HA1 : Hid (∀ w1, Stand w w1 p B uB ⟨pH, some ⟨g1, 0, none⟩, 1, 1, some ⟨g1 + 1, 0, none⟩, 2, 2⟩ (g1 + 1 + 1) → Calls Tryd.prog 22 #[.pointer (some ⟨p, 0, none⟩), .agg #[.int .i64 0, .string ⟨#[97]⟩, .string ⟨#[]⟩, .int .i64 1, .slice (some ⟨g1, 0, none⟩) 1 1, .slice (some ⟨g1 + 1, 0, none⟩) 2 2]] w1 (Does (uB, 31) p B w1)) := fun w1 h => by
    have := apply_any ⟨pH, some ⟨g1, 0, none⟩, 1, 1, some ⟨g1 + 1, 0, none⟩, 2, 2⟩ p B 1 3 uB w1 h.tree h.prim sizedB (by omega) (by simp)
    rw [qx7] at this
    exact this
  have HA2 : Hid (∀ w1, Stand w w1 p B uB ⟨pH, some ⟨g1, 0, none⟩, 1, 1, some ⟨g1 + 1, 0, none⟩, 2, 2⟩ (g1 + 1 + 1) → Calls Tryd.prog 22 #[.pointer (some ⟨p, 0, none⟩), .agg #[.int .i64 0, .string ⟨#[]⟩, .string ⟨#[]⟩, .int .i64 0, .slice none 0 0, .slice none 0 0]] w1 (Does (uB, 30) p B w1)) := fun w1 h => by
    have := apply_any (bareC 0 ByteArray.empty ByteArray.empty) p B 1 3 uB w1 h.tree (bare_ok w1 0 (by decide) (by decide)) sizedB (by omega) (by simp [bareC])
    rw [qx8] at this
    exact this
  have HC1 := Lib.hid (fun w1 (h : Stand w w1 p B uB ⟨pH, some ⟨g1, 0, none⟩, 1, 1, some ⟨g1 + 1, 0, none⟩, 2, 2⟩ (g1 + 1 + 1)) => primClone_any ⟨pH, some ⟨g1, 0, none⟩, 1, 1, some ⟨g1 + 1, 0, none⟩, 2, 2⟩ w1 h.prim)
  have HR1 : Hid (∀ w1, Stand w w1 p B uB ⟨pH, some ⟨g1, 0, none⟩, 1, 1, some ⟨g1 + 1, 0, none⟩, 2, 2⟩ (g1 + 1 + 1) → Calls Tryd.prog 9 #[.agg #[.int .i64 0, .string ⟨#[97]⟩, .string ⟨#[]⟩, .int .i64 1, .slice (some ⟨g1, 0, none⟩) 1 1, .slice (some ⟨g1 + 1, 0, none⟩) 2 2]] w1 (Says true w1)) := fun w1 h => by
    have := primRight_any ⟨pH, some ⟨g1, 0, none⟩, 1, 1, some ⟨g1 + 1, 0, none⟩, 2, 2⟩ w1 h.prim
    rw [qx9] at this
    exact this
  clear HP7 H2 H3 H4 H5 H6 H7 H8 H9 HTB
  go_region_held3 (fun w' => w'.cell? ⟨bn, on, none⟩ = some (.string ⟨#[97]⟩) ∧ w'.cell? ⟨g1 + 1 + 1, 0, none⟩ = some (.int .i64 0) ∧ w'.cell? ⟨g1 + 1 + 1, 1, none⟩ = some (.string ⟨#[97]⟩) ∧ w'.cell? ⟨g1 + 1 + 1, 2, none⟩ = some (.string ByteArray.empty) ∧ w'.cell? ⟨g1 + 1 + 1, 3, none⟩ = some (.int .i64 1) ∧ w'.cell? ⟨g1 + 1 + 1, 4, none⟩ = some (.slice (some ⟨g1, 0, none⟩) 1 1) ∧ w'.cell? ⟨g1 + 1 + 1, 5, none⟩ = some (.slice (some ⟨g1 + 1, 0, none⟩) 2 2))
    (first | exact s16 | exact s15 | exact s14 | exact s13 | exact s12 | exact s11 | exact s0)
    (first
      | (go_at_call 23; refine (HT1.out _ (by first | exact Later.refl _ | exact (Later.refl _).drew | exact (Later.refl _).drewN _)).mono ?_; rintro e w11 ⟨rfl, hl11⟩; have HL11 : Hid (Later w10 w11) := Later.trans (by first | exact Later.refl _ | exact (Later.refl _).drew | exact (Later.refl _).drewN _) hl11; have H11 := Lib.hid (H10.out.on HL11.out); have R11 := Lib.hid (HR10.out.later HL11.out); have s11 := And.intro R11.out.head H11.out.cells; clear hl11)
      | (go_at_call 22; have hq12 := H12; clear hq12; refine (HA2.out _ (H12.out.on (by first | exact Later.refl _ | exact (Later.refl _).drew | exact (Later.refl _).drewN _))).mono ?_; rintro e w13 ⟨rfl, ht13, hg13⟩; have H13 := Lib.hid ((H12.out.on (by first | exact Later.refl _ | exact (Later.refl _).drew | exact (Later.refl _).drewN _)).next ht13 hg13 hB); have R13 := Lib.hid ((H12.out.on (by first | exact Later.refl _ | exact (Later.refl _).drew | exact (Later.refl _).drewN _)).row hg13 (R12.out.later (by first | exact Later.refl _ | exact (Later.refl _).drew | exact (Later.refl _).drewN _))); have s13 := And.intro R13.out.head H13.out.cells; clear ht13 hg13)
      | (go_at_call 22; refine (HA1.out _ (H11.out.on (by first | exact Later.refl _ | exact (Later.refl _).drew | exact (Later.refl _).drewN _))).mono ?_; rintro e w12 ⟨rfl, ht12, hg12⟩; have H12 := Lib.hid ((H11.out.on (by first | exact Later.refl _ | exact (Later.refl _).drew | exact (Later.refl _).drewN _)).next ht12 hg12 hB); have R12 := Lib.hid ((H11.out.on (by first | exact Later.refl _ | exact (Later.refl _).drew | exact (Later.refl _).drewN _)).row hg12 (R11.out.later (by first | exact Later.refl _ | exact (Later.refl _).drew | exact (Later.refl _).drewN _))); have s12 := And.intro R12.out.head H12.out.cells; clear ht12 hg12)
      | (go_at_call 18; refine (HC1.out _ (H13.out.on (by first | exact Later.refl _ | exact (Later.refl _).drew | exact (Later.refl _).drewN _))).mono ?_; rintro e w14 ⟨u14, v14, rfl, hpr14⟩; have HL14 : Hid (Later w13 w14) := Later.trans (by first | exact Later.refl _ | exact (Later.refl _).drew | exact (Later.refl _).drewN _) hpr14.later; have H14 := Lib.hid (H13.out.on HL14.out); have R14 := Lib.hid (R13.out.later HL14.out); have s14 := And.intro R14.out.head H14.out.cells; obtain ⟨A3, c3, hv3, hc3, hr3⟩ := hpr14.old.row; obtain ⟨A4, c4, hv4, hc4, hr4⟩ := hpr14.new.row; subst hv3 hv4; have P14 := Lib.hid (pH_ok hr3 hr4 hc3 hc4); clear hpr14 hr3 hr4)
      | (go_at_call 17; refine (primSame_any ⟨pH, some ⟨g1, 0, none⟩, 1, 1, some ⟨g1 + 1, 0, none⟩, 2, 2⟩ ⟨pH, A3, 1, c3, A4, 2, c4⟩ _ (H14.out.prim.later (by first | exact Later.refl _ | exact (Later.refl _).drew | exact (Later.refl _).drewN _)) (P14.out.later (by first | exact Later.refl _ | exact (Later.refl _).drew | exact (Later.refl _).drewN _))).mono ?_; rw [sameP_self]; rintro e w15 ⟨rfl, hl15⟩; have HL15 : Hid (Later w14 w15) := Later.trans (by first | exact Later.refl _ | exact (Later.refl _).drew | exact (Later.refl _).drewN _) hl15; have H15 := Lib.hid (H14.out.on HL15.out); have R15 := Lib.hid (R14.out.later HL15.out); have s15 := And.intro R15.out.head H15.out.cells; clear hl15)
      | (go_at_call 9; refine (HR1.out _ (H15.out.on (by first | exact Later.refl _ | exact (Later.refl _).drew | exact (Later.refl _).drewN _))).mono ?_; rintro e w16 ⟨rfl, hl16⟩; have HL16 : Hid (Later w15 w16) := Later.trans (by first | exact Later.refl _ | exact (Later.refl _).drew | exact (Later.refl _).drewN _) hl16; have H16 := Lib.hid (H15.out.on HL16.out); have R16 := Lib.hid (R15.out.later HL16.out); have s16 := And.intro R16.out.head H16.out.cells; clear hl16))
  go_wp2
  go_ret
  exact ⟨rfl, H16.out.later⟩

end Go.Proofs.YtboffgmaohcpfaaDoor

/-
  What the law PrimRight comes to, as a call.
-/
namespace Go.Proofs.YtboffgmaohcpfaaDoor
open Go.RowKit Go.Maps

theorem BoxAt.six {w : World} {g : Nat} {x : PrC} {t : TypeId} (h : BoxAt w g (prL x).toArray t) : w.cell? ⟨g, 0, none⟩ = some (.int .i64 x.v.kind) ∧ w.cell? ⟨g, 1, none⟩ = some (.string x.v.name) ∧ w.cell? ⟨g, 2, none⟩ = some (.string x.v.to) ∧ w.cell? ⟨g, 3, none⟩ = some (.int .i64 x.v.place) ∧ w.cell? ⟨g, 4, none⟩ = some (.slice x.A x.n x.c) ∧ w.cell? ⟨g, 5, none⟩ = some (.slice x.B x.m x.d) :=
  ⟨h.cell rfl, h.cell rfl, h.cell rfl, h.cell rfl, h.cell rfl, h.cell rfl⟩

set_option maxRecDepth 100000 in
set_option maxHeartbeats 8000000 in
theorem primRight_walk (x : PrC) (w : World) (hx : CameP w x) (htab : Tab w) : Calls Tryd.prog 3 #[prV x] w (Says true w) := by
  have hw := hx.weigh
  have HM := Lib.hid (manyP_any (some ⟨w.heap.size + 1, 0, none⟩) 1 1 [x] ((w.alloc (.cells #[.int .i64 x.v.kind, .string x.v.name, .string x.v.to, .int .i64 x.v.place, .slice x.A x.n x.c, .slice x.B x.m x.d] 24)).alloc (.cells #[.int .i64 x.v.kind, .string x.v.name, .string x.v.to, .int .i64 x.v.place, .slice x.A x.n x.c, .slice x.B x.m x.d] 24)) (by have := prims_one hx ((Later.refl w).alloc (.cells #[.int .i64 x.v.kind, .string x.v.name, .string x.v.to, .int .i64 x.v.place, .slice x.A x.n x.c, .slice x.B x.m x.d] 24)) 24; simpa using this) (by omega) (by rw [weightPs_one]; omega))
  rw [weightPs_one] at HM
  have hlb : Later w ((w.alloc (.cells #[.int .i64 x.v.kind, .string x.v.name, .string x.v.to, .int .i64 x.v.place, .slice x.A x.n x.c, .slice x.B x.m x.d] 24)).alloc (.cells #[.int .i64 x.v.kind, .string x.v.name, .string x.v.to, .int .i64 x.v.place, .slice x.A x.n x.c, .slice x.B x.m x.d] 24)) := ((Later.refl w).alloc _).alloc _
  have hbx : BoxAt ((w.alloc (.cells #[.int .i64 x.v.kind, .string x.v.name, .string x.v.to, .int .i64 x.v.place, .slice x.A x.n x.c, .slice x.B x.m x.d] 24)).alloc (.cells #[.int .i64 x.v.kind, .string x.v.name, .string x.v.to, .int .i64 x.v.place, .slice x.A x.n x.c, .slice x.B x.m x.d] 24)) w.heap.size (prL x).toArray 24 := (BoxAt.made w (prL x).toArray 24).alloc _
  have HLB := Lib.hid hlb; have HBX := Lib.hid hbx; have HTB := Lib.hid htab; have HX := Lib.hid hx
  clear hlb hbx htab hx
  unfold prV
  by_cases hg : 4000 < 1 + weightP x.v
  · go_enter Tryd.func3, Tryd.ntmps3
    go_wp2_with fail
    refine HM.out.mono ?_
    rintro e w1 ⟨rfl, hl1⟩
    have HL1 := Lib.hid (HLB.out.trans hl1); clear hl1
    go_wp2_with fail
    refine (aliveP_any w1 (HTB.out.later HL1.out)).mono ?_
    rintro e w2 ⟨rfl, hl2⟩
    have HL2 := Lib.hid (HL1.out.trans hl2); clear hl2
    go_wp2
    go_ret
    exact ⟨rfl, HL2.out⟩
  · have hok := HX.out.ok (by omega)
    have HOK := Lib.hid hok
    clear hok
    go_enter Tryd.func3, Tryd.ntmps3
    go_wp2_with fail
    refine HM.out.mono ?_
    rintro e w1 ⟨rfl, hl1⟩
    have hb1 := HBX.out.later hl1
    obtain ⟨y0, y1, y2, y3, y4, y5⟩ := hb1.six
    have HL1 := Lib.hid (HLB.out.trans hl1)
    have HB1 := Lib.hid hb1
    clear hl1 hb1
    go_wp2_with fail
    have HS : Hid (∀ w', Later (w1.alloc (.cells #[.int .i64 x.v.kind, .string x.v.name, .string x.v.to, .int .i64 x.v.place, .slice x.A x.n x.c, .slice x.B x.m x.d] 28)) w' → w'.cell? ⟨w.heap.size, 0, none⟩ = some (.int .i64 x.v.kind) ∧ w'.cell? ⟨w.heap.size, 1, none⟩ = some (.string x.v.name) ∧ w'.cell? ⟨w.heap.size, 2, none⟩ = some (.string x.v.to) ∧ w'.cell? ⟨w.heap.size, 3, none⟩ = some (.int .i64 x.v.place) ∧ w'.cell? ⟨w.heap.size, 4, none⟩ = some (.slice x.A x.n x.c) ∧ w'.cell? ⟨w.heap.size, 5, none⟩ = some (.slice x.B x.m x.d) ∧ w'.cell? ⟨w1.heap.size, 0, none⟩ = some (.int .i64 x.v.kind) ∧ w'.cell? ⟨w1.heap.size, 1, none⟩ = some (.string x.v.name) ∧ w'.cell? ⟨w1.heap.size, 2, none⟩ = some (.string x.v.to) ∧ w'.cell? ⟨w1.heap.size, 3, none⟩ = some (.int .i64 x.v.place) ∧ w'.cell? ⟨w1.heap.size, 4, none⟩ = some (.slice x.A x.n x.c) ∧ w'.cell? ⟨w1.heap.size, 5, none⟩ = some (.slice x.B x.m x.d)) := fun w' hl => by
      have h1 := ((HB1.out.alloc (.cells #[.int .i64 x.v.kind, .string x.v.name, .string x.v.to, .int .i64 x.v.place, .slice x.A x.n x.c, .slice x.B x.m x.d] 28)).later hl).six
      have h2 := ((BoxAt.made w1 (prL x).toArray 28).later hl).six
      exact ⟨h1.1, h1.2.1, h1.2.2.1, h1.2.2.2.1, h1.2.2.2.2.1, h1.2.2.2.2.2, h2⟩
    have HL2 : Hid (Later w (w1.alloc (.cells #[.int .i64 x.v.kind, .string x.v.name, .string x.v.to, .int .i64 x.v.place, .slice x.A x.n x.c, .slice x.B x.m x.d] 28))) := HL1.out.alloc _
    generalize w1.heap.size = g1 at HS ⊢
    generalize w1.alloc (.cells #[.int .i64 x.v.kind, .string x.v.name, .string x.v.to, .int .i64 x.v.place, .slice x.A x.n x.c, .slice x.B x.m x.d] 28) = w2 at HS HL2 ⊢
    clear y0 y1 y2 y3 y4 y5 HB1 HM HBX HLB
    have s0 := HS.out w2 (Later.refl w2)
    have HP : Hid (∀ w', Later w2 w' → PrimAt w' (prV x) x.v) := fun w' hl => (HOK.out.later (HL2.out.trans hl)).at
    have HR1 := Lib.hid (fun (w' : World) (hl : Later w2 w') => right_v (HP.out w' hl))
    have HR2 := Lib.hid (fun (w' : World) (hl : Later w2 w') => refRight_v (HP.out w' hl))
    have HSM : Hid (∀ (w' : World) (v u : Value), PrimAt w' v (invertP x.v) → PrimAt w' u (invertP x.v) → Calls Tryd.prog 11 #[v, u] w' (Says true w')) := fun w' v u h1 h2 => by
      have := refSame_v h1 h2
      rw [sameP_self] at this
      exact this
    have HLS : Hid (∀ (w' : World) (v u : Value), Reads w' v (namesP x.v) → Reads w' u (namesP x.v) → Calls Tryd.prog 14 #[v, u] w' (Says true w')) := fun w' v u h1 h2 => by
      have := lineSame_v h1 h2 (namesP_length _) (namesP_length _)
      rw [sameB_self] at this
      exact this
    have HSS : Hid (∀ (w' : World) (u : Value), PrimAt w' (prV x) x.v → PrimAt w' u x.v → Calls Tryd.prog 17 #[prV x, u] w' (Says true w')) := fun w' u h1 h2 => by
      have := same_v h1 h2
      rw [sameP_self] at this
      exact this
    generalize rightP x.v = rb at HR1 HR2
    have hbb : (rb == rb) = true := by simp
    unfold prV at HR1 HR2 HP HSS
    clear HX HOK HL1
    go_region_held3 (fun w' => w'.cell? ⟨w.heap.size, 0, none⟩ = some (.int .i64 x.v.kind) ∧ w'.cell? ⟨w.heap.size, 1, none⟩ = some (.string x.v.name) ∧ w'.cell? ⟨w.heap.size, 2, none⟩ = some (.string x.v.to) ∧ w'.cell? ⟨w.heap.size, 3, none⟩ = some (.int .i64 x.v.place) ∧ w'.cell? ⟨w.heap.size, 4, none⟩ = some (.slice x.A x.n x.c) ∧ w'.cell? ⟨w.heap.size, 5, none⟩ = some (.slice x.B x.m x.d) ∧ w'.cell? ⟨g1, 0, none⟩ = some (.int .i64 x.v.kind) ∧ w'.cell? ⟨g1, 1, none⟩ = some (.string x.v.name) ∧ w'.cell? ⟨g1, 2, none⟩ = some (.string x.v.to) ∧ w'.cell? ⟨g1, 3, none⟩ = some (.int .i64 x.v.place) ∧ w'.cell? ⟨g1, 4, none⟩ = some (.slice x.A x.n x.c) ∧ w'.cell? ⟨g1, 5, none⟩ = some (.slice x.B x.m x.d))
      (first | exact s11 | exact s10 | exact s9 | exact s8 | exact s7 | exact s6 | exact s5 | exact s4 | exact s3 | exact s2 | exact s1 | exact s0)
      (first
      | (go_at_call 8; refine (aliveP_any _ (HTB.out.later (HL2.out.trans (by first | exact Later.refl _ | exact (Later.refl _).drew | exact (Later.refl _).drewN _)))).mono ?_; rintro e m1 ⟨rfl, hl1⟩; have L1 : Hid (Later w2 m1) := Later.trans (by first | exact Later.refl _ | exact (Later.refl _).drew | exact (Later.refl _).drewN _) hl1; have s1 := HS.out m1 L1.out; clear hl1)
      | (go_at_call 9; refine (HR1.out _ (Later.trans L1.out (by first | exact Later.refl _ | exact (Later.refl _).drew | exact (Later.refl _).drewN _))).mono ?_; rintro e m2 ⟨rfl, hl2⟩; have L2 : Hid (Later w2 m2) := Later.trans (Later.trans L1.out (by first | exact Later.refl _ | exact (Later.refl _).drew | exact (Later.refl _).drewN _)) hl2; have s2 := HS.out m2 L2.out; clear hl2)
      | (go_at_call 10; refine (HR2.out _ (Later.trans L2.out (by first | exact Later.refl _ | exact (Later.refl _).drew | exact (Later.refl _).drewN _))).mono ?_; rintro e m3 ⟨rfl, hl3⟩; have L3 : Hid (Later w2 m3) := Later.trans (Later.trans L2.out (by first | exact Later.refl _ | exact (Later.refl _).drew | exact (Later.refl _).drewN _)) hl3; have s3 := HS.out m3 L3.out; clear hl3)
      | (go_at_call 12; refine (invert_v (HP.out _ (Later.trans L3.out (by first | exact Later.refl _ | exact (Later.refl _).drew | exact (Later.refl _).drewN _)))).mono ?_; rintro e m4 ⟨vq, rfl, hvq, hl4⟩; have L4 : Hid (Later w2 m4) := Later.trans (Later.trans L3.out (by first | exact Later.refl _ | exact (Later.refl _).drew | exact (Later.refl _).drewN _)) hl4; have s4 := HS.out m4 L4.out; have Hvq := Lib.hid hvq; clear hvq; clear hl4)
      | (go_at_call 13; refine (refInvert_v (HP.out _ (Later.trans L4.out (by first | exact Later.refl _ | exact (Later.refl _).drew | exact (Later.refl _).drewN _)))).mono ?_; rintro e m5 ⟨vi, rfl, hvi, hl5⟩; have L5 : Hid (Later w2 m5) := Later.trans (Later.trans L4.out (by first | exact Later.refl _ | exact (Later.refl _).drew | exact (Later.refl _).drewN _)) hl5; have s5 := HS.out m5 L5.out; have Hvq := Lib.hid (Hvq.out.later (Later.trans (by first | exact Later.refl _ | exact (Later.refl _).drew | exact (Later.refl _).drewN _) hl5)); have Hvi := Lib.hid hvi; clear hvi; clear hl5)
      | (go_at_call 11; refine (HSM.out _ vq vi (Hvq.out.later (by first | exact Later.refl _ | exact (Later.refl _).drew | exact (Later.refl _).drewN _)) (Hvi.out.later (by first | exact Later.refl _ | exact (Later.refl _).drew | exact (Later.refl _).drewN _))).mono ?_; rintro e m6 ⟨rfl, hl6⟩; have L6 : Hid (Later w2 m6) := Later.trans (Later.trans L5.out (by first | exact Later.refl _ | exact (Later.refl _).drew | exact (Later.refl _).drewN _)) hl6; have s6 := HS.out m6 L6.out; have Hvq := Lib.hid (Hvq.out.later (Later.trans (by first | exact Later.refl _ | exact (Later.refl _).drew | exact (Later.refl _).drewN _) hl6)); have Hvi := Lib.hid (Hvi.out.later (Later.trans (by first | exact Later.refl _ | exact (Later.refl _).drew | exact (Later.refl _).drewN _) hl6)); clear hl6)
      | (go_at_call 15; refine (names_v (HP.out _ (Later.trans L6.out (by first | exact Later.refl _ | exact (Later.refl _).drew | exact (Later.refl _).drewN _)))).mono ?_; rintro e m7 ⟨vn, rfl, hvn, hl7⟩; have L7 : Hid (Later w2 m7) := Later.trans (Later.trans L6.out (by first | exact Later.refl _ | exact (Later.refl _).drew | exact (Later.refl _).drewN _)) hl7; have s7 := HS.out m7 L7.out; have Hvq := Lib.hid (Hvq.out.later (Later.trans (by first | exact Later.refl _ | exact (Later.refl _).drew | exact (Later.refl _).drewN _) hl7)); have Hvi := Lib.hid (Hvi.out.later (Later.trans (by first | exact Later.refl _ | exact (Later.refl _).drew | exact (Later.refl _).drewN _) hl7)); have Hvn := Lib.hid hvn; clear hvn; clear hl7)
      | (go_at_call 16; refine (refNames_v (HP.out _ (Later.trans L7.out (by first | exact Later.refl _ | exact (Later.refl _).drew | exact (Later.refl _).drewN _)))).mono ?_; rintro e m8 ⟨vm, rfl, hvm, hl8⟩; have L8 : Hid (Later w2 m8) := Later.trans (Later.trans L7.out (by first | exact Later.refl _ | exact (Later.refl _).drew | exact (Later.refl _).drewN _)) hl8; have s8 := HS.out m8 L8.out; have Hvq := Lib.hid (Hvq.out.later (Later.trans (by first | exact Later.refl _ | exact (Later.refl _).drew | exact (Later.refl _).drewN _) hl8)); have Hvi := Lib.hid (Hvi.out.later (Later.trans (by first | exact Later.refl _ | exact (Later.refl _).drew | exact (Later.refl _).drewN _) hl8)); have Hvn := Lib.hid (Hvn.out.later (Later.trans (by first | exact Later.refl _ | exact (Later.refl _).drew | exact (Later.refl _).drewN _) hl8)); have Hvm := Lib.hid hvm; clear hvm; clear hl8)
      | (go_at_call 14; refine (HLS.out _ vn vm (Hvn.out.later (by first | exact Later.refl _ | exact (Later.refl _).drew | exact (Later.refl _).drewN _)) (Hvm.out.later (by first | exact Later.refl _ | exact (Later.refl _).drew | exact (Later.refl _).drewN _))).mono ?_; rintro e m9 ⟨rfl, hl9⟩; have L9 : Hid (Later w2 m9) := Later.trans (Later.trans L8.out (by first | exact Later.refl _ | exact (Later.refl _).drew | exact (Later.refl _).drewN _)) hl9; have s9 := HS.out m9 L9.out; have Hvq := Lib.hid (Hvq.out.later (Later.trans (by first | exact Later.refl _ | exact (Later.refl _).drew | exact (Later.refl _).drewN _) hl9)); have Hvi := Lib.hid (Hvi.out.later (Later.trans (by first | exact Later.refl _ | exact (Later.refl _).drew | exact (Later.refl _).drewN _) hl9)); have Hvn := Lib.hid (Hvn.out.later (Later.trans (by first | exact Later.refl _ | exact (Later.refl _).drew | exact (Later.refl _).drewN _) hl9)); have Hvm := Lib.hid (Hvm.out.later (Later.trans (by first | exact Later.refl _ | exact (Later.refl _).drew | exact (Later.refl _).drewN _) hl9)); clear hl9)
      | (go_at_call 18; refine (clone_v (HP.out _ (Later.trans L9.out (by first | exact Later.refl _ | exact (Later.refl _).drew | exact (Later.refl _).drewN _)))).mono ?_; rintro e m10 ⟨vc, rfl, hvc, hl10⟩; have L10 : Hid (Later w2 m10) := Later.trans (Later.trans L9.out (by first | exact Later.refl _ | exact (Later.refl _).drew | exact (Later.refl _).drewN _)) hl10; have s10 := HS.out m10 L10.out; have Hvq := Lib.hid (Hvq.out.later (Later.trans (by first | exact Later.refl _ | exact (Later.refl _).drew | exact (Later.refl _).drewN _) hl10)); have Hvi := Lib.hid (Hvi.out.later (Later.trans (by first | exact Later.refl _ | exact (Later.refl _).drew | exact (Later.refl _).drewN _) hl10)); have Hvn := Lib.hid (Hvn.out.later (Later.trans (by first | exact Later.refl _ | exact (Later.refl _).drew | exact (Later.refl _).drewN _) hl10)); have Hvm := Lib.hid (Hvm.out.later (Later.trans (by first | exact Later.refl _ | exact (Later.refl _).drew | exact (Later.refl _).drewN _) hl10)); have Hvc := Lib.hid hvc; clear hvc; clear hl10)
      | (go_at_call 17; refine (HSS.out _ vc (HP.out _ (Later.trans L10.out (by first | exact Later.refl _ | exact (Later.refl _).drew | exact (Later.refl _).drewN _))) (Hvc.out.later (by first | exact Later.refl _ | exact (Later.refl _).drew | exact (Later.refl _).drewN _))).mono ?_; rintro e m11 ⟨rfl, hl11⟩; have L11 : Hid (Later w2 m11) := Later.trans (Later.trans L10.out (by first | exact Later.refl _ | exact (Later.refl _).drew | exact (Later.refl _).drewN _)) hl11; have s11 := HS.out m11 L11.out; have Hvq := Lib.hid (Hvq.out.later (Later.trans (by first | exact Later.refl _ | exact (Later.refl _).drew | exact (Later.refl _).drewN _) hl11)); have Hvi := Lib.hid (Hvi.out.later (Later.trans (by first | exact Later.refl _ | exact (Later.refl _).drew | exact (Later.refl _).drewN _) hl11)); have Hvn := Lib.hid (Hvn.out.later (Later.trans (by first | exact Later.refl _ | exact (Later.refl _).drew | exact (Later.refl _).drewN _) hl11)); have Hvm := Lib.hid (Hvm.out.later (Later.trans (by first | exact Later.refl _ | exact (Later.refl _).drew | exact (Later.refl _).drewN _) hl11)); have Hvc := Lib.hid (Hvc.out.later (Later.trans (by first | exact Later.refl _ | exact (Later.refl _).drew | exact (Later.refl _).drewN _) hl11)); clear hl11))
    go_wp2
    go_ret
    exact ⟨rfl, HL2.out.trans L11.out⟩

end Go.Proofs.YtboffgmaohcpfaaDoor
