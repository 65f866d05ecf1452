import Derived.Test.YtnhhdjcbifmfgaaDoorPk7
import Derived.Test.YtnhhdjcbifmfgaaDoorPk8
import Derived.Test.YtnhhdjcbifmfgaaDoorPk6
import Derived.Deep.RegionHeld3
import Derived.Test.YtnhhdjcbifmfgaaDoorPk5
import Derived.Test.YtnhhdjcbifmfgaaDoorPk3
import Derived.Sort.OwnSorted
import Derived.Deep.LoopGhost
import Derived.Deep.QuietTactic
import Derived.BigQuiet
import Derived.Lib.Hide

/-
  What prim's Apply comes to, as a call.
-/
namespace Go.Proofs.YtnhhdjcbifmfgaaDoor
open Go.RowKit Go.Maps

theorem deed_enters {k : Int} (hk : k = 0 ∨ k = 1 ∨ k = 2 ∨ k = 3) : ∀ (args : Array Value) (w : World), (callFunc (deedAt k) args).run Tryd.prog w = .ok (.enter (deedAt k) args) w := by
  rcases hk with rfl | rfl | rfl | rfl
  · exact enters_of Tryd.func38 (by kernel_rfl) rfl
  · exact enters_of Tryd.func39 (by kernel_rfl) rfl
  · exact enters_of Tryd.func40 (by kernel_rfl) rfl
  · exact enters_of Tryd.func41 (by kernel_rfl) rfl

/-- Each kind by its own function. -/
theorem deed_any (x : PrC) (p B k h : Nat) (t : Tr) (w : World) (ht : TreeAt w p B t) (hx : PrOk w x) (hr : rightP x.v = true) (hs : Sized k h t) (hk : k ≤ 60000) (hh : h + x.m ≤ 65536) :
    ∃ r : Tr × Int, Calls Tryd.prog (deedAt x.v.kind) #[prV x, .pointer (some ⟨p, 0, none⟩)] w (Deed r p B w) ∧ applyP t x.v = (r.1, if (r.2 == 0) = true then 0 else 31) := by
  have hl : t.length ≤ 65536 := by have := hs.many; omega
  have hb : ∀ f ∈ t, f.2.length ≤ 65536 := fun f hf => by have := (hs.each f hf).2.2; omega
  rcases (right_parts hr).2.1 with e | e | e | e
  · refine ⟨hunkT t x.v, by rw [e]; exact deedSplice_any x p B k h t w ht hx hr hs hk hh, ?_⟩
    rw [apply_hunk hr e]
    unfold hunkT
    split
    · rfl
    · split <;> rfl
  · refine ⟨addT t x.v.name, by rw [e]; exact deedAdd_any x p B t w ht hx hl, ?_⟩
    rw [apply_add hr e]; simp
  · refine ⟨removeT t x.v.name, by rw [e]; exact deedRemove_any x p B t w ht hx hb, ?_⟩
    rw [apply_rm hr e]; simp
  · refine ⟨moveT t x.v.name x.v.to, by rw [e]; exact deedMove_any x p B t w ht hx hl, ?_⟩
    rw [apply_move hr e]; simp

set_option maxRecDepth 100000 in
set_option maxHeartbeats 800000 in
theorem apply_any (x : PrC) (p B k h : Nat) (t : Tr) (w : World) (ht : TreeAt w p B t) (hx : PrOk w x) (hs : Sized k h t) (hk : k ≤ 60000) (hh : h + x.m ≤ 65536) :
    Calls Tryd.prog 13 #[.pointer (some ⟨p, 0, none⟩), prV x] w (Does (applyP t x.v) p B w) := by
  have hlb : Later w (w.alloc (.cells #[.int .i64 x.v.kind, .string x.v.name, .string x.v.to, .int .i64 x.v.place, .slice x.A x.n x.c, .slice x.B x.m x.d] 29)) := (Later.refl w).alloc _
  have hri := primRight_any x _ (hx.later hlb)
  have hbx : BoxAt (w.alloc (.cells #[.int .i64 x.v.kind, .string x.v.name, .string x.v.to, .int .i64 x.v.place, .slice x.A x.n x.c, .slice x.B x.m x.d] 29)) w.heap.size #[.int .i64 x.v.kind, .string x.v.name, .string x.v.to, .int .i64 x.v.place, .slice x.A x.n x.c, .slice x.B x.m x.d] 29 := BoxAt.made w _ _
  have HLB := Lib.hid hlb; have HT := Lib.hid ht; have HBX := Lib.hid hbx
  cases hr : rightP x.v
  · rw [hr] at hri
    have HR := Lib.hid hri
    rw [apply_wrong hr]
    clear hri hr hx hs hlb ht hbx
    unfold prV at HR ⊢
    go_enter Tryd.func13, Tryd.ntmps13
    go_wp2_with fail
    refine HR.out.mono ?_
    rintro e w1 ⟨rfl, hl1⟩
    have HL1 := Lib.hid (HLB.out.trans hl1); clear hl1
    go_wp2
    go_ret
    exact ⟨rfl, HT.out.later HL1.out, HL1.out.turned B⟩
  · rw [hr] at hri
    have HR := Lib.hid hri
    have HD := Lib.hid (fun (w1 : World) (hl : Later w w1) => deed_any x p B k h t w1 (ht.later hl) (hx.later hl) hr hs hk hh)
    have HK := Lib.hid (right_parts hr).2.1
    clear hri hr hx hs hlb ht hbx
    unfold prV at HR HD ⊢
    go_enter Tryd.func13, Tryd.ntmps13
    go_wp2_with fail
    refine HR.out.mono ?_
    rintro e w1 ⟨rfl, hl1⟩
    have hb1 := HBX.out.later hl1
    have HL1 := Lib.hid (HLB.out.trans hl1)
    have x0 := hb1.cell (i := 0) rfl
    have HB1 := Lib.hid hb1
    clear hl1 hb1
    go_wp2_with fail
    go_region_held3 (fun w' => w'.cell? ⟨w.heap.size, 0, none⟩ = some (.int .i64 x.v.kind)) (go_keep)
      (first | (go_at_call 25; refine (deeds_any _).mono ?_; rintro e w2 ⟨B2, rfl, hd2, hl2⟩; have HL2 : Hid (Later w1 w2) := Later.trans (by first | exact Later.refl _ | exact (Later.refl _).drew | exact (Later.refl _).drewN _) hl2; have x02 := HL2.out.cell x0; have hlk := hd2.look HK.out; have HD2 := Lib.hid hd2; clear hd2 hl2))
    have hb2 := HB1.out.later HL2.out
    have y0 := hb2.cell (i := 0) rfl; have y1 := hb2.cell (i := 1) rfl; have y2 := hb2.cell (i := 2) rfl; have y3 := hb2.cell (i := 3) rfl; have y4 := hb2.cell (i := 4) rfl; have y5 := hb2.cell (i := 5) rfl
    obtain ⟨r, hcall, happ⟩ := HD.out w2 (HL1.out.trans HL2.out)
    have HCL := Lib.hid hcall; have HAP := Lib.hid happ
    have eg := deed_enters HK.out
    generalize deedAt x.v.kind = f at HCL eg hlk ⊢
    clear hb2 hcall happ hlk x0 x02 HD
    unfold Deed at HCL
    generalize (r.2 == 0) = b at HCL HAP
    cases b
    · go_wp2_with (go_at_fn f; refine HCL.out.mono ?_; rintro e w3 ⟨rfl, h3, h4⟩; have H3 := Lib.hid h3; have H4 := Lib.hid h4; clear h3 h4)
      go_ret
      rw [HAP.out]
      exact ⟨rfl, H3.out, ((HL1.out.trans HL2.out).turned B).trans H4.out⟩
    · go_wp2_with (go_at_fn f; refine HCL.out.mono ?_; rintro e w3 ⟨rfl, h3, h4⟩; have H3 := Lib.hid h3; have H4 := Lib.hid h4; clear h3 h4)
      go_ret
      rw [HAP.out]
      exact ⟨rfl, H3.out, ((HL1.out.trans HL2.out).turned B).trans H4.out⟩

end Go.Proofs.YtnhhdjcbifmfgaaDoor

/-
  What prim's Names comes to, as a call.
-/
namespace Go.Proofs.YtnhhdjcbifmfgaaDoor
open Go.RowKit Go.Maps Go.Sort

theorem Row.lit2 (w : World) (o : Obj) (ss : List ByteArray) (t : TypeId) : Row ((w.alloc o).alloc (.cells (ss.map Value.string).toArray t)) (some ⟨w.heap.size + 1, 0, .none⟩) ss.length ss := by
  have := Row.lit (w.alloc o) ss t
  rw [show (w.alloc o).heap.size = w.heap.size + 1 from by simp] at this
  exact this
theorem enc_bytes (s : ByteArray) : encStr (bytes s) = .string s := by
  show Value.string (txt (bytes s)) = _
  rw [txt_bytes]

theorem sorted_two (a b : ByteArray) : ([bytes a, bytes b]).mergeSort (fun x y => decide (x ≤ y)) = (if ltN a b = true then [a, b] else [b, a]).map bytes := by
  by_cases h : ltN a b = true
  · rw [if_pos h]
    refine List.mergeSort_of_pairwise (List.pairwise_cons.2 ⟨fun y hy => ?_, List.pairwise_singleton _ _⟩)
    simp at hy
    subst hy
    simp only [decide_eq_true_eq]
    exact List.le_of_lt ((before_lt _ _).1 h)
  · rw [if_neg h]
    have e : ([bytes a, bytes b]).mergeSort leB = ([bytes b, bytes a]).mergeSort leB := mergeSort_of_perm (List.Perm.swap _ _ _)
    rw [show (fun x y : List UInt8 => decide (x ≤ y)) = leB from rfl, e]
    refine List.mergeSort_of_pairwise (List.pairwise_cons.2 ⟨fun y hy => ?_, List.pairwise_singleton _ _⟩)
    simp at hy
    subst hy
    simp only [leB, decide_eq_true_eq]
    exact List.not_lt.1 fun hl => h ((before_lt _ _).2 hl)

theorem namesP_move (nm to : ByteArray) (pl : Int) (old new : List ByteArray) : namesP ⟨3, nm, to, pl, old, new⟩ = if ltN nm to = true then [nm, to] else [to, nm] := by simp [namesP]
theorem namesP_one (k : Int) (nm to : ByteArray) (pl : Int) (old new : List ByteArray) (h : k ≠ 3) : namesP ⟨k, nm, to, pl, old, new⟩ = [nm] := by simp [namesP, h]

set_option maxRecDepth 100000 in
set_option maxHeartbeats 800000 in
theorem primNames_any (x : PrC) (w : World) : Calls Tryd.prog 18 #[prV x] w (GivesRow (namesP x.v) w) := by
  obtain ⟨⟨kd, nm, to, pl, old, new⟩, A, n, c, B, m, d⟩ := x
  unfold prV
  dsimp only
  by_cases h3 : kd = 3
  · subst h3
    have hb : ((w.alloc (.cells #[.int .i64 3, .string nm, .string to, .int .i64 pl, .slice A n c, .slice B m d] 29)).alloc (.cells #[.string nm, .string to] 9)).heap[w.heap.size + 1]? = some (.cells #[.string nm, .string to] 9 (0, 0)) := heap_alloc2_new w _ _
    have hh := holds_of_block (ss := [bytes nm, bytes to]) hb (by simp [enc_bytes])
    have hs := AnyM.slices_Sort_string Tryd.laysSort (w.heap.size + 1) 0 2 [bytes nm, bytes to] _ hh (by simp) (by simp)
    rw [sorted_two] at hs
    have hl : Later w ((w.alloc (.cells #[.int .i64 3, .string nm, .string to, .int .i64 pl, .slice A n c, .slice B m d] 29)).alloc (.cells #[.string nm, .string to] 9)) := ((Later.refl w).alloc _).alloc _
    rw [namesP_move]
    have hlen : (if ltN nm to = true then [nm, to] else [to, nm]).length = 2 := by split <;> rfl
    generalize (if ltN nm to = true then [nm, to] else [to, nm]) = l at hs hlen ⊢
    have HS := Lib.hid hs; have HB := Lib.hid hb; have HL := Lib.hid hl; have HN := Lib.hid hlen
    clear hs hb hh hl hlen
    go_enter Tryd.func18, Tryd.ntmps18
    go_wp2_with (go_at_call 32; refine HS.out.mono ?_; rintro e w1 ⟨rfl, k1, os1, rfl⟩)
    go_ret
    have h1 := ownsRow_sorted (n := k1) (os := os1) (base := w.heap.size) (g := w.heap.size + 1) (cap := 2) (ss := [bytes nm, bytes to]) (ts := l.map bytes) (by simp [HN.out]) (by omega) HB.out (by simp) (by decide) rfl
    have h2 : (l.map bytes).map encStr = l.map Value.string := by
      rw [List.map_map]
      exact List.map_congr_left fun s _ => enc_bytes s
    rw [h2] at h1
    have hl2 := HL.out.turn (B := w.heap.size + 1) (grownBy_sorted (n := k1) (os := os1) (l.map bytes).toArray) (by omega)
    have h3 : Own 9 w _ (.slice (some ⟨w.heap.size + 1, 0, none⟩) 2 2) l := ⟨by rw [HN.out]; exact h1, hl2⟩
    obtain ⟨A9, c9, hv9, hc9, hr9⟩ := h3.row
    exact ⟨A9, c9, by rw [← hv9]; rfl, hc9, hr9, hl2⟩
  · rw [namesP_one kd nm to pl old new h3]
    go_enter Tryd.func18, Tryd.ntmps18
    go_wp2
    go_ret
    exact ⟨_, _, rfl, Nat.le_refl _, Row.lit2 w _ [nm] 9, ((Later.refl w).alloc _).alloc _⟩

end Go.Proofs.YtnhhdjcbifmfgaaDoor

/-
  The statements' own example: two lines in the place of one.
-/
namespace Go.Proofs.YtnhhdjcbifmfgaaDoor
open Go.RowKit Go.Maps

def qA : ByteArray := ⟨#[97]⟩
def qB : ByteArray := ⟨#[98]⟩
def qX : ByteArray := ⟨#[120]⟩
def qY : ByteArray := ⟨#[121]⟩
def qZ : ByteArray := ⟨#[122]⟩
def uA0 : Tr := [(qA, [])]
def uA : Tr := [(qA, [qX, qY])]
def uZ : Tr := [(qA, [qX, qZ, qZ])]
def uB : Tr := [(qB, [qX, qY])]
def pH : Pr := ⟨0, qA, ByteArray.empty, 1, [qY], [qZ, qZ]⟩
def bareC (k : Int) (a b : ByteArray) : PrC := ⟨⟨k, a, b, 0, [], []⟩, none, 0, 0, none, 0, 0⟩

theorem qx1 : applyP [] (bareC 1 qA ByteArray.empty).v = (uA0, 0) := by kernel_rfl
theorem qx2 : putT uA0 qA [qX, qY] = (uA, 0) := by kernel_rfl
theorem qx3 : applyP uA pH = (uZ, 0) := by kernel_rfl
theorem qx4 : applyP uZ (invertP pH) = (uA, 0) := by kernel_rfl
theorem qx5 : applyP uA (bareC 3 qA qB).v = (uB, 0) := by kernel_rfl
theorem qx6 : namesP (bareC 3 qB qA).v = [qA, qB] := by kernel_rfl
theorem qx7 : applyP uB pH = (uB, 31) := by kernel_rfl
theorem qx8 : applyP uB (bareC 0 ByteArray.empty ByteArray.empty).v = (uB, 30) := by kernel_rfl
theorem qx9 : rightP pH = true := by kernel_rfl
theorem qt1 : txt (textT uZ) = ⟨#[97, 32, 51, 10, 120, 10, 122, 10, 122, 10]⟩ := by kernel_rfl
theorem qt2 : txt (textT uB) = ⟨#[98, 32, 50, 10, 120, 10, 121, 10]⟩ := by kernel_rfl
theorem qt3 : (textT uZ).length ≤ 1000000 := of_decide_eq_true (by kernel_rfl)
theorem qt4 : (textT uB).length ≤ 1000000 := of_decide_eq_true (by kernel_rfl)
theorem small_q {s : ByteArray} (h : s.size ≤ 100) : s.size ≤ maxLen := by simp only [maxLen]; omega
theorem sizedA : Sized 1 3 uA := ⟨by simp [uA], fun f hf => by simp [uA] at hf; subst hf; exact ⟨by kernel_rfl, by kernel_rfl, by simp⟩⟩
theorem sizedZ : Sized 1 3 uZ := ⟨by simp [uZ], fun f hf => by simp [uZ] at hf; subst hf; exact ⟨by kernel_rfl, by kernel_rfl, by simp⟩⟩
theorem sizedB : Sized 1 3 uB := ⟨by simp [uB], fun f hf => by simp [uB] at hf; subst hf; exact ⟨by kernel_rfl, by kernel_rfl, by simp⟩⟩
theorem sized_some {k h : Nat} {t : Tr} (hs : Sized k h t) (hh : h ≤ 65536) : ∀ f ∈ t, f.1.size ≤ maxLen ∧ f.2.length ≤ 65536 := fun f hf => by
  have h1 := (hs.each f hf).1
  simp only [namedB, Bool.and_eq_true, decide_eq_true_eq] at h1
  exact ⟨by simp only [maxLen]; omega, Nat.le_trans (hs.each f hf).2.2 hh⟩
theorem bare_ok (w : World) (k : Int) {a b : ByteArray} (ha : a.size ≤ 100) (hb : b.size ≤ 100) : PrOk w (bareC k a b) :=
  ⟨Row.none, Row.none, Nat.le_refl _, Nat.le_refl _, by simp [bareC], by simp [bareC], small_q ha, small_q hb, by simp [bareC], by simp [bareC], (fun s hs => by simp [bareC] at hs), (fun s hs => by simp [bareC] at hs)⟩

theorem pH_ok {w : World} {A C : Option Addr} {c d : Nat} (h1 : Row w A 1 [qY]) (h2 : Row w C 2 [qZ, qZ]) (hc : 1 ≤ c) (hd : 2 ≤ d) : PrOk w ⟨pH, A, 1, c, C, 2, d⟩ :=
  ⟨h1, h2, hc, hd, show 1 ≤ 65536 by decide, show 2 ≤ 65536 by decide, small_q (show qA.size ≤ 100 by decide), small_q (show ByteArray.empty.size ≤ 100 by decide), show (-9223372036854775808 : Int) ≤ 1 by decide, show (1 : Int) ≤ 9223372036854775807 by decide,
    (fun s hs => by simp [pH] at hs; subst hs; exact small_q (by decide)), (fun s hs => by simp [pH] at hs; subst hs; exact small_q (by decide))⟩
theorem pI_ok {w : World} {A C : Option Addr} {c d : Nat} (h1 : Row w A 2 [qZ, qZ]) (h2 : Row w C 1 [qY]) (hc : 2 ≤ c) (hd : 1 ≤ d) : PrOk w ⟨invertP pH, A, 2, c, C, 1, d⟩ :=
  ⟨h1, h2, hc, hd, show 2 ≤ 65536 by decide, show 1 ≤ 65536 by decide, small_q (show qA.size ≤ 100 by decide), small_q (show ByteArray.empty.size ≤ 100 by decide), show (-9223372036854775808 : Int) ≤ 1 by decide, show (1 : Int) ≤ 9223372036854775807 by decide,
    (fun s hs => by simp [pH, invertP] at hs; subst hs; exact small_q (by decide)), (fun s hs => by simp [pH, invertP] at hs; subst hs; exact small_q (by decide))⟩
theorem PrOk.turned {w w' : World} {x : PrC} {B : Nat} (h : PrOk w x) (hg : Turned B w w') {es : Array MapEntry} {c : Nat} (hm : w.heap[B]? = some (.map es c)) : PrOk w' x :=
  ⟨h.old.turned hg hm, h.new.turned hg hm, h.oroom, h.nroom, h.omost, h.nmost, h.name, h.to, h.lo, h.hi, h.olds, h.news⟩
theorem BoxAt.turned {w w' : World} {g B : Nat} {cs : Array Value} {t : TypeId} (h : BoxAt w g cs t) (hg : Turned B w w') {es : Array MapEntry} {c : Nat} (hm : w.heap[B]? = some (.map es c)) : BoxAt w' g cs t :=
  h.other hg (by rintro rfl; unfold BoxAt at h; rw [h] at hm; cases hm)
/-- What stands while a tree turns: the tree, a prim, its box. -/
structure Stand (w w' : World) (p B : Nat) (t : Tr) (x : PrC) (g : Nat) : Prop where
  tree : TreeAt w' p B t
  prim : PrOk w' x
  box : BoxAt w' g (prL x).toArray 29
  later : Later w w'
theorem Stand.next {w w1 w2 : World} {p B g : Nat} {t t' : Tr} {x : PrC} (h : Stand w w1 p B t x g) (ht : TreeAt w2 p B t') (hg : Turned B w1 w2) (hB : w.heap.size ≤ B) : Stand w w2 p B t' x g := by
  obtain ⟨es, c, hm⟩ := h.tree.files.map
  exact ⟨ht, h.prim.turned hg hm, h.box.turned hg hm, h.later.turn hg hB⟩
theorem Stand.on {w w1 w2 : World} {p B g : Nat} {t : Tr} {x : PrC} (h : Stand w w1 p B t x g) (hl : Later w1 w2) : Stand w w2 p B t x g := ⟨h.tree.later hl, h.prim.later hl, h.box.later hl, h.later.trans hl⟩
theorem Stand.row {w w1 w2 : World} {p B g n : Nat} {t : Tr} {x : PrC} {A : Option Addr} {l : List ByteArray} (h : Stand w w1 p B t x g) (hg : Turned B w1 w2) (hr : Row w1 A n l) : Row w2 A n l := by
  obtain ⟨es, c, hm⟩ := h.tree.files.map
  exact hr.turned hg hm
theorem Row.head {w : World} {b o n : Nat} {s : ByteArray} {l : List ByteArray} (h : Row w (some ⟨b, o, .none⟩) n (s :: l)) : w.cell? ⟨b, o, .none⟩ = some (.string s) := by
  obtain ⟨b', o', e, hc⟩ := h.2 (by have := h.1; simp at this; omega)
  cases e
  have := hc 0 s rfl
  simpa using this
/-- The six cells of the box. -/
theorem Stand.cells {w w1 : World} {p B g : Nat} {t : Tr} {x : PrC} (h : Stand w w1 p B t x g) : w1.cell? ⟨g, 0, none⟩ = some (.int .i64 x.v.kind) ∧ w1.cell? ⟨g, 1, none⟩ = some (.string x.v.name) ∧ w1.cell? ⟨g, 2, none⟩ = some (.string x.v.to) ∧ w1.cell? ⟨g, 3, none⟩ = some (.int .i64 x.v.place) ∧ w1.cell? ⟨g, 4, none⟩ = some (.slice x.A x.n x.c) ∧ w1.cell? ⟨g, 5, none⟩ = some (.slice x.B x.m x.d) :=
  ⟨h.box.cell rfl, h.box.cell rfl, h.box.cell rfl, h.box.cell rfl, h.box.cell rfl, h.box.cell rfl⟩

set_option maxRecDepth 100000 in
set_option maxHeartbeats 8000000 in
theorem aliveP_any (w : World) (htab : Tab w) : Calls Tryd.prog 6 #[] w (Says true w) := by
  have HTB := Lib.hid htab; clear htab
  go_enter Tryd.func6, Tryd.ntmps6
  go_wp2_with fail
  refine (new_any w).mono ?_
  rintro e w1 ⟨p, B, rfl, ht1, hp, hB, hl1⟩
  have HT1 := Lib.hid ht1; have HL1 := Lib.hid hl1; clear ht1 hl1
  go_wp2_with fail
  have hst : Stand w (((w1.alloc (.cells #[.string ⟨#[121]⟩] 9)).alloc (.cells #[.string ⟨#[122]⟩, .string ⟨#[122]⟩] 9)).alloc (.cells #[.int .i64 0, .string ⟨#[97]⟩, .string ⟨#[]⟩, .int .i64 1, .slice (some ⟨w1.heap.size, 0, none⟩) 1 1, .slice (some ⟨w1.heap.size + 1, 0, none⟩) 2 2] 29)) p B [] ⟨pH, some ⟨w1.heap.size, 0, none⟩, 1, 1, some ⟨w1.heap.size + 1, 0, none⟩, 2, 2⟩ (w1.heap.size + 1 + 1) := by
    have hl : Later w1 (((w1.alloc (.cells #[.string ⟨#[121]⟩] 9)).alloc (.cells #[.string ⟨#[122]⟩, .string ⟨#[122]⟩] 9)).alloc (.cells #[.int .i64 0, .string ⟨#[97]⟩, .string ⟨#[]⟩, .int .i64 1, .slice (some ⟨w1.heap.size, 0, none⟩) 1 1, .slice (some ⟨w1.heap.size + 1, 0, none⟩) 2 2] 29)) := (((Later.refl w1).alloc _).alloc _).alloc _
    refine ⟨HT1.out.later hl, pH_ok ((Row.lit w1 [qY] 9).later (((Later.refl _).alloc _).alloc _)) ((Row.lit2 w1 _ [qZ, qZ] 9).later ((Later.refl _).alloc _)) (Nat.le_refl _) (Nat.le_refl _), ?_, HL1.out.trans hl⟩
    have := BoxAt.made ((w1.alloc (.cells #[.string ⟨#[121]⟩] 9)).alloc (.cells #[.string ⟨#[122]⟩, .string ⟨#[122]⟩] 9)) (prL ⟨pH, some ⟨w1.heap.size, 0, none⟩, 1, 1, some ⟨w1.heap.size + 1, 0, none⟩, 2, 2⟩).toArray 29
    rw [show ((w1.alloc (.cells #[.string ⟨#[121]⟩] 9)).alloc (.cells #[.string ⟨#[122]⟩, .string ⟨#[122]⟩] 9)).heap.size = w1.heap.size + 1 + 1 from by simp] at this
    exact this
  generalize ((w1.alloc (.cells #[.string ⟨#[121]⟩] 9)).alloc (.cells #[.string ⟨#[122]⟩, .string ⟨#[122]⟩] 9)).alloc (.cells #[.int .i64 0, .string ⟨#[97]⟩, .string ⟨#[]⟩, .int .i64 1, .slice (some ⟨w1.heap.size, 0, none⟩) 1 1, .slice (some ⟨w1.heap.size + 1, 0, none⟩) 2 2] 29) = w2 at hst ⊢
  have H2 := Lib.hid hst; clear hst HT1 HL1
  generalize w1.heap.size = g1 at H2 ⊢
  refine (apply_any (bareC 1 qA ByteArray.empty) p B 0 0 [] w2 H2.out.tree (bare_ok w2 1 (by decide) (by decide)) Sized.nil (by omega) (by simp [bareC])).mono ?_
  rw [qx1]
  rintro e w3 ⟨rfl, ht3, hg3⟩
  have H3 := Lib.hid (H2.out.next ht3 hg3 hB); clear ht3 hg3
  go_wp2_with fail
  refine (put_any p B qA (some ⟨w3.heap.size, 0, none⟩) 2 2 [qX, qY] uA0 _ (H3.out.tree.later ((Later.refl w3).alloc _)) (Row.lit w3 [qX, qY] 9) (small_q (by decide)) (by simp [uA0]) (by omega) (fun s hs => by simp at hs; rcases hs with rfl | rfl <;> exact small_q (by decide))).mono ?_
  rw [qx2]
  rintro e w4 ⟨rfl, ht4, hg4⟩
  have H4 := Lib.hid ((H3.out.on ((Later.refl w3).alloc _)).next ht4 hg4 hB); clear ht4 hg4
  obtain ⟨y0, y1, y2, y3, y4, y5⟩ := H4.out.cells
  simp only [pH, qA] at y0 y1 y2 y3 y4 y5
  go_wp2_with fail
  refine (apply_any ⟨pH, some ⟨g1, 0, none⟩, 1, 1, some ⟨g1 + 1, 0, none⟩, 2, 2⟩ p B 1 3 uA w4 H4.out.tree H4.out.prim sizedA (by omega) (by simp)).mono ?_
  rw [qx3]
  rintro e w5 ⟨rfl, ht5, hg5⟩
  have H5 := Lib.hid (H4.out.next ht5 hg5 hB); clear ht5 hg5 y0 y1 y2 y3 y4 y5
  go_wp2_with fail
  refine (treeText_any p B uZ w5 H5.out.tree (HTB.out.later H5.out.later) (by simp [uZ]) qt3 (sized_some sizedZ (by omega))).mono ?_
  rw [qt1]
  rintro e w6 ⟨rfl, hl6⟩
  have H6 := Lib.hid (H5.out.on hl6); clear hl6
  obtain ⟨y0, y1, y2, y3, y4, y5⟩ := H6.out.cells
  simp only [pH, qA] at y0 y1 y2 y3 y4 y5
  go_wp2_with fail
  refine (primInvert_any ⟨pH, some ⟨g1, 0, none⟩, 1, 1, some ⟨g1 + 1, 0, none⟩, 2, 2⟩ w6 H6.out.prim).mono ?_
  rintro e w7 ⟨u, v, rfl, hpr⟩
  obtain ⟨A1, c1, hv1, hc1, hr1⟩ := hpr.old.row
  obtain ⟨A2, c2, hv2, hc2, hr2⟩ := hpr.new.row
  subst hv1 hv2
  have H7 := Lib.hid (H6.out.on hpr.later)
  have HP7 : Hid (PrOk w7 ⟨invertP pH, A1, 2, c1, A2, 1, c2⟩) := pI_ok hr1 hr2 hc1 hc2
  clear hpr hr1 hr2 hc1 hc2 y0 y1 y2 y3 y4 y5
  go_wp2_with fail
  refine (apply_any ⟨invertP pH, A1, 2, c1, A2, 1, c2⟩ p B 1 3 uZ w7 H7.out.tree HP7.out sizedZ (by omega) (by simp)).mono ?_
  rw [qx4]
  rintro e w8 ⟨rfl, ht8, hg8⟩
  have H8 := Lib.hid (H7.out.next ht8 hg8 hB); clear ht8 hg8
  go_wp2_with fail
  refine (apply_any (bareC 3 qA qB) p B 1 3 uA w8 H8.out.tree (bare_ok w8 3 (by decide) (by decide)) sizedA (by omega) (by simp [bareC])).mono ?_
  rw [qx5]
  rintro e w9 ⟨rfl, ht9, hg9⟩
  have H9 := Lib.hid (H8.out.next ht9 hg9 hB); clear ht9 hg9
  go_wp2_with fail
  refine (primNames_any (bareC 3 qB qA) w9).mono ?_
  rw [qx6]
  rintro e w10 ⟨An, cn, rfl, hcn, hrn, hl10⟩
  have H10 := Lib.hid (H9.out.on hl10)
  have HR10 := Lib.hid hrn
  clear hrn hl10
  go_wp2_with fail
  obtain ⟨bn, on, rfl, gn⟩ := HR10.out.get (k := 0) (by simp)
  simp only [List.getD_cons_zero, qA, Nat.add_zero] at gn
  have s0 := And.intro HR10.out.head H10.out.cells
  clear gn
  have HT1 : Hid (∀ w1, Later w10 w1 → Calls Tryd.prog 14 #[.pointer (some ⟨p, 0, none⟩)] w1 fun e w' => e = .returned (.string ⟨#[98, 32, 50, 10, 120, 10, 121, 10]⟩) ∧ Later w1 w') := fun w1 hl => by
    have := treeText_any p B uB w1 (H10.out.tree.later hl) (HTB.out.later (H10.out.later.trans hl)) (by simp [uB]) qt4 (sized_some sizedB (by omega))
    rw [qt2] at this
    exact this
  have HA1 : Hid (∀ w1, Stand w w1 p B uB ⟨pH, some ⟨g1, 0, none⟩, 1, 1, some ⟨g1 + 1, 0, none⟩, 2, 2⟩ (g1 + 1 + 1) → Calls Tryd.prog 13 #[.pointer (some ⟨p, 0, none⟩), .agg #[.int .i64 0, .string ⟨#[97]⟩, .string ⟨#[]⟩, .int .i64 1, .slice (some ⟨g1, 0, none⟩) 1 1, .slice (some ⟨g1 + 1, 0, none⟩) 2 2]] w1 (Does (uB, 31) p B w1)) := fun w1 h => by
    have := apply_any ⟨pH, some ⟨g1, 0, none⟩, 1, 1, some ⟨g1 + 1, 0, none⟩, 2, 2⟩ p B 1 3 uB w1 h.tree h.prim sizedB (by omega) (by simp)
    rw [qx7] at this
    exact this
  have HA2 : Hid (∀ w1, Stand w w1 p B uB ⟨pH, some ⟨g1, 0, none⟩, 1, 1, some ⟨g1 + 1, 0, none⟩, 2, 2⟩ (g1 + 1 + 1) → Calls Tryd.prog 13 #[.pointer (some ⟨p, 0, none⟩), .agg #[.int .i64 0, .string ⟨#[]⟩, .string ⟨#[]⟩, .int .i64 0, .slice none 0 0, .slice none 0 0]] w1 (Does (uB, 30) p B w1)) := fun w1 h => by
    have := apply_any (bareC 0 ByteArray.empty ByteArray.empty) p B 1 3 uB w1 h.tree (bare_ok w1 0 (by decide) (by decide)) sizedB (by omega) (by simp [bareC])
    rw [qx8] at this
    exact this
  have HC1 := Lib.hid (fun w1 (h : Stand w w1 p B uB ⟨pH, some ⟨g1, 0, none⟩, 1, 1, some ⟨g1 + 1, 0, none⟩, 2, 2⟩ (g1 + 1 + 1)) => primClone_any ⟨pH, some ⟨g1, 0, none⟩, 1, 1, some ⟨g1 + 1, 0, none⟩, 2, 2⟩ w1 h.prim)
  have HR1 : Hid (∀ w1, Stand w w1 p B uB ⟨pH, some ⟨g1, 0, none⟩, 1, 1, some ⟨g1 + 1, 0, none⟩, 2, 2⟩ (g1 + 1 + 1) → Calls Tryd.prog 20 #[.agg #[.int .i64 0, .string ⟨#[97]⟩, .string ⟨#[]⟩, .int .i64 1, .slice (some ⟨g1, 0, none⟩) 1 1, .slice (some ⟨g1 + 1, 0, none⟩) 2 2]] w1 (Says true w1)) := fun w1 h => by
    have := primRight_any ⟨pH, some ⟨g1, 0, none⟩, 1, 1, some ⟨g1 + 1, 0, none⟩, 2, 2⟩ w1 h.prim
    rw [qx9] at this
    exact this
  clear HP7 H2 H3 H4 H5 H6 H7 H8 H9 HTB
  go_region_held3 (fun w' => w'.cell? ⟨bn, on, none⟩ = some (.string ⟨#[97]⟩) ∧ w'.cell? ⟨g1 + 1 + 1, 0, none⟩ = some (.int .i64 0) ∧ w'.cell? ⟨g1 + 1 + 1, 1, none⟩ = some (.string ⟨#[97]⟩) ∧ w'.cell? ⟨g1 + 1 + 1, 2, none⟩ = some (.string ByteArray.empty) ∧ w'.cell? ⟨g1 + 1 + 1, 3, none⟩ = some (.int .i64 1) ∧ w'.cell? ⟨g1 + 1 + 1, 4, none⟩ = some (.slice (some ⟨g1, 0, none⟩) 1 1) ∧ w'.cell? ⟨g1 + 1 + 1, 5, none⟩ = some (.slice (some ⟨g1 + 1, 0, none⟩) 2 2))
    (first | exact s16 | exact s15 | exact s14 | exact s13 | exact s12 | exact s11 | exact s0)
    (first
      | (go_at_call 14; refine (HT1.out _ (by first | exact Later.refl _ | exact (Later.refl _).drew | exact (Later.refl _).drewN _)).mono ?_; rintro e w11 ⟨rfl, hl11⟩; have HL11 : Hid (Later w10 w11) := Later.trans (by first | exact Later.refl _ | exact (Later.refl _).drew | exact (Later.refl _).drewN _) hl11; have H11 := Lib.hid (H10.out.on HL11.out); have R11 := Lib.hid (HR10.out.later HL11.out); have s11 := And.intro R11.out.head H11.out.cells; clear hl11)
      | (go_at_call 13; have hq12 := H12; clear hq12; refine (HA2.out _ (H12.out.on (by first | exact Later.refl _ | exact (Later.refl _).drew | exact (Later.refl _).drewN _))).mono ?_; rintro e w13 ⟨rfl, ht13, hg13⟩; have H13 := Lib.hid ((H12.out.on (by first | exact Later.refl _ | exact (Later.refl _).drew | exact (Later.refl _).drewN _)).next ht13 hg13 hB); have R13 := Lib.hid ((H12.out.on (by first | exact Later.refl _ | exact (Later.refl _).drew | exact (Later.refl _).drewN _)).row hg13 (R12.out.later (by first | exact Later.refl _ | exact (Later.refl _).drew | exact (Later.refl _).drewN _))); have s13 := And.intro R13.out.head H13.out.cells; clear ht13 hg13)
      | (go_at_call 13; refine (HA1.out _ (H11.out.on (by first | exact Later.refl _ | exact (Later.refl _).drew | exact (Later.refl _).drewN _))).mono ?_; rintro e w12 ⟨rfl, ht12, hg12⟩; have H12 := Lib.hid ((H11.out.on (by first | exact Later.refl _ | exact (Later.refl _).drew | exact (Later.refl _).drewN _)).next ht12 hg12 hB); have R12 := Lib.hid ((H11.out.on (by first | exact Later.refl _ | exact (Later.refl _).drew | exact (Later.refl _).drewN _)).row hg12 (R11.out.later (by first | exact Later.refl _ | exact (Later.refl _).drew | exact (Later.refl _).drewN _))); have s12 := And.intro R12.out.head H12.out.cells; clear ht12 hg12)
      | (go_at_call 7; refine (HC1.out _ (H13.out.on (by first | exact Later.refl _ | exact (Later.refl _).drew | exact (Later.refl _).drewN _))).mono ?_; rintro e w14 ⟨u14, v14, rfl, hpr14⟩; have HL14 : Hid (Later w13 w14) := Later.trans (by first | exact Later.refl _ | exact (Later.refl _).drew | exact (Later.refl _).drewN _) hpr14.later; have H14 := Lib.hid (H13.out.on HL14.out); have R14 := Lib.hid (R13.out.later HL14.out); have s14 := And.intro R14.out.head H14.out.cells; obtain ⟨A3, c3, hv3, hc3, hr3⟩ := hpr14.old.row; obtain ⟨A4, c4, hv4, hc4, hr4⟩ := hpr14.new.row; subst hv3 hv4; have P14 := Lib.hid (pH_ok hr3 hr4 hc3 hc4); clear hpr14 hr3 hr4)
      | (go_at_call 19; refine (primSame_any ⟨pH, some ⟨g1, 0, none⟩, 1, 1, some ⟨g1 + 1, 0, none⟩, 2, 2⟩ ⟨pH, A3, 1, c3, A4, 2, c4⟩ _ (H14.out.prim.later (by first | exact Later.refl _ | exact (Later.refl _).drew | exact (Later.refl _).drewN _)) (P14.out.later (by first | exact Later.refl _ | exact (Later.refl _).drew | exact (Later.refl _).drewN _))).mono ?_; rw [sameP_self]; rintro e w15 ⟨rfl, hl15⟩; have HL15 : Hid (Later w14 w15) := Later.trans (by first | exact Later.refl _ | exact (Later.refl _).drew | exact (Later.refl _).drewN _) hl15; have H15 := Lib.hid (H14.out.on HL15.out); have R15 := Lib.hid (R14.out.later HL15.out); have s15 := And.intro R15.out.head H15.out.cells; clear hl15)
      | (go_at_call 20; refine (HR1.out _ (H15.out.on (by first | exact Later.refl _ | exact (Later.refl _).drew | exact (Later.refl _).drewN _))).mono ?_; rintro e w16 ⟨rfl, hl16⟩; have HL16 : Hid (Later w15 w16) := Later.trans (by first | exact Later.refl _ | exact (Later.refl _).drew | exact (Later.refl _).drewN _) hl16; have H16 := Lib.hid (H15.out.on HL16.out); have R16 := Lib.hid (R15.out.later HL16.out); have s16 := And.intro R16.out.head H16.out.cells; clear hl16))
  go_wp2
  go_ret
  exact ⟨rfl, H16.out.later⟩

end Go.Proofs.YtnhhdjcbifmfgaaDoor

/-
  What tree's Put comes to, as a call, where it is taken: the new row lies behind all that was there.
-/
namespace Go.Proofs.YtnhhdjcbifmfgaaDoor
open Go.RowKit Go.Maps

/-- The slice does not lie in block g. -/
def Off (g : Nat) (v : Value) : Prop := v.ownBlock ≠ some g

theorem Row.off {w w' : World} {g n c : Nat} {A : Option Addr} {l : List ByteArray} (h : Row w A n l) (hg : Turned g w w') (ho : l ≠ [] → Off g (.slice A n c)) : Row w' A n l :=
  ⟨h.1, fun hn => by
    obtain ⟨b, o, rfl, hc⟩ := h.2 hn
    have hl : l ≠ [] := by
      rintro rfl
      have := h.1
      simp at this; omega
    refine ⟨b, o, rfl, fun j s hs => hg.cell (hc j s hs) ?_⟩
    intro e
    exact ho hl (by simp only [Value.ownBlock]; rw [show b = g from e])⟩
theorem FA.off {w w' : World} {B g : Nat} {z : Fl Held} (h : FA w B z) (hg : Turned g w w') (hB : B ≠ g) (ho : ∀ f ∈ z, f.2.2 ≠ [] → Off g f.2.1) (hne : ∀ cur, w.heap[g]? ≠ some (.cells cur 9)) : FA w' B z :=
  ⟨h.own.kept hg (by simpa using hB), h.rise, (fun f hf => by
    obtain ⟨A, n, c, e, h1, h2⟩ := h.reads f hf
    exact ⟨A, n, c, e, h1, h2.off (c := c) hg (by rw [← e]; exact ho f hf)⟩), fun f hf => (h.typed f hf).off hg hne⟩

/-- The tree with the file's new lines, whose row lies behind all that was there at w. -/
def PutOk (p B : Nat) (z : Fl Held) (nm : ByteArray) (l : List ByteArray) (w : World) (e : Ending) (w' : World) : Prop :=
  ∃ v, e = .returned (.int .i64 0) ∧ w'.cell? ⟨p, 0, none⟩ = some (.map (some B)) ∧ FA w' B (withT z nm (v, l)) ∧ (∀ k, v.ownBlock = some k → w.heap.size ≤ k) ∧ Turned B w w'

set_option maxRecDepth 100000 in
set_option maxHeartbeats 800000 in
theorem put_ok (p B : Nat) (nm : ByteArray) (A : Option Addr) (n c : Nat) (l : List ByteArray) (z : Fl Held) (w : World) (hc : w.cell? ⟨p, 0, none⟩ = some (.map (some B))) (hz : FA w B z) (hx : Row w A n l) (hs : nm.size ≤ maxLen) (hl : z.length ≤ 65536) (hn : n ≤ 65536) (hb : ∀ s ∈ l, s.size ≤ maxLen)
    (h1 : hasT z nm = true) (h2 : allB l = true) :
    Calls Tryd.prog 12 #[.pointer (some ⟨p, 0, none⟩), .string nm, .slice A n c] w (PutOk p B z nm l w) := by
  have ht : TreeAt w p B (mapT (·.2) z) := ⟨hc, z, hz, rfl⟩
  have hne := ht.ne
  have hh := has_any p B nm _ w ht hs
  have ha := all_any A n c l w hx hn hb
  rw [hasT_map, h1] at hh
  rw [h2] at ha
  have HH := Lib.hid hh; have HA := Lib.hid ha; have HX := Lib.hid hx
  have HZ := Lib.hid hz
  have hzl : Hid (z.length < maxLen) := by simp only [Hid, maxLen]; omega
  have HS := Lib.hid hs
  clear hs hh ha h1 h2 hx hb hl hz ht
  go_enter Tryd.func12, Tryd.ntmps12
  go_wp2_with (first
    | (go_at_call 23; refine HH.out.mono ?_; rintro e w' ⟨rfl, rfl⟩)
    | (go_at_call 24; refine HA.out.mono ?_; rintro e w' ⟨rfl, rfl⟩))
  go_region_held3 (fun w' => w'.cell? ⟨p, 0, none⟩ = some (.map (some B))) (go_keep)
    (first
      | (go_at_call 21; refine (clone_any A n c l _ (HX.out.later (by first | exact Later.refl _ | exact (Later.refl _).drew | exact (Later.refl _).drewN _)) hn).mono ?_; rintro e w1 ⟨v1, rfl, hown⟩; have HL : Hid (Later w w1) := Later.trans (by first | exact Later.refl _ | exact (Later.refl _).drew | exact (Later.refl _).drewN _) hown.later; have hc1 := HL.out.cell hc; have HBK : Hid (∀ k, v1.ownBlock = some k → w.heap.size ≤ k) := (fun k hk => hown.block k hk); have HTY := Lib.hid hown.typed; obtain ⟨A1, c1, rfl, hcc, hr1⟩ := hown.row; have HR := Lib.hid hr1; obtain ⟨w2, hrun2, hown2, hturn2⟩ := (HZ.out.later HL.out).own.store keyed9 Tryd.underlying46 hzl.out (key9 HS.out) (raw_mk A1 l.length c1); have HO2 := Lib.hid hown2; have HU2 := Lib.hid hturn2; have hc2 := (Turned.of_map hturn2).cell hc1 hne; clear hown hr1 hown2 hturn2))
  go_wp2
  go_ret
  have hg := Turned.of_map HU2.out
  exact ⟨_, rfl, hc2, (HZ.out.later HL.out).put HO2.out HU2.out ⟨A1, _, c1, rfl, hcc, HR.out⟩ HTY.out, HBK.out, (HL.out.turned B).trans hg⟩

end Go.Proofs.YtnhhdjcbifmfgaaDoor

/-
  What prim's Apply of a hunk comes to, as a call, where it fits: the file's new row lies behind all that was there.
-/
namespace Go.Proofs.YtnhhdjcbifmfgaaDoor
open Go.RowKit Go.Maps

/-- The tree with the file's new lines, whose row lies behind all that was there at w; true. -/
def DeedOk (p B : Nat) (z : Fl Held) (nm : ByteArray) (l : List ByteArray) (w : World) (e : Ending) (w' : World) : Prop :=
  ∃ v, e = .returned (.bool true) ∧ w'.cell? ⟨p, 0, none⟩ = some (.map (some B)) ∧ FA w' B (withT z nm (v, l)) ∧ (∀ k, v.ownBlock = some k → w.heap.size ≤ k) ∧ Turned B w w'

set_option maxRecDepth 100000 in
set_option maxHeartbeats 800000 in
theorem deedSplice_ok (x : PrC) (p B i : Nat) (z : Fl Held) (l : List ByteArray) (w : World) (hc : w.cell? ⟨p, 0, none⟩ = some (.map (some B))) (hz : FA w B z) (hx : PrOk w x) (hr : rightP x.v = true) (hs : Sized 60000 (65536 - x.m) (mapT (·.2) z)) (hm0 : x.m ≤ 65536)
    (hg : getT (mapT (·.2) z) x.v.name = some l) (hpl : x.v.place = i) (hst : standsB l i x.v.old = true) :
    Calls Tryd.prog 38 #[prV x, .pointer (some ⟨p, 0, none⟩)] w (DeedOk p B z x.v.name (spliced l i x.n x.v.new) w) := by
  have hall := (right_parts hr).2.2.2.1
  obtain ⟨⟨kd, nm, to, pl, old, new⟩, A, n, c, C, m, d⟩ := x
  dsimp only at hg hpl hst hall hs hm0
  subst hpl
  have ht : TreeAt w p B (mapT (·.2) z) := ⟨hc, z, hz, rfl⟩
  have hlb : Later w (w.alloc (.cells #[.int .i64 kd, .string nm, .string to, .int .i64 i, .slice A n c, .slice C m d] 29)) := (Later.refl w).alloc _
  have hbl : ∀ f ∈ mapT (·.2) z, f.2.length ≤ 65536 := fun f hf => by have := (hs.each f hf).2.2; omega
  have hgg := get_any p B nm (mapT (·.2) z) _ (ht.later hlb) hx.name hbl
  rw [hg] at hgg
  have HG := Lib.hid hgg
  have HX := Lib.hid hx; have HZ := Lib.hid hz
  have hll : l.length ≤ 65536 := by have := (hs.get hg).2.2; omega
  have hlh : l.length + new.length ≤ 65536 := by have h1 := (hs.get hg).2.2; have h2 := hx.new.len; dsimp only at h2; omega
  have hla := (hs.get hg).2.1
  have c1 : (w.alloc (.cells #[.int .i64 kd, .string nm, .string to, .int .i64 i, .slice A n c, .slice C m d] 29)).cell? ⟨w.heap.size, 1, none⟩ = some (.string nm) := by simp
  have c3 : (w.alloc (.cells #[.int .i64 kd, .string nm, .string to, .int .i64 i, .slice A n c, .slice C m d] 29)).cell? ⟨w.heap.size, 3, none⟩ = some (.int .i64 i) := by simp
  have c4 : (w.alloc (.cells #[.int .i64 kd, .string nm, .string to, .int .i64 i, .slice A n c, .slice C m d] 29)).cell? ⟨w.heap.size, 4, none⟩ = some (.slice A n c) := by simp
  have c5 : (w.alloc (.cells #[.int .i64 kd, .string nm, .string to, .int .i64 i, .slice A n c, .slice C m d] 29)).cell? ⟨w.heap.size, 5, none⟩ = some (.slice C m d) := by simp
  have CB := Lib.hid (And.intro c1 (And.intro c3 (And.intro c4 c5)))
  have hn1 : n ≤ 65536 := hx.omost
  have hm1 : m ≤ 65536 := hx.nmost
  have HLB := Lib.hid hlb
  have hsl := spliced_le l new i n
  have hsa := allB_spliced hla hall i n
  have hsz : ∀ s ∈ spliced l i n new, s.size ≤ maxLen := fun s hs => by
    have := allB_mem.1 hsa s hs
    simp only [rightB, Bool.and_eq_true, decide_eq_true_eq] at this
    simp only [maxLen]; omega
  have HSA := Lib.hid hsz; have HSB := Lib.hid hsa
  have HLE : Hid ((spliced l i n new).length ≤ 65536) := by simp only [Hid]; omega
  have hhz : hasT z nm = true := by rw [← hasT_map (fun x : Held => x.2)]; exact getT_has hg
  have HHZ := Lib.hid hhz
  have hzl : z.length ≤ 65536 := by have := hs.many; rw [mapT_length] at this; omega
  have HC := Lib.hid hc
  unfold prV
  dsimp only
  clear hlb ht hx hr c1 c3 c4 c5 hg hla hsa hsz hsl hgg hbl hs hall hhz hz hc
  go_enter Tryd.func38, Tryd.ntmps38
  go_wp2_with fail
  refine HG.out.mono ?_
  rintro e w1 ⟨v1, rfl, hown⟩
  simp only [Option.getD_some, Option.isSome_some] at hown ⊢
  obtain ⟨A1, cc1, hv1, hcc1, hr1⟩ := hown.row
  subst hv1
  have hl1 := hown.later
  have b1 := hl1.cell CB.out.1; have b3 := hl1.cell CB.out.2.1; have b4 := hl1.cell CB.out.2.2.1; have b5 := hl1.cell CB.out.2.2.2
  have HSP := Lib.hid (splice_yes A1 A C l.length cc1 n c m d l old new i w1 hr1 (HX.out.old.later (HLB.out.trans hl1)) (HX.out.new.later (HLB.out.trans hl1)) hcc1 hll hn1 hm1 hst)
  have HL1 := Lib.hid hl1
  clear hown hr1 hl1 hst
  go_wp2_with fail
  refine HSP.out.mono ?_
  rintro e w2 ⟨A2, cc2, rfl, hcc2, hr2, hl2⟩
  have e1 := hl2.cell b1
  have HR2 := Lib.hid hr2
  have HL2 := Lib.hid (HLB.out.trans (HL1.out.trans hl2))
  clear hr2 hl2 b1 b3 b4 b5
  have hpa := put_ok p B nm A2 (spliced l i n new).length cc2 (spliced l i n new) z w2 (HL2.out.cell HC.out) (HZ.out.later HL2.out) HR2.out HX.out.name hzl HLE.out HSA.out HHZ.out HSB.out
  have HPA := Lib.hid hpa; clear hpa
  go_wp2_with fail
  refine HPA.out.mono ?_
  rintro e w3 ⟨v3, rfl, hc3, hf3, hk3, hg3⟩
  have H3 := Lib.hid hf3; have H4 := Lib.hid hg3; have HK := Lib.hid hk3; have HC3 := Lib.hid hc3; clear hf3 hg3 hk3 hc3
  go_wp2
  go_ret
  exact ⟨v3, rfl, HC3.out, H3.out, fun k hk => Nat.le_trans HL2.out.le (HK.out k hk), (HL2.out.turned B).trans H4.out⟩

/-- The same of Apply. -/
def ApplyOk (p B : Nat) (z : Fl Held) (nm : ByteArray) (l : List ByteArray) (w : World) (e : Ending) (w' : World) : Prop :=
  ∃ v, e = .returned (.int .i64 0) ∧ w'.cell? ⟨p, 0, none⟩ = some (.map (some B)) ∧ FA w' B (withT z nm (v, l)) ∧ (∀ k, v.ownBlock = some k → w.heap.size ≤ k) ∧ Turned B w w'

set_option maxRecDepth 100000 in
set_option maxHeartbeats 800000 in
theorem apply_ok (x : PrC) (p B i : Nat) (z : Fl Held) (l : List ByteArray) (w : World) (hc : w.cell? ⟨p, 0, none⟩ = some (.map (some B))) (hz : FA w B z) (hx : PrOk w x) (hr : rightP x.v = true) (hs : Sized 60000 (65536 - x.m) (mapT (·.2) z)) (hm0 : x.m ≤ 65536)
    (hg : getT (mapT (·.2) z) x.v.name = some l) (hpl : x.v.place = i) (hst : standsB l i x.v.old = true) (hk0 : x.v.kind = 0) :
    Calls Tryd.prog 13 #[.pointer (some ⟨p, 0, none⟩), prV x] w (ApplyOk p B z x.v.name (spliced l i x.n x.v.new) w) := by
  have hlb : Later w (w.alloc (.cells #[.int .i64 x.v.kind, .string x.v.name, .string x.v.to, .int .i64 x.v.place, .slice x.A x.n x.c, .slice x.B x.m x.d] 29)) := (Later.refl w).alloc _
  have hri := primRight_any x _ (hx.later hlb)
  have HBX := Lib.hid (BoxAt.made w #[.int .i64 x.v.kind, .string x.v.name, .string x.v.to, .int .i64 x.v.place, .slice x.A x.n x.c, .slice x.B x.m x.d] 29)
  have HLB := Lib.hid hlb
  rw [hr] at hri
  have HR := Lib.hid hri
  have HD : Hid (∀ w1, Later w w1 → Calls Tryd.prog (deedAt x.v.kind) #[prV x, .pointer (some ⟨p, 0, none⟩)] w1 (DeedOk p B z x.v.name (spliced l i x.n x.v.new) w1)) := fun w1 hl => by
    rw [hk0]
    exact deedSplice_ok x p B i z l w1 (hl.cell hc) (hz.later hl) (hx.later hl) hr hs hm0 hg hpl hst
  have HK := Lib.hid (right_parts hr).2.1
  clear hri hr hx hs hlb hz hg hst hpl hk0 hc
  unfold prV at HR HD ⊢
  go_enter Tryd.func13, Tryd.ntmps13
  go_wp2_with fail
  refine HR.out.mono ?_
  rintro e w1 ⟨rfl, hl1⟩
  have hb1 := HBX.out.later hl1
  have HL1 := Lib.hid (HLB.out.trans hl1)
  have x0 := hb1.cell (i := 0) rfl
  have HB1 := Lib.hid hb1
  clear hl1 hb1
  go_wp2_with fail
  go_region_held3 (fun w' => w'.cell? ⟨w.heap.size, 0, none⟩ = some (.int .i64 x.v.kind)) (go_keep)
    (first | (go_at_call 25; refine (deeds_any _).mono ?_; rintro e w2 ⟨B2, rfl, hd2, hl2⟩; have HL2 : Hid (Later w1 w2) := Later.trans (by first | exact Later.refl _ | exact (Later.refl _).drew | exact (Later.refl _).drewN _) hl2; have x02 := HL2.out.cell x0; have hlk := hd2.look HK.out; have HD2 := Lib.hid hd2; clear hd2 hl2))
  have hb2 := HB1.out.later HL2.out
  have y0 := hb2.cell (i := 0) rfl; have y1 := hb2.cell (i := 1) rfl; have y2 := hb2.cell (i := 2) rfl; have y3 := hb2.cell (i := 3) rfl; have y4 := hb2.cell (i := 4) rfl; have y5 := hb2.cell (i := 5) rfl
  have HCL := Lib.hid (HD.out w2 (HL1.out.trans HL2.out))
  have eg := deed_enters HK.out
  generalize deedAt x.v.kind = f at HCL eg hlk ⊢
  clear hb2 hlk x0 x02 HD
  go_wp2_with (go_at_fn f; refine HCL.out.mono ?_; rintro e w3 ⟨v3, rfl, hc3, hf3, hk3, hg3⟩; have H3 := Lib.hid hf3; have H4 := Lib.hid hg3; have HK3 := Lib.hid hk3; have HC3 := Lib.hid hc3; clear hf3 hg3 hk3 hc3)
  go_ret
  exact ⟨v3, rfl, HC3.out, H3.out, fun k hk => Nat.le_trans (HL1.out.trans HL2.out).le (HK3.out k hk), ((HL1.out.trans HL2.out).turned B).trans H4.out⟩

end Go.Proofs.YtnhhdjcbifmfgaaDoor
