import Derived.Test.YtomboeiaajggoaaGreatDoorChecked
import Derived.Test.YtomboeiaajggoaaGreatDoorPk1
import Derived.Test.YtomboeiaajggoaaGreatDoorPk3
import Derived.Test.YtomboeiaajggoaaGreatDoorPk20
import Derived.Deep.LoopGhost
import Derived.Deep.QuietTactic
import Derived.BigQuiet
import Derived.Lib.Hide
import Derived.Test.YtomboeiaajggoaaGreatDoorPk5
import Derived.Test.YtomboeiaajggoaaGreatDoorPk6
import Derived.Test.YtomboeiaajggoaaGreatDoorPk4
import Derived.Deep.RegionHeld3
import Derived.Test.YtomboeiaajggoaaGreatDoorPk15
import Derived.Test.YtomboeiaajggoaaGreatDoorPk9
import Derived.Test.YtomboeiaajggoaaGreatDoorPk11

/-
  What line.Splice comes to, as a call.
-/
namespace Go.Proofs.YtomboeiaajggoaaGreatDoor
open Go.RowKit

set_option maxHeartbeats 400000 in
theorem splice_no (A B C : Option Addr) (n c m d p q : Nat) (l old : List ByteArray) (k : Int) (w : World) (hx : Row w A n l) (hy : Row w B m old) (hc : n ≤ c) (hn : n ≤ 65536) (hm : m ≤ 65536)
    (hk0 : -9223372036854775808 ≤ k) (hk1 : k ≤ 9223372036854775807) (hs : standsB l k old = false) :
    Calls Tryz.prog 133 #[.slice A n c, .int .i64 k, .slice B m d, .slice C p q] w fun e w' => e = .returned (.tuple #[.slice none 0 0, .bool false]) ∧ ∃ q, w' = w.drewN q := by
  have H := stands_any A B n c m d l old k w hx hy hc hn hm hk0 hk1
  rw [hs] at H
  have HS := Lib.hid H; clear H hx hy hs
  go_enter Tryz.func133, Tryz.ntmps133
  go_wp2_with (go_at_call 141; refine HS.out.mono ?_; rintro e w' ⟨rfl, q, rfl⟩)
  go_ret2
  exact ⟨rfl, _, rfl⟩

set_option maxHeartbeats 400000 in
theorem splice_yes (A B C : Option Addr) (n c m d p q : Nat) (l old with_ : List ByteArray) (k : Nat) (w : World) (hx : Row w A n l) (hy : Row w B m old) (hz : Row w C p with_) (hc : n ≤ c) (hn : n ≤ 65536) (hm : m ≤ 65536) (hp : p ≤ 65536)
    (hs : standsB l k old = true) :
    Calls Tryz.prog 133 #[.slice A n c, .int .i64 k, .slice B m d, .slice C p q] w (GivesRow2 (spliced l k m with_) w) := by
  have hkm := standsB_le hs
  rw [hx.len, hy.len] at hkm
  have H := stands_any A B n c m d l old k w hx hy hc hn hm (by omega) (by omega)
  rw [hs] at H
  have HS := Lib.hid H; clear H hs
  have HX := Lib.hid hx; clear hx
  have HZ := Lib.hid hz; clear hz
  obtain ⟨i0, hi, hz0, hz1, hz2⟩ := info_parts Tryz.textInfo
  go_enter Tryz.func133, Tryz.ntmps133
  go_wp2_with (first
    | (go_at_call 141; refine HS.out.mono ?_; rintro e w' ⟨rfl, q1, rfl⟩)
    | (at_make; refine wpList_make_row (w0 := w) rfl _ _ 32 rfl i0 Tryz.underlying32 hi hz0 hz1 hz2 ((Later.refl w).drewN q1) .i64 .i64 _ rfl rfl (by omega) (by omega) ?_; intro w1 v1 hown1))
  refine (piece_any A n c l w1 (HX.out.later hown1.later) hc 0 k (by omega) (by omega) (by omega)).mono ?_
  rintro e w' ⟨A1, rfl, hr1, rfl⟩
  have e1 : (l.drop (0 : Int).toNat).take ((k : Int).toNat - (0 : Int).toNat) = l.take k := by simp
  rw [e1] at hr1 ⊢
  clear e1
  have l1 : (l.take k).length ≤ 65536 := by rw [List.length_take, HX.out.len]; omega
  generalize ht1 : l.take k = s1 at hr1 l1 ⊢
  have T1 := Lib.hid ht1; clear ht1
  have HR1 := Lib.hid hr1; clear hr1
  have HO1 := Lib.hid hown1; clear hown1
  go_wp2_with (first
    | (at_builtin; refine wpList_append_row rfl _ _ 32 rfl i0 Tryz.underlying32 hi hz0 hz1 hz2 HO1.out rfl _ _ _ _ rfl HR1.out (by simp; omega) ?_; intro v2 w2 hown2 hg2; have HO2 := Lib.hid hown2; clear hown2 hg2)
    | (at_builtin; refine wpList_append_row rfl _ _ 32 rfl i0 Tryz.underlying32 hi hz0 hz1 hz2 HO2.out rfl _ _ _ _ rfl (HZ.out.later HO2.out.later) (by simp; omega) ?_; intro v3 w3 hown3 hg3; have HO3 := Lib.hid hown3; clear hown3 hg3))
  refine (piece_any A n c l w3 (HX.out.later HO3.out.later) hc (k + m) n (by omega) (by omega) (by omega)).mono ?_
  rintro e w' ⟨A4, rfl, hr4, rfl⟩
  have e4 : (l.drop ((k : Int) + m).toNat).take ((n : Int).toNat - ((k : Int) + m).toNat) = l.drop (k + m) := by
    rw [show ((k : Int) + m).toNat = k + m from by omega, Int.toNat_natCast]
    exact List.take_of_length_le (by rw [List.length_drop, HX.out.len]; omega)
  rw [e4] at hr4 ⊢
  clear e4
  have l4 : (l.drop (k + m)).length ≤ 65536 := by rw [List.length_drop, HX.out.len]; omega
  generalize ht4 : l.drop (k + m) = s4 at hr4 l4 ⊢
  have T4 := Lib.hid ht4; clear ht4
  have HR4 := Lib.hid hr4; clear hr4
  have hzl : with_.length = p := HZ.out.len
  have ZL : with_.length ≤ 65536 := by omega
  clear hzl
  go_wp2_with (at_builtin; refine wpList_append_row rfl _ _ 32 rfl i0 Tryz.underlying32 hi hz0 hz1 hz2 HO3.out rfl _ _ _ _ rfl HR4.out (by simp; omega) ?_; intro v5 w5 hown5 hg5; have HO5 := Lib.hid hown5; clear hown5 hg5)
  go_ret2
  have ef : spliced l k m with_ = ([] ++ s1 ++ with_) ++ s4 := by rw [spliced, T1.out, T4.out, List.nil_append]
  rw [ef]
  obtain ⟨A6, c6, hv, hcc, hr6⟩ := HO5.out.row
  exact ⟨A6, c6, by rw [← hv]; rfl, hcc, hr6, HO5.out.later⟩

end Go.Proofs.YtomboeiaajggoaaGreatDoor

/-
  What prim's deeds do to a tree, as calls.
-/
namespace Go.Proofs.YtomboeiaajggoaaGreatDoor
open Go.RowKit Go.Maps

/-- Whether it fits; the tree behind it; nothing else has turned. -/
def Deed (r : Tr × Int) (p B : Nat) (w : World) (e : Ending) (w' : World) : Prop := e = .returned (.bool (r.2 == 0)) ∧ TreeAt w' p B r.1 ∧ Turned B w w'

set_option maxRecDepth 100000 in
set_option maxHeartbeats 400000 in
theorem deedAdd_any (x : PrC) (p B : Nat) (t : Tr) (w : World) (ht : TreeAt w p B t) (hx : PrOk w x) (hl : t.length ≤ 65536) :
    Calls Tryz.prog 117 #[prV x, .pointer (some ⟨p, 0, none⟩)] w (Deed (addT t x.v.name) p B w) := by
  obtain ⟨⟨kd, nm, to, pl, old, new⟩, A, n, c, C, m, d⟩ := x
  have hlb : Later w (w.alloc (.cells #[.int .i64 kd, .string nm, .string to, .int .i64 pl, .slice A n c, .slice C m d] 48)) := (Later.refl w).alloc _
  have HC := Lib.hid (add_any p B nm t _ (ht.later hlb) hx.name hl)
  have HLB := Lib.hid hlb
  unfold prV
  dsimp only at HC ⊢
  clear hlb ht hx
  go_enter Tryz.func117, Tryz.ntmps117
  go_wp2_with fail
  refine HC.out.mono ?_
  rintro e w1 ⟨rfl, h1, h2⟩
  have H1 := Lib.hid h1; have H2 := Lib.hid h2; clear h1 h2
  go_wp2
  go_ret
  exact ⟨rfl, H1.out, (HLB.out.turned B).trans H2.out⟩

set_option maxRecDepth 100000 in
set_option maxHeartbeats 400000 in
theorem deedRemove_any (x : PrC) (p B : Nat) (t : Tr) (w : World) (ht : TreeAt w p B t) (hx : PrOk w x) (hb : ∀ f ∈ t, f.2.length ≤ 65536) :
    Calls Tryz.prog 118 #[prV x, .pointer (some ⟨p, 0, none⟩)] w (Deed (removeT t x.v.name) p B w) := by
  obtain ⟨⟨kd, nm, to, pl, old, new⟩, A, n, c, C, m, d⟩ := x
  have hlb : Later w (w.alloc (.cells #[.int .i64 kd, .string nm, .string to, .int .i64 pl, .slice A n c, .slice C m d] 48)) := (Later.refl w).alloc _
  have HC := Lib.hid (remove_any p B nm t _ (ht.later hlb) hx.name hb)
  have HLB := Lib.hid hlb
  unfold prV
  dsimp only at HC ⊢
  clear hlb ht hx
  go_enter Tryz.func118, Tryz.ntmps118
  go_wp2_with fail
  refine HC.out.mono ?_
  rintro e w1 ⟨rfl, h1, h2⟩
  have H1 := Lib.hid h1; have H2 := Lib.hid h2; clear h1 h2
  go_wp2
  go_ret
  exact ⟨rfl, H1.out, (HLB.out.turned B).trans H2.out⟩

set_option maxRecDepth 100000 in
set_option maxHeartbeats 400000 in
theorem deedMove_any (x : PrC) (p B : Nat) (t : Tr) (w : World) (ht : TreeAt w p B t) (hx : PrOk w x) (hl : t.length ≤ 65536) :
    Calls Tryz.prog 119 #[prV x, .pointer (some ⟨p, 0, none⟩)] w (Deed (moveT t x.v.name x.v.to) p B w) := by
  obtain ⟨⟨kd, nm, to, pl, old, new⟩, A, n, c, C, m, d⟩ := x
  have hlb : Later w (w.alloc (.cells #[.int .i64 kd, .string nm, .string to, .int .i64 pl, .slice A n c, .slice C m d] 48)) := (Later.refl w).alloc _
  have HC := Lib.hid (move_any p B nm to t _ (ht.later hlb) hx.name hx.to hl)
  have HLB := Lib.hid hlb
  unfold prV
  dsimp only at HC ⊢
  clear hlb ht hx
  go_enter Tryz.func119, Tryz.ntmps119
  go_wp2_with fail
  refine HC.out.mono ?_
  rintro e w1 ⟨rfl, h1, h2⟩
  have H1 := Lib.hid h1; have H2 := Lib.hid h2; clear h1 h2
  go_wp2
  go_ret
  exact ⟨rfl, H1.out, (HLB.out.turned B).trans H2.out⟩

set_option maxRecDepth 100000 in
set_option maxHeartbeats 800000 in
theorem deedSplice_any (x : PrC) (p B k h : Nat) (t : Tr) (w : World) (ht : TreeAt w p B t) (hx : PrOk w x) (hr : rightP x.v = true) (hs : Sized k h t) (hk : k ≤ 60000) (hh : h + x.m ≤ 65536) :
    Calls Tryz.prog 116 #[prV x, .pointer (some ⟨p, 0, none⟩)] w (Deed (hunkT t x.v) p B w) := by
  have hput := fun l hg i q => put_spliced (p := x.v) (l := l) hs hr hg i q
  have hall := (right_parts hr).2.2.2.1
  obtain ⟨⟨kd, nm, to, pl, old, new⟩, A, n, c, C, m, d⟩ := x
  have hlb : Later w (w.alloc (.cells #[.int .i64 kd, .string nm, .string to, .int .i64 pl, .slice A n c, .slice C m d] 48)) := (Later.refl w).alloc _
  have hbl : ∀ f ∈ t, f.2.length ≤ 65536 := fun f hf => by have := (hs.each f hf).2.2; omega
  have HG := Lib.hid (get_any p B nm t _ (ht.later hlb) hx.name hbl)
  have HT := Lib.hid ht; have HX := Lib.hid hx
  have c1 : (w.alloc (.cells #[.int .i64 kd, .string nm, .string to, .int .i64 pl, .slice A n c, .slice C m d] 48)).cell? ⟨w.heap.size, 1, none⟩ = some (.string nm) := by simp
  have c3 : (w.alloc (.cells #[.int .i64 kd, .string nm, .string to, .int .i64 pl, .slice A n c, .slice C m d] 48)).cell? ⟨w.heap.size, 3, none⟩ = some (.int .i64 pl) := by simp
  have c4 : (w.alloc (.cells #[.int .i64 kd, .string nm, .string to, .int .i64 pl, .slice A n c, .slice C m d] 48)).cell? ⟨w.heap.size, 4, none⟩ = some (.slice A n c) := by simp
  have c5 : (w.alloc (.cells #[.int .i64 kd, .string nm, .string to, .int .i64 pl, .slice A n c, .slice C m d] 48)).cell? ⟨w.heap.size, 5, none⟩ = some (.slice C m d) := by simp
  have CB := Lib.hid (And.intro c1 (And.intro c3 (And.intro c4 c5)))
  have hn1 := hx.omost; have hm1 := hx.nmost; have hlo := hx.lo; have hhi := hx.hi
  have hol := hx.old.len; have hnl := hx.new.len
  have HLB := Lib.hid hlb
  unfold prV
  dsimp only at hput hall hh hn1 hm1 hlo hhi hol hnl ⊢
  clear hlb ht hx hr c1 c3 c4 c5
  have HP := Lib.hid hput; have HA := Lib.hid hall; have HS := Lib.hid hs; have HBL := Lib.hid hbl
  clear hput hall hs hbl
  cases hg : getT t nm with
  | none =>
    have E : Hid (hunkT t ⟨kd, nm, to, pl, old, new⟩ = (t, 31)) := by simp [Hid, hunkT, hg]
    rw [E.out]
    rw [hg] at HG
    clear hg E
    go_enter Tryz.func116, Tryz.ntmps116
    go_wp2_with fail
    refine HG.out.mono ?_
    rintro e w1 ⟨v1, rfl, hown⟩
    simp only [Option.getD_none, Option.isSome_none] at hown ⊢
    have HL1 := Lib.hid (HLB.out.trans hown.later); clear hown
    go_wp2
    go_ret
    exact ⟨rfl, HT.out.later HL1.out, HL1.out.turned B⟩
  | some l =>
    rw [hg] at HG
    have hll : l.length ≤ 65536 := by have := (HS.out.get hg).2.2; omega
    have hlh : l.length + new.length ≤ 65536 := by have := (HS.out.get hg).2.2; omega
    have hla := (HS.out.get hg).2.1
    have HPG := Lib.hid (fun i q => HP.out l hg i q)
    cases hst : standsB l pl old
    · have E : Hid (hunkT t ⟨kd, nm, to, pl, old, new⟩ = (t, 31)) := by simp [Hid, hunkT, hg, hst]
      rw [E.out]
      clear hg E
      go_enter Tryz.func116, Tryz.ntmps116
      go_wp2_with fail
      refine HG.out.mono ?_
      rintro e w1 ⟨v1, rfl, hown⟩
      simp only [Option.getD_some, Option.isSome_some] at hown ⊢
      obtain ⟨A1, cc1, hv1, hcc1, hr1⟩ := hown.row
      subst hv1
      have hl1 := hown.later
      have b1 := hl1.cell CB.out.1; have b3 := hl1.cell CB.out.2.1; have b4 := hl1.cell CB.out.2.2.1; have b5 := hl1.cell CB.out.2.2.2
      have HSP := Lib.hid (splice_no A1 A C l.length cc1 n c m d l old pl w1 hr1 (HX.out.old.later (HLB.out.trans hl1)) hcc1 hll hn1 hlo hhi hst)
      have HL1 := Lib.hid (HLB.out.trans hl1)
      clear hown hr1 hl1 hst
      go_wp2_with fail
      refine HSP.out.mono ?_
      rintro e w2 ⟨rfl, q2, rfl⟩
      go_wp2
      go_ret
      exact ⟨rfl, HT.out.later (HL1.out.drewN q2), (HL1.out.drewN q2).turned B⟩
    · have hle := standsB_le hst
      obtain ⟨i, rfl⟩ := Int.eq_ofNat_of_zero_le hle.1
      have E : Hid (hunkT t ⟨kd, nm, to, i, old, new⟩ = (withT t nm (spliced l i n new), 0)) := by simp [Hid, hunkT, hg, hst, hol]
      rw [E.out]
      have hsl := spliced_le l new i n
      have hsa := allB_spliced hla HA.out i n
      have hsz : ∀ s ∈ spliced l i n new, s.size ≤ maxLen := fun s hs => by
        have := allB_mem.1 hsa s hs
        simp only [rightB, Bool.and_eq_true, decide_eq_true_eq] at this
        simp only [maxLen]; omega
      have HSA := Lib.hid hsz
      have HPT := Lib.hid (HPG.out i n)
      have HLE : Hid ((spliced l i n new).length ≤ 65536) := by simp only [Hid]; omega
      clear hg E hle hsa hsz hsl hla
      go_enter Tryz.func116, Tryz.ntmps116
      go_wp2_with fail
      refine HG.out.mono ?_
      rintro e w1 ⟨v1, rfl, hown⟩
      simp only [Option.getD_some, Option.isSome_some] at hown ⊢
      obtain ⟨A1, cc1, hv1, hcc1, hr1⟩ := hown.row
      subst hv1
      have hl1 := hown.later
      have b1 := hl1.cell CB.out.1; have b3 := hl1.cell CB.out.2.1; have b4 := hl1.cell CB.out.2.2.1; have b5 := hl1.cell CB.out.2.2.2
      have HSP := Lib.hid (splice_yes A1 A C l.length cc1 n c m d l old new i w1 hr1 (HX.out.old.later (HLB.out.trans hl1)) (HX.out.new.later (HLB.out.trans hl1)) hcc1 hll hn1 hm1 hst)
      have HL1 := Lib.hid hl1
      clear hown hr1 hl1 hst
      go_wp2_with fail
      refine HSP.out.mono ?_
      rintro e w2 ⟨A2, cc2, rfl, hcc2, hr2, hl2⟩
      have e1 := hl2.cell b1
      have HR2 := Lib.hid hr2
      have HL2 := Lib.hid (HLB.out.trans (HL1.out.trans hl2))
      clear hr2 hl2 b1 b3 b4 b5
      have hpa := put_any p B nm A2 (spliced l i n new).length cc2 (spliced l i n new) t w2 (HT.out.later HL2.out) HR2.out HX.out.name (by have := HS.out.many; omega) HLE.out HSA.out
      rw [HPT.out] at hpa
      have HPA := Lib.hid hpa; clear hpa
      generalize spliced l i n new = sp at *
      go_wp2_with fail
      refine HPA.out.mono ?_
      rintro e w3 ⟨rfl, h3, h4⟩
      have H3 := Lib.hid h3; have H4 := Lib.hid h4; clear h3 h4
      go_wp2
      go_ret
      exact ⟨rfl, H3.out, (HL2.out.turned B).trans H4.out⟩

end Go.Proofs.YtomboeiaajggoaaGreatDoor

/-
  What prim's Apply comes to, as a call.
-/
namespace Go.Proofs.YtomboeiaajggoaaGreatDoor
open Go.RowKit Go.Maps

theorem deed_enters {k : Int} (hk : k = 0 ∨ k = 1 ∨ k = 2 ∨ k = 3) : ∀ (args : Array Value) (w : World), (callFunc (deedAt k) args).run Tryz.prog w = .ok (.enter (deedAt k) args) w := by
  rcases hk with rfl | rfl | rfl | rfl
  · exact enters_of Tryz.func116 (by kernel_rfl) rfl
  · exact enters_of Tryz.func117 (by kernel_rfl) rfl
  · exact enters_of Tryz.func118 (by kernel_rfl) rfl
  · exact enters_of Tryz.func119 (by kernel_rfl) rfl

/-- Each kind by its own function. -/
theorem deed_any (x : PrC) (p B k h : Nat) (t : Tr) (w : World) (ht : TreeAt w p B t) (hx : PrOk w x) (hr : rightP x.v = true) (hs : Sized k h t) (hk : k ≤ 60000) (hh : h + x.m ≤ 65536) :
    ∃ r : Tr × Int, Calls Tryz.prog (deedAt x.v.kind) #[prV x, .pointer (some ⟨p, 0, none⟩)] w (Deed r p B w) ∧ applyP t x.v = (r.1, if (r.2 == 0) = true then 0 else 31) := by
  have hl : t.length ≤ 65536 := by have := hs.many; omega
  have hb : ∀ f ∈ t, f.2.length ≤ 65536 := fun f hf => by have := (hs.each f hf).2.2; omega
  rcases (right_parts hr).2.1 with e | e | e | e
  · refine ⟨hunkT t x.v, by rw [e]; exact deedSplice_any x p B k h t w ht hx hr hs hk hh, ?_⟩
    rw [apply_hunk hr e]
    unfold hunkT
    split
    · rfl
    · split <;> rfl
  · refine ⟨addT t x.v.name, by rw [e]; exact deedAdd_any x p B t w ht hx hl, ?_⟩
    rw [apply_add hr e]; simp
  · refine ⟨removeT t x.v.name, by rw [e]; exact deedRemove_any x p B t w ht hx hb, ?_⟩
    rw [apply_rm hr e]; simp
  · refine ⟨moveT t x.v.name x.v.to, by rw [e]; exact deedMove_any x p B t w ht hx hl, ?_⟩
    rw [apply_move hr e]; simp

set_option maxRecDepth 100000 in
set_option maxHeartbeats 800000 in
theorem apply_any (x : PrC) (p B k h : Nat) (t : Tr) (w : World) (ht : TreeAt w p B t) (hx : PrOk w x) (hs : Sized k h t) (hk : k ≤ 60000) (hh : h + x.m ≤ 65536) :
    Calls Tryz.prog 59 #[.pointer (some ⟨p, 0, none⟩), prV x] w (Does (applyP t x.v) p B w) := by
  have hlb : Later w (w.alloc (.cells #[.int .i64 x.v.kind, .string x.v.name, .string x.v.to, .int .i64 x.v.place, .slice x.A x.n x.c, .slice x.B x.m x.d] 48)) := (Later.refl w).alloc _
  have hri := primRight_any x _ (hx.later hlb)
  have hbx : BoxAt (w.alloc (.cells #[.int .i64 x.v.kind, .string x.v.name, .string x.v.to, .int .i64 x.v.place, .slice x.A x.n x.c, .slice x.B x.m x.d] 48)) w.heap.size #[.int .i64 x.v.kind, .string x.v.name, .string x.v.to, .int .i64 x.v.place, .slice x.A x.n x.c, .slice x.B x.m x.d] 48 := BoxAt.made w _ _
  have HLB := Lib.hid hlb; have HT := Lib.hid ht; have HBX := Lib.hid hbx
  cases hr : rightP x.v
  · rw [hr] at hri
    have HR := Lib.hid hri
    rw [apply_wrong hr]
    clear hri hr hx hs hlb ht hbx
    unfold prV at HR ⊢
    go_enter Tryz.func59, Tryz.ntmps59
    go_wp2_with fail
    refine HR.out.mono ?_
    rintro e w1 ⟨rfl, hl1⟩
    have HL1 := Lib.hid (HLB.out.trans hl1); clear hl1
    go_wp2
    go_ret
    exact ⟨rfl, HT.out.later HL1.out, HL1.out.turned B⟩
  · rw [hr] at hri
    have HR := Lib.hid hri
    have HD := Lib.hid (fun (w1 : World) (hl : Later w w1) => deed_any x p B k h t w1 (ht.later hl) (hx.later hl) hr hs hk hh)
    have HK := Lib.hid (right_parts hr).2.1
    clear hri hr hx hs hlb ht hbx
    unfold prV at HR HD ⊢
    go_enter Tryz.func59, Tryz.ntmps59
    go_wp2_with fail
    refine HR.out.mono ?_
    rintro e w1 ⟨rfl, hl1⟩
    have hb1 := HBX.out.later hl1
    have HL1 := Lib.hid (HLB.out.trans hl1)
    have x0 := hb1.cell (i := 0) rfl
    have HB1 := Lib.hid hb1
    clear hl1 hb1
    go_wp2_with fail
    go_region_held3 (fun w' => w'.cell? ⟨w.heap.size, 0, none⟩ = some (.int .i64 x.v.kind)) (go_keep)
      (first | (go_at_call 90; refine (deeds_any _).mono ?_; rintro e w2 ⟨B2, rfl, hd2, hl2⟩; have HL2 : Hid (Later w1 w2) := Later.trans (by first | exact Later.refl _ | exact (Later.refl _).drew | exact (Later.refl _).drewN _) hl2; have x02 := HL2.out.cell x0; have hlk := hd2.look HK.out; have HD2 := Lib.hid hd2; clear hd2 hl2))
    have hb2 := HB1.out.later HL2.out
    have y0 := hb2.cell (i := 0) rfl; have y1 := hb2.cell (i := 1) rfl; have y2 := hb2.cell (i := 2) rfl; have y3 := hb2.cell (i := 3) rfl; have y4 := hb2.cell (i := 4) rfl; have y5 := hb2.cell (i := 5) rfl
    obtain ⟨r, hcall, happ⟩ := HD.out w2 (HL1.out.trans HL2.out)
    have HCL := Lib.hid hcall; have HAP := Lib.hid happ
    have eg := deed_enters HK.out
    generalize deedAt x.v.kind = f at HCL eg hlk ⊢
    clear hb2 hcall happ hlk x0 x02 HD
    unfold Deed at HCL
    generalize (r.2 == 0) = b at HCL HAP
    cases b
    · go_wp2_with (go_at_fn f; refine HCL.out.mono ?_; rintro e w3 ⟨rfl, h3, h4⟩; have H3 := Lib.hid h3; have H4 := Lib.hid h4; clear h3 h4)
      go_ret
      rw [HAP.out]
      exact ⟨rfl, H3.out, ((HL1.out.trans HL2.out).turned B).trans H4.out⟩
    · go_wp2_with (go_at_fn f; refine HCL.out.mono ?_; rintro e w3 ⟨rfl, h3, h4⟩; have H3 := Lib.hid h3; have H4 := Lib.hid h4; clear h3 h4)
      go_ret
      rw [HAP.out]
      exact ⟨rfl, H3.out, ((HL1.out.trans HL2.out).turned B).trans H4.out⟩

end Go.Proofs.YtomboeiaajggoaaGreatDoor

/-
  The statement of Apply's inner loop: in whatever order its operations come.
-/
namespace Go.Proofs.YtomboeiaajggoaaGreatDoor
open Go.RowKit Go.Maps

section
variable {ops : Array Oper} {Q : Exit → Act → World → Prop} {K : Act → World → Prop} {i : Nat} {dst : Option Tmp} {js : List Nat} {a : Act} {w : World}
theorem OpIs.loadT {k : Tmp} {g : Nat} {v : Value} {t : TypeId} (h : OpIs ops i (.load 52 (.tmp k)) dst js) (he : a.eval (.tmp k) = .pointer (some ⟨g, 0, none⟩)) (hb : BoxAt w g #[v] t) (hk : K (a.put dst v) w) : wpOp Tryz.prog ops Q i K a w :=
  h.go fun o h1 h2 => by
    have hc := hb.cell (i := 0) rfl
    have hr : (execOp a.eval o).run Tryz.prog w = .ok (.value v) w := by
      clear hb hk
      unfold execOp
      rw [h1]
      dsimp only
      rw [he]
      go_simp
    unfold Oper.wp
    rw [hr]
    show K _ _
    rw [h2]
    exact hk
end
def ApSt (V0 : World) (p B : Nat) (x : PrC) (r : Tr × Int) : Nat → PrC → World → Prop
  | 0, _, V => Later V0 V
  | 1, y, V => Later V0 V ∧ y.v = invertP x.v ∧ PrOk V y
  | _, _, V => TreeAt V p B r.1 ∧ Turned B V0 V

set_option maxHeartbeats 1600000 in
theorem ap_region {ops : Array Oper} (hn : ops.size = 4) (hg : goesBack ops = true) (hdf : noDefer ops = true)
    (o0 : OpIs ops 0 (.load 52 (.tmp 2)) (some 28) [])
    (o1 : OpIs ops 1 (.load 48 (.tmp 9)) (some 29) [])
    (o2 : OpIs ops 2 (.call { callee := .value (.func 49), args := #[.tmp 29], argTypes := #[48] }) (some 30) [1])
    (o3 : OpIs ops 3 (.call { callee := .value (.func 59), args := #[.tmp 28, .tmp 30], argTypes := #[52, 48] }) (some 31) [0, 2])
    {a1 : Act} (hs : 34 ≤ a1.tmps.size) {wx : World} {p B k h g2 gx : Nat} {u : Tr} {x : PrC} (e2 : a1.eval (.tmp 2) = .pointer (some ⟨g2, 0, none⟩)) (e9 : a1.eval (.tmp 9) = .pointer (some ⟨gx, 0, none⟩)) (hb2 : BoxAt wx g2 #[.pointer (some ⟨p, 0, none⟩)] 52) (hbx : BoxAt wx gx (prL x).toArray 48) (hx : PrOk wx x) (ht : TreeAt wx p B u) (hs : Sized k h u) (hk : k ≤ 60000) (hh : h + (invertP x.v).new.length ≤ 65536)
    {Q : Exit → Act → World → Prop} (hq : ¬ LetsOut Q) {id lp mp : Nat} (hend : ∀ (D : PrC) (a : Act) (w : World), SameOut a1 a [28, 29, 30, 31] → ApSt wx p B x (applyP u (invertP x.v)) (2) D w → Q .normal a w) :
    (Code.region id ops true).wpIn (Fence.wide.inRound lp) mp Tryz.prog Q a1 wx := by
  refine regionIn_inv (by kernel_rfl) hg hdf hq (fun l a w => ∃ D : PrC, SameOut a1 a [28, 29, 30, 31] ∧ ApSt wx p B x (applyP u (invertP x.v)) (if l 3 = true then 2 else (if l 2 = true then 1 else 0)) D w ∧ (l 0 = true → a.eval (.tmp 28) = .pointer (some ⟨p, 0, none⟩)) ∧ (l 1 = true → a.eval (.tmp 29) = prV x) ∧ (l 2 = true → a.eval (.tmp 30) = prV D) ∧ (l 3 = true → a.eval (.tmp 31) = .int .i64 (applyP u (invertP x.v)).2) ∧ (l 3 = true → l 2 = true) ∧ (l 3 = true → l 0 = true) ∧ (l 2 = true → l 1 = true)) ?_ ?_ ?_
  · intro l a w i o ho hl hwait ⟨D, so, st, f0, f1, f2, f3, d3_2, d3_0, d2_1⟩
    have hi : i < 4 := by rw [← hn]; exact (Array.getElem?_eq_some_iff.1 ho).1
    have hc : i = 0 ∨ i = 1 ∨ i = 2 ∨ i = 3 := by omega
    rcases hc with rfl | rfl | rfl | rfl
    · have n3 : l 3 = false := by cases hx : l 3 with | false => rfl | true => have := d3_0 hx; rw [hl] at this; cases this
      have st0 := st
      have hl0 : Later wx w := by
        have hst := st
        simp only [n3, Bool.false_eq_true, if_false] at hst
        split at hst
        · exact hst.1
        · exact hst
      refine o0.loadT ((show _ = a1.eval _ from by simp only [Act.eval, Array.getD_eq_getD_getElem?, so.out 2 (by decide)]).trans e2) (hb2.later hl0) ?_
      exact ⟨D, (so.put (by decide) _), st, (fun _ => eval_put_same' _ _ _ (by rw [so.size]; show (28 : Nat) < _; omega)), (fun e => (eval_put_other' _ _ (by decide)).trans (f1 e)), (fun e => (eval_put_other' _ _ (by decide)).trans (f2 e)), (fun e => by rw [show more l 0 3 = l 3 from rfl, n3] at e; cases e), d3_2, (fun _ => rfl), d2_1⟩
    · have n2 : l 2 = false := by cases hx : l 2 with | false => rfl | true => have := d2_1 hx; rw [hl] at this; cases this
      have n3 : l 3 = false := by cases hx : l 3 with | false => rfl | true => have := d3_2 hx; rw [n2] at this; cases this
      have st0 := st
      have hl0 : Later wx w := by
        have hst := st
        simp only [n2, n3, Bool.false_eq_true, if_false] at hst
        exact hst
      refine o1.load Tryz.underlying48 Tryz.primSize ((show _ = a1.eval _ from by simp only [Act.eval, Array.getD_eq_getD_getElem?, so.out 9 (by decide)]).trans e9) (hbx.later hl0) ?_
      exact ⟨D, (so.put (by decide) _), st, (fun e => (eval_put_other' _ _ (by decide)).trans (f0 e)), (fun _ => eval_put_same' _ _ _ (by rw [so.size]; show (29 : Nat) < _; omega)), (fun e => by rw [show more l 1 2 = l 2 from rfl, n2] at e; cases e), (fun e => by rw [show more l 1 3 = l 3 from rfl, n3] at e; cases e), d3_2, d3_0, (fun _ => rfl)⟩
    · have ws := o2.waits ho hwait
      have w1 := ws 1 (by simp)
      have n3 : l 3 = false := by cases hx : l 3 with | false => rfl | true => have := d3_2 hx; rw [hl] at this; cases this
      have st0 : ApSt wx p B x (applyP u (invertP x.v)) 0 D w := by
        have hst := st
        simp only [hl, n3, Bool.false_eq_true, if_false] at hst
        exact hst
      refine o2.call1 (enters_of Tryz.func49 (by kernel_rfl) rfl) (f1 w1) (invertP_any x w (hx.later st0)) ?_
      rintro e w' ⟨y, rfl, hy, oky, fry, hl'⟩
      have st1 : ApSt wx p B x (applyP u (invertP x.v)) 1 y w' := ⟨Later.trans st0 hl', hy, oky⟩
      have st2 : ApSt wx p B x (applyP u (invertP x.v)) (if (more l 2) 3 = true then 2 else (if (more l 2) 2 = true then 1 else 0)) (y) w' := by
        rw [if_neg (show ¬ (more l 2 3 = true) from by rw [show more l 2 3 = l 3 from rfl, n3]; simp), if_pos (show more l 2 2 = true from rfl)]
        exact st1
      exact ⟨_, rfl, ⟨y, (so.put (by decide) _), st2, (fun e => (eval_put_other' _ _ (by decide)).trans (f0 e)), (fun e => (eval_put_other' _ _ (by decide)).trans (f1 e)), (fun _ => eval_put_same' _ _ _ (by rw [so.size]; show (30 : Nat) < _; omega)), (fun e => by rw [show more l 2 3 = l 3 from rfl, n3] at e; cases e), (fun _ => rfl), d3_0, (fun _ => w1)⟩⟩
    · have ws := o3.waits ho hwait
      have w0 := ws 0 (by simp)
      have w2 := ws 2 (by simp)
      have w1 := d2_1 w2
      have st0 : ApSt wx p B x (applyP u (invertP x.v)) 1 D w := by
        have hst := st
        simp only [hl, Bool.false_eq_true, if_false, if_true, w2] at hst
        exact hst
      have hyn := st0.2.2.new.len
      rw [st0.2.1] at hyn
      have hca := apply_any D p B k h u w (ht.later st0.1) st0.2.2 hs hk (by omega)
      rw [st0.2.1] at hca
      refine o3.call2 (enters_of Tryz.func59 (by kernel_rfl) rfl) (f0 w0) (f2 w2) hca ?_
      rintro e w' ⟨rfl, htw, htu⟩
      have st1 : ApSt wx p B x (applyP u (invertP x.v)) 2 D w' := ⟨htw, (st0.1.turned B).trans htu⟩
      have st2 : ApSt wx p B x (applyP u (invertP x.v)) (if (more l 3) 3 = true then 2 else (if (more l 3) 2 = true then 1 else 0)) (D) w' := by
        rw [if_pos (show more l 3 3 = true from rfl)]
        exact st1
      exact ⟨_, rfl, ⟨D, (so.put (by decide) _), st2, (fun e => (eval_put_other' _ _ (by decide)).trans (f0 e)), (fun e => (eval_put_other' _ _ (by decide)).trans (f1 e)), (fun e => (eval_put_other' _ _ (by decide)).trans (f2 e)), (fun _ => eval_put_same' _ _ _ (by rw [so.size]; show (31 : Nat) < _; omega)), (fun _ => w2), (fun _ => w0), d2_1⟩⟩
  · intro l a w hall ⟨D, so, st, f0, f1, f2, f3, d3_2, d3_0, d2_1⟩
    rw [hn] at hall
    have hst : ApSt wx p B x (applyP u (invertP x.v)) 2 D w := by
      have hst := st
      simp only [hall 3 (by decide), if_true] at hst
      exact hst
    exact hend D a w so hst
  · have h0 : ApSt wx p B x (applyP u (invertP x.v)) 0 x { wx with drawn := wx.drawn + 1 } := (Later.refl wx).drew
    exact ⟨x, SameOut.refl _ _, h0, (fun e => by cases e), (fun e => by cases e), (fun e => by cases e), (fun e => by cases e), (fun e => by cases e), (fun e => by cases e), (fun e => by cases e)⟩

end Go.Proofs.YtomboeiaajggoaaGreatDoor

/-
  slices.Backward at a row of prims, where a round may turn what is no cells: what its closure hands on, round by round.
-/
namespace Go.Proofs.YtomboeiaajggoaaGreatDoor
open Go.RowKit Go.Maps
attribute [local go_sem] Oper.semAt_some

/-- All cells that were there are as they were. -/
def Cells (w w' : World) : Prop := ∀ a v, w.cell? a = some v → w'.cell? a = some v
/-- What a round that goes on keeps: all cells that lay below n₀, and what cell Bs holds. -/
def KpC (n₀ Bs : Nat) (W W' : World) : Prop := (∀ a v, a.block < n₀ → W.cell? a = some v → W'.cell? a = some v) ∧ ∀ v, W.cell? ⟨Bs, 0, none⟩ = some v → W'.cell? ⟨Bs, 0, none⟩ = some v
theorem Cells.refl (w : World) : Cells w w := fun _ _ h => h
theorem Cells.later {w w' w'' : World} (h : Cells w w') (hl : Later w' w'') : Cells w w'' := fun a v ha => hl.cell (h a v ha)
theorem Cells.trans {w w' w'' : World} (h : Cells w w') (k : ∀ a v, a.block < w.heap.size → w'.cell? a = some v → w''.cell? a = some v) : Cells w w'' := fun a v ha => k a v (lt_of_cell ha) (h a v ha)
theorem RowK.cells {k n : Nat} {w w' : World} {A : Option Addr} {css : List (List Value)} (h : RowK k w A n css) (hl : Cells w w') : RowK k w' A n css :=
  ⟨h.1, h.2.1, fun hn => by
    obtain ⟨b, o, e, hc⟩ := h.2.2 hn
    exact ⟨b, o, e, fun j i cs v h1 h2 => hl _ _ (hc j i cs v h1 h2)⟩⟩
theorem Row.cells {n : Nat} {w w' : World} {A : Option Addr} {ss : List ByteArray} (h : Row w A n ss) (hl : Cells w w') : Row w' A n ss :=
  ⟨h.1, fun hn => by
    obtain ⟨b, o, e, hc⟩ := h.2 hn
    exact ⟨b, o, e, fun j s hs => hl _ _ (hc j s hs)⟩⟩
theorem PrOk.cells {w w' : World} {x : PrC} (h : PrOk w x) (hl : Cells w w') : PrOk w' x := ⟨h.old.cells hl, h.new.cells hl, h.oroom, h.nroom, h.omost, h.nmost, h.name, h.to, h.lo, h.hi, h.olds, h.news⟩
theorem PsOk.cells {w w' : World} {A : Option Addr} {n : Nat} {xs : List PrC} (h : PsOk w A n xs) (hl : Cells w w') : PsOk w' A n xs := ⟨h.row.cells hl, fun x hx => (h.each x hx).cells hl⟩
theorem Turned.cells {w w' : World} {B : Nat} (hg : Turned B w w') {es : Array MapEntry} {c : Nat} (hm : w.heap[B]? = some (.map es c)) : Cells w w' := fun _ _ ha => hg.cell ha (not_map hm ha)
theorem Later.cells {w w' : World} (h : Later w w') : Cells w w' := fun _ _ ha => h.cell ha
theorem KpC.trans {n₀ Bs : Nat} {X Y Z : World} (h : KpC n₀ Bs X Y) (k : KpC n₀ Bs Y Z) : KpC n₀ Bs X Z := ⟨fun a v hb ha => k.1 a v hb (h.1 a v hb ha), fun v hv => k.2 v (h.2 v hv)⟩
theorem KpC.of {n₀ Bs : Nat} {V V' : World} (h : Cells V V') : KpC n₀ Bs V V' := ⟨fun a v _ ha => h a v ha, fun v hv => h _ v hv⟩
theorem KpC.book {n₀ Bs : Nat} (V : World) (l : Nat) (o o' : Obj) (ho : V.heap[l]? = some o) (hc : o.isCells = false) : KpC n₀ Bs V (V.putObj l o') :=
  KpC.of fun _ _ ha => (shut_turned V l o').cell ha (cell_off ho hc ha)

set_option maxRecDepth 100000 in
set_option maxHeartbeats 2000000 in
theorem back1c_in (m l Bs : Nat) (hm : 1 ≤ m) (A : Option Addr) (n c : Nat) (xs : List PrC) (hn : n ≤ 524288) (w00 : World) (hrow : RowK 6 w00 A n (xs.map prL)) (J Jx : Nat → World → Prop)
    (hY : ∀ k x W, (rounds xs)[k]? = some x → J k W → YieldAt Fence.wide (m - 1) Tryz.prog l (backV x) W fun e W' =>
      (e = .returned (.bool true) ∧ J (k + 1) W' ∧ KpC w00.heap.size Bs W W') ∨ (e = .returned (.bool false) ∧ Jx (k + 1) W'))
    (W : World) (hl : Cells w00 W) (hBs : W.cell? ⟨Bs, 0, none⟩ = some (.slice A n c)) (h0 : J 0 W) :
    CallsIn Fence.wide m Tryz.prog 77 #[.func (.yield l) #[] #[], .pointer (some ⟨Bs, 0, none⟩)] W fun e W' => (∃ v, e = .returned v) ∧
      (J (rounds xs).length W' ∨ ∃ k, k ≤ (rounds xs).length ∧ Jx k W') := by
  have hlen : xs.length = n := by have := hrow.len; simpa using this
  refine callsIn_of_wp Tryz.func77 rfl trivial ?_ rfl
  simp only [Tryz.ntmps77, List.size_toArray, List.length_cons, List.length_nil, Nat.reduceAdd, Nat.reduceSub, Array.replicate_succ, Array.replicate_zero, List.push_toArray, List.append_toArray, List.nil_append, List.cons_append]
  gi_wp2
  gi_loopw [3] (fun s wr => ∃ r : Nat, r ≤ n ∧ s = .int .i64 ((r : Int) - 1) ∧ J (n - r) wr ∧ Cells w00 wr ∧ wr.cell? ⟨Bs, 0, none⟩ = some (.slice A n c))
    (fun s _ => (intOf s + 1).toNat)
  case atStart => exact ⟨n, Nat.le_refl _, by go_num, by rw [Nat.sub_self]; exact h0, hl, hBs⟩
  case round =>
    obtain ⟨r, hr, rfl, hJs, hlw, hbs⟩ := hrel
    rcases Nat.eq_zero_or_pos r with h0 | h0
    · subst h0
      gi_wp2
      go_end0
      exact ⟨⟨_, rfl⟩, .inl (by rw [rounds_length, hlen]; exact hJs)⟩
    · obtain ⟨j, rfl⟩ : ∃ j, r = j + 1 := ⟨r - 1, by omega⟩
      rw [show ((j + 1 : Nat) : Int) - 1 = (j : Int) by omega]
      obtain ⟨b, o, x, rfl, hz, g0, g1, g2, g3, g4, g5⟩ := (hrow.cells hlw).getP (show j < n by omega)
      obtain ⟨fn, tmps, assign, body, hy, hR⟩ := hY (n - (j + 1)) (j, x) wr (rounds_get hz (by omega)) hJs
      simp only [backV, prV] at hy hR
      have HLW := Lib.hid hlw; have HBS := Lib.hid hbs; have HR := Lib.hid hR
      clear hlw hR hz
      gi_wp2
      refine HR.out.mono ?_
      rintro e W3 (⟨rfl, hJ3, hk3⟩ | ⟨rfl, hJx3⟩)
      · rw [show n - (j + 1) + 1 = n - j by omega] at hJ3
        gi_wp2
        go_roundw
        case rel => exact ⟨j, by omega, by go_num, hJ3, HLW.out.trans hk3.1, hk3.2 _ HBS.out⟩
        case measure => simp [intOf]
      · gi_wp2
        refine bodyPost_ret (results_none rfl _ _ _) rfl ?_
        exact ⟨⟨_, rfl⟩, .inr ⟨_, by rw [rounds_length]; omega, hJx3⟩⟩

theorem back_handsC (m Bs : Nat) (hm : 1 ≤ m) (A : Option Addr) (n c : Nat) (xs : List PrC) (hn : n ≤ 524288) (w00 w : World) (hrow : RowK 6 w00 A n (xs.map prL)) (hl : Cells w00 w) (hBs : w.cell? ⟨Bs, 0, none⟩ = some (.slice A n c)) :
    Hands m Tryz.prog 77 #[.pointer (some ⟨Bs, 0, none⟩)] backV (KpC w00.heap.size Bs) (rounds xs) w := fun l J Jx W hW hY h0 =>
  back1c_in m l Bs hm A n c xs hn w00 hrow J Jx hY W (hl.later hW) (Later.cell hW hBs) h0

end Go.Proofs.YtomboeiaajggoaaGreatDoor

/-
  The document's trees in memory: rows of files, each a name and a row of lines; Get.
-/
namespace Go.Proofs.YtomboeiaajggoaaGreatDoor
open Go.RowKit Go.Maps

def cellsF (z : Fl Held) : List (List Value) := z.map fun f => [.string f.1, f.2.1]
theorem cellsF_length (z : Fl Held) : (cellsF z).length = z.length := by simp [cellsF]

/-- The slice reads as these files. -/
structure RefRow (w : World) (A : Option Addr) (n : Nat) (z : Fl Held) : Prop where
  row : RowK 2 w A n (cellsF z)
  reads : ∀ f ∈ z, Reads w f.2.1 f.2.2

/-- The value is a tree of the document's. -/
def RefAt (w : World) (v : Value) (t : Tr) : Prop := ∃ A n c z, v = .slice A n c ∧ n ≤ c ∧ RefRow w A n z ∧ mapT (·.2) z = t

section
variable {w w' : World} {A : Option Addr} {n : Nat} {z : Fl Held} {v : Value} {t : Tr}
theorem RefRow.len (h : RefRow w A n z) : z.length = n := by rw [← cellsF_length]; exact h.row.len
theorem RefRow.later (h : RefRow w A n z) (hl : Later w w') : RefRow w' A n z := ⟨h.row.later hl, fun f hf => (h.reads f hf).later hl⟩
theorem RefAt.later (h : RefAt w v t) (hl : Later w w') : RefAt w' v t := by
  obtain ⟨A, n, c, z, e, hc, hr, ht⟩ := h; exact ⟨A, n, c, z, e, hc, hr.later hl, ht⟩
theorem RefRow.none : RefRow w A 0 [] := ⟨RowK.none, fun f hf => by cases hf⟩
theorem RefAt.nil (w : World) : RefAt w (.slice none 0 0) [] := ⟨Option.none, 0, 0, [], rfl, Nat.le_refl _, RefRow.none, rfl⟩
theorem RowK.turned {k B : Nat} {css : List (List Value)} (h : RowK k w A n css) (hg : Turned B w w') {es : Array MapEntry} {c : Nat} (hm : w.heap[B]? = some (.map es c)) : RowK k w' A n css :=
  ⟨h.1, h.2.1, fun hn => by
    obtain ⟨b, o, e, hc⟩ := h.2.2 hn
    exact ⟨b, o, e, fun j i cs v h1 h2 => hg.cell (hc j i cs v h1 h2) (not_map hm (hc j i cs v h1 h2))⟩⟩
/-- A map has turned: the document's tree stands. -/
theorem RefAt.turned {B : Nat} (h : RefAt w v t) (hg : Turned B w w') {es : Array MapEntry} {c : Nat} (hm : w.heap[B]? = some (.map es c)) : RefAt w' v t := by
  obtain ⟨A, n, c, z, e, hc, hr, ht⟩ := h
  exact ⟨A, n, c, z, e, hc, ⟨hr.row.turned hg hm, fun f hf => (hr.reads f hf).turned hg hm⟩, ht⟩
theorem RefRow.get (h : RefRow w A n z) {j : Nat} (hj : j < n) : ∃ b o f, A = some ⟨b, o, .none⟩ ∧ z[j]? = some f ∧ w.cell? ⟨b, o + j * 2, .none⟩ = some (.string f.1) ∧ w.cell? ⟨b, o + j * 2 + 1, .none⟩ = some f.2.1 := by
  obtain ⟨b, o, e, cs, hcs, _, hc⟩ := h.row.get hj
  have hl : j < z.length := by rw [h.len]; exact hj
  have hz := List.getElem?_eq_getElem hl
  simp only [cellsF, List.getElem?_map, hz, Option.map_some, Option.some.injEq] at hcs
  subst hcs
  exact ⟨b, o, z[j], e, hz, hc 0 _ rfl, hc 1 _ rfl⟩
end

section
variable {α : Type}
theorem get_at {t : Fl α} {n : ByteArray} {k : Nat} {f : ByteArray × α} (hk : t[k]? = some f) (hf : f.1 = n) (hno : ∀ (j : Nat) g, j < k → t[j]? = some g → g.1 ≠ n) : getT t n = some f.2 := by
  unfold getT
  have : t.find? (fun f => decide (f.1 = n)) = some f := by
    obtain ⟨hlt, rfl⟩ := List.getElem?_eq_some_iff.1 hk
    rw [List.find?_eq_some_iff_getElem]
    refine ⟨by simpa using hf, k, hlt, rfl, fun j hj => ?_⟩
    have := hno j _ hj (List.getElem?_eq_getElem (by omega))
    simpa using this
  rw [this]; rfl
theorem get_none_at {t : Fl α} {n : ByteArray} (hno : ∀ (j : Nat) g, t[j]? = some g → g.1 ≠ n) : getT t n = none := getT_none.2 fun f hf => by
  obtain ⟨j, hj⟩ := List.getElem?_of_mem hf
  exact hno j f hj
end

/-- What Get tells of a row of files. -/
def got (o : Option Held) : Value := match o with | some x => x.1 | none => .slice none 0 0

set_option maxHeartbeats 400000 in
theorem refGet_any (A : Option Addr) (n c : Nat) (z : Fl Held) (nm : ByteArray) (w : World) (hx : RefRow w A n z) (hn : n ≤ 65536) :
    Calls Tryz.prog 83 #[.slice A n c, .string nm] w fun e w' => e = .returned (.tuple #[got (getT z nm), .bool (hasT z nm)]) ∧ w = w' := by
  have HX := Lib.hid hx; clear hx
  go_enter Tryz.func83, Tryz.ntmps83
  go_wp2
  go_loop [6] (fun i => ∃ k : Nat, k ≤ n ∧ i = .int .i64 k ∧ Hid (∀ (j : Nat) g, j < k → z[j]? = some g → g.1 ≠ nm)) (fun i => n - (intOf i).toNat)
  case atStart => exact ⟨0, Nat.zero_le _, rfl, fun j g hj => absurd hj (Nat.not_lt_zero _)⟩
  case round =>
    obtain ⟨k, hk, rfl, hno⟩ := hrel
    by_cases hlt : k < n
    · obtain ⟨b, o, f, rfl, hz, g1, g2⟩ := HX.out.get hlt
      by_cases he : f.1 = nm
      · have hg := get_at hz he hno.out
        have E : Hid (got (getT z nm) = f.2.1 ∧ hasT z nm = true) := ⟨by rw [hg]; rfl, getT_has hg⟩
        rw [he] at g1
        generalize f.2.1 = v at g2 E
        clear hg hno hz he
        go_wp2
        go_ret2
        exact ⟨by rw [E.out.1, E.out.2]; rfl, rfl⟩
      · have hb := text_ne he
        have HN : Hid (∀ (j : Nat) g, j < k + 1 → z[j]? = some g → g.1 ≠ nm) := fun j g hj hg => by
          by_cases e : j = k
          · subst e; rw [hz] at hg; cases hg; exact he
          · exact hno.out j g (by omega) hg
        generalize f.1 = fn at g1 hb
        clear hno hz he
        go_wp2
        exact ⟨⟨k + 1, by omega, by go_num, HN⟩, by simp [intOf]; omega⟩
    · have hg : getT z nm = none := get_none_at fun j g hj => hno.out j g (by have := (List.getElem?_eq_some_iff.1 hj).1; rw [HX.out.len] at this; omega) hj
      have E : Hid (got (getT z nm) = .slice none 0 0 ∧ hasT z nm = false) := ⟨by rw [hg]; rfl, by unfold hasT; rw [hg]; rfl⟩
      clear hg hno
      go_wp2
      go_ret2
      exact ⟨by rw [E.out.1, E.out.2]; rfl, rfl⟩

end Go.Proofs.YtomboeiaajggoaaGreatDoor
