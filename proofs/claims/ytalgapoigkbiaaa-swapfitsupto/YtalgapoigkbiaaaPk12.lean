import Derived.Test.YtalgapoigkbiaaaChecked
import Derived.Test.YtalgapoigkbiaaaPk1
import Derived.Test.YtalgapoigkbiaaaPk11
import Derived.Test.YtalgapoigkbiaaaPk3
import Derived.Deep.LoopGhost
import Derived.Deep.QuietTactic
import Derived.BigQuiet
import Derived.Lib.Hide
import Derived.Test.YtalgapoigkbiaaaPk5
import Derived.Test.YtalgapoigkbiaaaPk7
import Derived.Test.YtalgapoigkbiaaaPk6
import Derived.Deep.RegionHeld3
import Derived.Test.YtalgapoigkbiaaaPk4

/-
  What line.Splice comes to, as a call.
-/
namespace Go.Proofs.Ytalgapoigkbiaaa
open Go.RowKit

set_option maxHeartbeats 400000 in
theorem splice_no (A B C : Option Addr) (n c m d p q : Nat) (l old : List ByteArray) (k : Int) (w : World) (hx : Row w A n l) (hy : Row w B m old) (hc : n ≤ c) (hn : n ≤ 65536) (hm : m ≤ 65536)
    (hk0 : -9223372036854775808 ≤ k) (hk1 : k ≤ 9223372036854775807) (hs : standsB l k old = false) :
    Calls Try.prog 78 #[.slice A n c, .int .i64 k, .slice B m d, .slice C p q] w fun e w' => e = .returned (.tuple #[.slice none 0 0, .bool false]) ∧ ∃ q, w' = w.drewN q := by
  have H := stands_any A B n c m d l old k w hx hy hc hn hm hk0 hk1
  rw [hs] at H
  have HS := Lib.hid H; clear H hx hy hs
  go_enter Try.func78, Try.ntmps78
  go_wp2_with (go_at_call 85; refine HS.out.mono ?_; rintro e w' ⟨rfl, q, rfl⟩)
  go_ret2
  exact ⟨rfl, _, rfl⟩

set_option maxHeartbeats 400000 in
theorem splice_yes (A B C : Option Addr) (n c m d p q : Nat) (l old with_ : List ByteArray) (k : Nat) (w : World) (hx : Row w A n l) (hy : Row w B m old) (hz : Row w C p with_) (hc : n ≤ c) (hn : n ≤ 65536) (hm : m ≤ 65536) (hp : p ≤ 65536)
    (hs : standsB l k old = true) :
    Calls Try.prog 78 #[.slice A n c, .int .i64 k, .slice B m d, .slice C p q] w (GivesRow2 (spliced l k m with_) w) := by
  have hkm := standsB_le hs
  rw [hx.len, hy.len] at hkm
  have H := stands_any A B n c m d l old k w hx hy hc hn hm (by omega) (by omega)
  rw [hs] at H
  have HS := Lib.hid H; clear H hs
  have HX := Lib.hid hx; clear hx
  have HZ := Lib.hid hz; clear hz
  obtain ⟨i0, hi, hz0, hz1, hz2⟩ := info_parts Try.textInfo
  go_enter Try.func78, Try.ntmps78
  go_wp2_with (first
    | (go_at_call 85; refine HS.out.mono ?_; rintro e w' ⟨rfl, q1, rfl⟩)
    | (at_make; refine wpList_make_row (w0 := w) rfl _ _ 22 rfl i0 Try.underlying22 hi hz0 hz1 hz2 ((Later.refl w).drewN q1) .i64 .i64 _ rfl rfl (by omega) (by omega) ?_; intro w1 v1 hown1))
  refine (piece_any A n c l w1 (HX.out.later hown1.later) hc 0 k (by omega) (by omega) (by omega)).mono ?_
  rintro e w' ⟨A1, rfl, hr1, rfl⟩
  have e1 : (l.drop (0 : Int).toNat).take ((k : Int).toNat - (0 : Int).toNat) = l.take k := by simp
  rw [e1] at hr1 ⊢
  clear e1
  have l1 : (l.take k).length ≤ 65536 := by rw [List.length_take, HX.out.len]; omega
  generalize ht1 : l.take k = s1 at hr1 l1 ⊢
  have T1 := Lib.hid ht1; clear ht1
  have HR1 := Lib.hid hr1; clear hr1
  have HO1 := Lib.hid hown1; clear hown1
  go_wp2_with (first
    | (at_builtin; refine wpList_append_row rfl _ _ 22 rfl i0 Try.underlying22 hi hz0 hz1 hz2 HO1.out rfl _ _ _ _ rfl HR1.out (by simp; omega) ?_; intro v2 w2 hown2 hg2; have HO2 := Lib.hid hown2; clear hown2 hg2)
    | (at_builtin; refine wpList_append_row rfl _ _ 22 rfl i0 Try.underlying22 hi hz0 hz1 hz2 HO2.out rfl _ _ _ _ rfl (HZ.out.later HO2.out.later) (by simp; omega) ?_; intro v3 w3 hown3 hg3; have HO3 := Lib.hid hown3; clear hown3 hg3))
  refine (piece_any A n c l w3 (HX.out.later HO3.out.later) hc (k + m) n (by omega) (by omega) (by omega)).mono ?_
  rintro e w' ⟨A4, rfl, hr4, rfl⟩
  have e4 : (l.drop ((k : Int) + m).toNat).take ((n : Int).toNat - ((k : Int) + m).toNat) = l.drop (k + m) := by
    rw [show ((k : Int) + m).toNat = k + m from by omega, Int.toNat_natCast]
    exact List.take_of_length_le (by rw [List.length_drop, HX.out.len]; omega)
  rw [e4] at hr4 ⊢
  clear e4
  have l4 : (l.drop (k + m)).length ≤ 65536 := by rw [List.length_drop, HX.out.len]; omega
  generalize ht4 : l.drop (k + m) = s4 at hr4 l4 ⊢
  have T4 := Lib.hid ht4; clear ht4
  have HR4 := Lib.hid hr4; clear hr4
  have hzl : with_.length = p := HZ.out.len
  have ZL : with_.length ≤ 65536 := by omega
  clear hzl
  go_wp2_with (at_builtin; refine wpList_append_row rfl _ _ 22 rfl i0 Try.underlying22 hi hz0 hz1 hz2 HO3.out rfl _ _ _ _ rfl HR4.out (by simp; omega) ?_; intro v5 w5 hown5 hg5; have HO5 := Lib.hid hown5; clear hown5 hg5)
  go_ret2
  have ef : spliced l k m with_ = ([] ++ s1 ++ with_) ++ s4 := by rw [spliced, T1.out, T4.out, List.nil_append]
  rw [ef]
  obtain ⟨A6, c6, hv, hcc, hr6⟩ := HO5.out.row
  exact ⟨A6, c6, by rw [← hv]; rfl, hcc, hr6, HO5.out.later⟩

end Go.Proofs.Ytalgapoigkbiaaa

/-
  What prim's deeds do to a tree, as calls.
-/
namespace Go.Proofs.Ytalgapoigkbiaaa
open Go.RowKit Go.Maps

/-- Whether it fits; the tree behind it; nothing else has turned. -/
def Deed (r : Tr × Int) (p B : Nat) (w : World) (e : Ending) (w' : World) : Prop := e = .returned (.bool (r.2 == 0)) ∧ TreeAt w' p B r.1 ∧ Turned B w w'

set_option maxRecDepth 100000 in
set_option maxHeartbeats 400000 in
theorem deedAdd_any (x : PrC) (p B : Nat) (t : Tr) (w : World) (ht : TreeAt w p B t) (hx : PrOk w x) (hl : t.length ≤ 65536) :
    Calls Try.prog 61 #[prV x, .pointer (some ⟨p, 0, none⟩)] w (Deed (addT t x.v.name) p B w) := by
  obtain ⟨⟨kd, nm, to, pl, old, new⟩, A, n, c, C, m, d⟩ := x
  have hlb : Later w (w.alloc (.cells #[.int .i64 kd, .string nm, .string to, .int .i64 pl, .slice A n c, .slice C m d] 27)) := (Later.refl w).alloc _
  have HC := Lib.hid (add_any p B nm t _ (ht.later hlb) hx.name hl)
  have HLB := Lib.hid hlb
  unfold prV
  dsimp only at HC ⊢
  clear hlb ht hx
  go_enter Try.func61, Try.ntmps61
  go_wp2_with fail
  refine HC.out.mono ?_
  rintro e w1 ⟨rfl, h1, h2⟩
  have H1 := Lib.hid h1; have H2 := Lib.hid h2; clear h1 h2
  go_wp2
  go_ret
  exact ⟨rfl, H1.out, (HLB.out.turned B).trans H2.out⟩

set_option maxRecDepth 100000 in
set_option maxHeartbeats 400000 in
theorem deedRemove_any (x : PrC) (p B : Nat) (t : Tr) (w : World) (ht : TreeAt w p B t) (hx : PrOk w x) (hb : ∀ f ∈ t, f.2.length ≤ 65536) :
    Calls Try.prog 62 #[prV x, .pointer (some ⟨p, 0, none⟩)] w (Deed (removeT t x.v.name) p B w) := by
  obtain ⟨⟨kd, nm, to, pl, old, new⟩, A, n, c, C, m, d⟩ := x
  have hlb : Later w (w.alloc (.cells #[.int .i64 kd, .string nm, .string to, .int .i64 pl, .slice A n c, .slice C m d] 27)) := (Later.refl w).alloc _
  have HC := Lib.hid (remove_any p B nm t _ (ht.later hlb) hx.name hb)
  have HLB := Lib.hid hlb
  unfold prV
  dsimp only at HC ⊢
  clear hlb ht hx
  go_enter Try.func62, Try.ntmps62
  go_wp2_with fail
  refine HC.out.mono ?_
  rintro e w1 ⟨rfl, h1, h2⟩
  have H1 := Lib.hid h1; have H2 := Lib.hid h2; clear h1 h2
  go_wp2
  go_ret
  exact ⟨rfl, H1.out, (HLB.out.turned B).trans H2.out⟩

set_option maxRecDepth 100000 in
set_option maxHeartbeats 400000 in
theorem deedMove_any (x : PrC) (p B : Nat) (t : Tr) (w : World) (ht : TreeAt w p B t) (hx : PrOk w x) (hl : t.length ≤ 65536) :
    Calls Try.prog 63 #[prV x, .pointer (some ⟨p, 0, none⟩)] w (Deed (moveT t x.v.name x.v.to) p B w) := by
  obtain ⟨⟨kd, nm, to, pl, old, new⟩, A, n, c, C, m, d⟩ := x
  have hlb : Later w (w.alloc (.cells #[.int .i64 kd, .string nm, .string to, .int .i64 pl, .slice A n c, .slice C m d] 27)) := (Later.refl w).alloc _
  have HC := Lib.hid (move_any p B nm to t _ (ht.later hlb) hx.name hx.to hl)
  have HLB := Lib.hid hlb
  unfold prV
  dsimp only at HC ⊢
  clear hlb ht hx
  go_enter Try.func63, Try.ntmps63
  go_wp2_with fail
  refine HC.out.mono ?_
  rintro e w1 ⟨rfl, h1, h2⟩
  have H1 := Lib.hid h1; have H2 := Lib.hid h2; clear h1 h2
  go_wp2
  go_ret
  exact ⟨rfl, H1.out, (HLB.out.turned B).trans H2.out⟩

set_option maxRecDepth 100000 in
set_option maxHeartbeats 800000 in
theorem deedSplice_any (x : PrC) (p B k h : Nat) (t : Tr) (w : World) (ht : TreeAt w p B t) (hx : PrOk w x) (hr : rightP x.v = true) (hs : Sized k h t) (hk : k ≤ 60000) (hh : h + x.m ≤ 65536) :
    Calls Try.prog 60 #[prV x, .pointer (some ⟨p, 0, none⟩)] w (Deed (hunkT t x.v) p B w) := by
  have hput := fun l hg i q => put_spliced (p := x.v) (l := l) hs hr hg i q
  have hall := (right_parts hr).2.2.2.1
  obtain ⟨⟨kd, nm, to, pl, old, new⟩, A, n, c, C, m, d⟩ := x
  have hlb : Later w (w.alloc (.cells #[.int .i64 kd, .string nm, .string to, .int .i64 pl, .slice A n c, .slice C m d] 27)) := (Later.refl w).alloc _
  have hbl : ∀ f ∈ t, f.2.length ≤ 65536 := fun f hf => by have := (hs.each f hf).2.2; omega
  have HG := Lib.hid (get_any p B nm t _ (ht.later hlb) hx.name hbl)
  have HT := Lib.hid ht; have HX := Lib.hid hx
  have c1 : (w.alloc (.cells #[.int .i64 kd, .string nm, .string to, .int .i64 pl, .slice A n c, .slice C m d] 27)).cell? ⟨w.heap.size, 1, none⟩ = some (.string nm) := by simp
  have c3 : (w.alloc (.cells #[.int .i64 kd, .string nm, .string to, .int .i64 pl, .slice A n c, .slice C m d] 27)).cell? ⟨w.heap.size, 3, none⟩ = some (.int .i64 pl) := by simp
  have c4 : (w.alloc (.cells #[.int .i64 kd, .string nm, .string to, .int .i64 pl, .slice A n c, .slice C m d] 27)).cell? ⟨w.heap.size, 4, none⟩ = some (.slice A n c) := by simp
  have c5 : (w.alloc (.cells #[.int .i64 kd, .string nm, .string to, .int .i64 pl, .slice A n c, .slice C m d] 27)).cell? ⟨w.heap.size, 5, none⟩ = some (.slice C m d) := by simp
  have CB := Lib.hid (And.intro c1 (And.intro c3 (And.intro c4 c5)))
  have hn1 := hx.omost; have hm1 := hx.nmost; have hlo := hx.lo; have hhi := hx.hi
  have hol := hx.old.len; have hnl := hx.new.len
  have HLB := Lib.hid hlb
  unfold prV
  dsimp only at hput hall hh hn1 hm1 hlo hhi hol hnl ⊢
  clear hlb ht hx hr c1 c3 c4 c5
  have HP := Lib.hid hput; have HA := Lib.hid hall; have HS := Lib.hid hs; have HBL := Lib.hid hbl
  clear hput hall hs hbl
  cases hg : getT t nm with
  | none =>
    have E : Hid (hunkT t ⟨kd, nm, to, pl, old, new⟩ = (t, 31)) := by simp [Hid, hunkT, hg]
    rw [E.out]
    rw [hg] at HG
    clear hg E
    go_enter Try.func60, Try.ntmps60
    go_wp2_with fail
    refine HG.out.mono ?_
    rintro e w1 ⟨v1, rfl, hown⟩
    simp only [Option.getD_none, Option.isSome_none] at hown ⊢
    have HL1 := Lib.hid (HLB.out.trans hown.later); clear hown
    go_wp2
    go_ret
    exact ⟨rfl, HT.out.later HL1.out, HL1.out.turned B⟩
  | some l =>
    rw [hg] at HG
    have hll : l.length ≤ 65536 := by have := (HS.out.get hg).2.2; omega
    have hlh : l.length + new.length ≤ 65536 := by have := (HS.out.get hg).2.2; omega
    have hla := (HS.out.get hg).2.1
    have HPG := Lib.hid (fun i q => HP.out l hg i q)
    cases hst : standsB l pl old
    · have E : Hid (hunkT t ⟨kd, nm, to, pl, old, new⟩ = (t, 31)) := by simp [Hid, hunkT, hg, hst]
      rw [E.out]
      clear hg E
      go_enter Try.func60, Try.ntmps60
      go_wp2_with fail
      refine HG.out.mono ?_
      rintro e w1 ⟨v1, rfl, hown⟩
      simp only [Option.getD_some, Option.isSome_some] at hown ⊢
      obtain ⟨A1, cc1, hv1, hcc1, hr1⟩ := hown.row
      subst hv1
      have hl1 := hown.later
      have b1 := hl1.cell CB.out.1; have b3 := hl1.cell CB.out.2.1; have b4 := hl1.cell CB.out.2.2.1; have b5 := hl1.cell CB.out.2.2.2
      have HSP := Lib.hid (splice_no A1 A C l.length cc1 n c m d l old pl w1 hr1 (HX.out.old.later (HLB.out.trans hl1)) hcc1 hll hn1 hlo hhi hst)
      have HL1 := Lib.hid (HLB.out.trans hl1)
      clear hown hr1 hl1 hst
      go_wp2_with fail
      refine HSP.out.mono ?_
      rintro e w2 ⟨rfl, q2, rfl⟩
      go_wp2
      go_ret
      exact ⟨rfl, HT.out.later (HL1.out.drewN q2), (HL1.out.drewN q2).turned B⟩
    · have hle := standsB_le hst
      obtain ⟨i, rfl⟩ := Int.eq_ofNat_of_zero_le hle.1
      have E : Hid (hunkT t ⟨kd, nm, to, i, old, new⟩ = (withT t nm (spliced l i n new), 0)) := by simp [Hid, hunkT, hg, hst, hol]
      rw [E.out]
      have hsl := spliced_le l new i n
      have hsa := allB_spliced hla HA.out i n
      have hsz : ∀ s ∈ spliced l i n new, s.size ≤ maxLen := fun s hs => by
        have := allB_mem.1 hsa s hs
        simp only [rightB, Bool.and_eq_true, decide_eq_true_eq] at this
        simp only [maxLen]; omega
      have HSA := Lib.hid hsz
      have HPT := Lib.hid (HPG.out i n)
      have HLE : Hid ((spliced l i n new).length ≤ 65536) := by simp only [Hid]; omega
      clear hg E hle hsa hsz hsl hla
      go_enter Try.func60, Try.ntmps60
      go_wp2_with fail
      refine HG.out.mono ?_
      rintro e w1 ⟨v1, rfl, hown⟩
      simp only [Option.getD_some, Option.isSome_some] at hown ⊢
      obtain ⟨A1, cc1, hv1, hcc1, hr1⟩ := hown.row
      subst hv1
      have hl1 := hown.later
      have b1 := hl1.cell CB.out.1; have b3 := hl1.cell CB.out.2.1; have b4 := hl1.cell CB.out.2.2.1; have b5 := hl1.cell CB.out.2.2.2
      have HSP := Lib.hid (splice_yes A1 A C l.length cc1 n c m d l old new i w1 hr1 (HX.out.old.later (HLB.out.trans hl1)) (HX.out.new.later (HLB.out.trans hl1)) hcc1 hll hn1 hm1 hst)
      have HL1 := Lib.hid hl1
      clear hown hr1 hl1 hst
      go_wp2_with fail
      refine HSP.out.mono ?_
      rintro e w2 ⟨A2, cc2, rfl, hcc2, hr2, hl2⟩
      have e1 := hl2.cell b1
      have HR2 := Lib.hid hr2
      have HL2 := Lib.hid (HLB.out.trans (HL1.out.trans hl2))
      clear hr2 hl2 b1 b3 b4 b5
      have hpa := put_any p B nm A2 (spliced l i n new).length cc2 (spliced l i n new) t w2 (HT.out.later HL2.out) HR2.out HX.out.name (by have := HS.out.many; omega) HLE.out HSA.out
      rw [HPT.out] at hpa
      have HPA := Lib.hid hpa; clear hpa
      generalize spliced l i n new = sp at *
      go_wp2_with fail
      refine HPA.out.mono ?_
      rintro e w3 ⟨rfl, h3, h4⟩
      have H3 := Lib.hid h3; have H4 := Lib.hid h4; clear h3 h4
      go_wp2
      go_ret
      exact ⟨rfl, H3.out, (HL2.out.turned B).trans H4.out⟩

end Go.Proofs.Ytalgapoigkbiaaa

/-
  What prim's Apply comes to, as a call.
-/
namespace Go.Proofs.Ytalgapoigkbiaaa
open Go.RowKit Go.Maps

theorem deed_enters {k : Int} (hk : k = 0 ∨ k = 1 ∨ k = 2 ∨ k = 3) : ∀ (args : Array Value) (w : World), (callFunc (deedAt k) args).run Try.prog w = .ok (.enter (deedAt k) args) w := by
  rcases hk with rfl | rfl | rfl | rfl
  · exact enters_of Try.func60 (by kernel_rfl) rfl
  · exact enters_of Try.func61 (by kernel_rfl) rfl
  · exact enters_of Try.func62 (by kernel_rfl) rfl
  · exact enters_of Try.func63 (by kernel_rfl) rfl

/-- Each kind by its own function. -/
theorem deed_any (x : PrC) (p B k h : Nat) (t : Tr) (w : World) (ht : TreeAt w p B t) (hx : PrOk w x) (hr : rightP x.v = true) (hs : Sized k h t) (hk : k ≤ 60000) (hh : h + x.m ≤ 65536) :
    ∃ r : Tr × Int, Calls Try.prog (deedAt x.v.kind) #[prV x, .pointer (some ⟨p, 0, none⟩)] w (Deed r p B w) ∧ applyP t x.v = (r.1, if (r.2 == 0) = true then 0 else 31) := by
  have hl : t.length ≤ 65536 := by have := hs.many; omega
  have hb : ∀ f ∈ t, f.2.length ≤ 65536 := fun f hf => by have := (hs.each f hf).2.2; omega
  rcases (right_parts hr).2.1 with e | e | e | e
  · refine ⟨hunkT t x.v, by rw [e]; exact deedSplice_any x p B k h t w ht hx hr hs hk hh, ?_⟩
    rw [apply_hunk hr e]
    unfold hunkT
    split
    · rfl
    · split <;> rfl
  · refine ⟨addT t x.v.name, by rw [e]; exact deedAdd_any x p B t w ht hx hl, ?_⟩
    rw [apply_add hr e]; simp
  · refine ⟨removeT t x.v.name, by rw [e]; exact deedRemove_any x p B t w ht hx hb, ?_⟩
    rw [apply_rm hr e]; simp
  · refine ⟨moveT t x.v.name x.v.to, by rw [e]; exact deedMove_any x p B t w ht hx hl, ?_⟩
    rw [apply_move hr e]; simp

set_option maxRecDepth 100000 in
set_option maxHeartbeats 800000 in
theorem apply_any (x : PrC) (p B k h : Nat) (t : Tr) (w : World) (ht : TreeAt w p B t) (hx : PrOk w x) (hs : Sized k h t) (hk : k ≤ 60000) (hh : h + x.m ≤ 65536) :
    Calls Try.prog 20 #[.pointer (some ⟨p, 0, none⟩), prV x] w (Does (applyP t x.v) p B w) := by
  have hlb : Later w (w.alloc (.cells #[.int .i64 x.v.kind, .string x.v.name, .string x.v.to, .int .i64 x.v.place, .slice x.A x.n x.c, .slice x.B x.m x.d] 27)) := (Later.refl w).alloc _
  have hri := primRight_any x _ (hx.later hlb)
  have hbx : BoxAt (w.alloc (.cells #[.int .i64 x.v.kind, .string x.v.name, .string x.v.to, .int .i64 x.v.place, .slice x.A x.n x.c, .slice x.B x.m x.d] 27)) w.heap.size #[.int .i64 x.v.kind, .string x.v.name, .string x.v.to, .int .i64 x.v.place, .slice x.A x.n x.c, .slice x.B x.m x.d] 27 := BoxAt.made w _ _
  have HLB := Lib.hid hlb; have HT := Lib.hid ht; have HBX := Lib.hid hbx
  cases hr : rightP x.v
  · rw [hr] at hri
    have HR := Lib.hid hri
    rw [apply_wrong hr]
    clear hri hr hx hs hlb ht hbx
    unfold prV at HR ⊢
    go_enter Try.func20, Try.ntmps20
    go_wp2_with fail
    refine HR.out.mono ?_
    rintro e w1 ⟨rfl, hl1⟩
    have HL1 := Lib.hid (HLB.out.trans hl1); clear hl1
    go_wp2
    go_ret
    exact ⟨rfl, HT.out.later HL1.out, HL1.out.turned B⟩
  · rw [hr] at hri
    have HR := Lib.hid hri
    have HD := Lib.hid (fun (w1 : World) (hl : Later w w1) => deed_any x p B k h t w1 (ht.later hl) (hx.later hl) hr hs hk hh)
    have HK := Lib.hid (right_parts hr).2.1
    clear hri hr hx hs hlb ht hbx
    unfold prV at HR HD ⊢
    go_enter Try.func20, Try.ntmps20
    go_wp2_with fail
    refine HR.out.mono ?_
    rintro e w1 ⟨rfl, hl1⟩
    have hb1 := HBX.out.later hl1
    have HL1 := Lib.hid (HLB.out.trans hl1)
    have x0 := hb1.cell (i := 0) rfl
    have HB1 := Lib.hid hb1
    clear hl1 hb1
    go_wp2_with fail
    go_region_held3 (fun w' => w'.cell? ⟨w.heap.size, 0, none⟩ = some (.int .i64 x.v.kind)) (go_keep)
      (first | (go_at_call 37; refine (deeds_any _).mono ?_; rintro e w2 ⟨B2, rfl, hd2, hl2⟩; have HL2 : Hid (Later w1 w2) := Later.trans (by first | exact Later.refl _ | exact (Later.refl _).drew | exact (Later.refl _).drewN _) hl2; have x02 := HL2.out.cell x0; have hlk := hd2.look HK.out; have HD2 := Lib.hid hd2; clear hd2 hl2))
    have hb2 := HB1.out.later HL2.out
    have y0 := hb2.cell (i := 0) rfl; have y1 := hb2.cell (i := 1) rfl; have y2 := hb2.cell (i := 2) rfl; have y3 := hb2.cell (i := 3) rfl; have y4 := hb2.cell (i := 4) rfl; have y5 := hb2.cell (i := 5) rfl
    obtain ⟨r, hcall, happ⟩ := HD.out w2 (HL1.out.trans HL2.out)
    have HCL := Lib.hid hcall; have HAP := Lib.hid happ
    have eg := deed_enters HK.out
    generalize deedAt x.v.kind = f at HCL eg hlk ⊢
    clear hb2 hcall happ hlk x0 x02 HD
    unfold Deed at HCL
    generalize (r.2 == 0) = b at HCL HAP
    cases b
    · go_wp2_with (go_at_fn f; refine HCL.out.mono ?_; rintro e w3 ⟨rfl, h3, h4⟩; have H3 := Lib.hid h3; have H4 := Lib.hid h4; clear h3 h4)
      go_ret
      rw [HAP.out]
      exact ⟨rfl, H3.out, ((HL1.out.trans HL2.out).turned B).trans H4.out⟩
    · go_wp2_with (go_at_fn f; refine HCL.out.mono ?_; rintro e w3 ⟨rfl, h3, h4⟩; have H3 := Lib.hid h3; have H4 := Lib.hid h4; clear h3 h4)
      go_ret
      rw [HAP.out]
      exact ⟨rfl, H3.out, ((HL1.out.trans HL2.out).turned B).trans H4.out⟩

end Go.Proofs.Ytalgapoigkbiaaa

/-
  Ranging over the map of a tree: which files have come; the step as a law for the walk.
-/
namespace Go.Proofs.Ytalgapoigkbiaaa
open Go.RowKit Go.Maps

section
variable {α : Type}
/-- The files that have come. -/
def seen (left : Lit → Bool) (t : Fl α) : Fl α := t.filter fun f => !left (.string (bytes f.1))
/-- What is left behind the file nm. -/
def but (left : Lit → Bool) (nm : ByteArray) : Lit → Bool := fun k => left k && !k.sameKey (.string (bytes nm))

theorem mem_seen {left : Lit → Bool} {t : Fl α} {f : ByteArray × α} : f ∈ seen left t ↔ f ∈ t ∧ left (.string (bytes f.1)) = false := by simp [seen]
theorem but_eq (left : Lit → Bool) (nm n : ByteArray) : but left nm (.string (bytes n)) = (left (.string (bytes n)) && decide (n ≠ nm)) := by
  simp only [but, Lit.sameKey]
  by_cases h : n = nm
  · simp [h]
  · have : bytes n ≠ bytes nm := fun e => h (bytes_inj e)
    simp [h, this]
theorem seen_rise {left : Lit → Bool} {t : Fl α} (h : Rising t) : Rising (seen left t) := List.Pairwise.filter _ h
theorem seen_step {left : Lit → Bool} {t : Fl α} (h : Rising t) {nm : ByteArray} {x : α} (hm : (nm, x) ∈ t) : seen (but left nm) t = withT (seen left t) nm x := by
  refine rising_ext (seen_rise h) (rising_with (seen_rise h) _ _) fun f => ?_
  rw [mem_with, mem_seen, mem_seen, but_eq]
  constructor
  · rintro ⟨hf, hl⟩
    by_cases e : f.1 = nm
    · exact .inl (rising_one h hf hm e)
    · simp [e] at hl; exact .inr ⟨⟨hf, hl⟩, e⟩
  · rintro (rfl | ⟨⟨hf, hl⟩, e⟩)
    · exact ⟨hm, by simp⟩
    · exact ⟨hf, by simp [hl]⟩
theorem seen_end {left : Lit → Bool} {t : Fl α} (h : ∀ kl, left kl = false) : seen left t = t := List.filter_eq_self.2 fun f _ => by simp [h]
theorem seen_map {β : Type} (left : Lit → Bool) (g : α → β) (t : Fl α) : seen left (mapT g t) = mapT g (seen left t) := by
  simp [seen, mapT, List.filter_map, Function.comp_def]
theorem seen_length (left : Lit → Bool) (t : Fl α) : (seen left t).length ≤ t.length := List.length_filter_le _ _
theorem seen_has {left : Lit → Bool} {t : Fl α} {nm : ByteArray} (h : left (.string (bytes nm)) = true) : hasT (seen left t) nm = false := hasT_no.2 fun f hf e => by
  have := (mem_seen.1 hf).2
  rw [e, h] at this; cases this
end

theorem seen_start (z : Fl Held) : seen (Maps.has (datum (mapT (·.1) z))) z = [] := List.filter_eq_nil_iff.2 fun f hf => by
  rw [has_datum, hasT_map, hasT_iff.2 ⟨f, hf, rfl⟩]; simp

/-- How many lines all files have. -/
def linesT (t : Tr) : Nat := (t.map fun f => f.2.length).sum
theorem lines_parts (n : ByteArray) : ∀ u : Tr, (∀ f ∈ u, f.1 ≠ n) → linesT (u.filter fun f => ltN f.1 n) + linesT (u.filter fun f => ltN n f.1) = linesT u
  | [], _ => rfl
  | f :: u, h => by
    have ih := lines_parts n u fun g hg => h g (List.mem_cons_of_mem _ hg)
    simp only [linesT] at ih ⊢
    rcases ltN_total (h f List.mem_cons_self) with k | k
    · simp [k, ltN_asymm k]; omega
    · simp [k, ltN_asymm k]; omega
theorem lines_with {t : Tr} {n : ByteArray} (h : hasT t n = false) (l : List ByteArray) : linesT (withT t n l) = linesT t + l.length := by
  have h1 := lines_parts n t (hasT_no.1 h)
  unfold withT
  rw [without_id h]
  simp only [linesT, List.map_append, List.sum_append, List.map_cons, List.sum_cons] at h1 ⊢
  omega
theorem lines_seen (left : Lit → Bool) : ∀ t : Tr, linesT (seen left t) ≤ linesT t
  | [] => Nat.le_refl _
  | f :: t => by
    have ih := lines_seen left t
    simp only [linesT, seen, List.filter_cons, List.map_cons, List.sum_cons] at ih ⊢
    split
    · simp only [List.map_cons, List.sum_cons]; omega
    · omega

/-- The range under way over the files z; its iterator is block r. -/
structure Ranging (w : World) (B r : Nat) (z : Fl Held) (left : Lit → Bool) (cnt : Nat) : Prop where
  at_ : w.ranges Try.prog 9 raw B r z.length (datum (mapT (·.1) z)) left cnt
  rise : Rising z
  reads : ∀ f ∈ z, Reads w f.2.1 f.2.2

theorem iter_cell {w : World} {B r n cnt : Nat} {D : DataW Value} {left : Lit → Bool} (h : w.ranges Try.prog 9 raw B r n D left cnt) {a : Addr} {u : Value} (hc : w.cell? a = some u) : a.block ≠ r := by
  obtain ⟨es, clock, since, sn, c0, _, _, _, _, hr, _⟩ := h
  rintro rfl
  simp [World.cell?, hr] at hc

theorem Ranging.files {w : World} {B r cnt : Nat} {z : Fl Held} {left : Lit → Bool} (h : Ranging w B r z left cnt) : FA w B z := ⟨h.at_.owns, h.rise, h.reads⟩
theorem Ranging.later {w w' : World} {B r cnt : Nat} {z : Fl Held} {left : Lit → Bool} (h : Ranging w B r z left cnt) (hl : Later w w') : Ranging w' B r z left cnt :=
  ⟨h.at_.kept (row := none) ⟨hl.os, hl.tape, hl.output, hl.size, fun i hi _ => hl.block i hi⟩ (by simp) (by simp), h.rise, fun f hf => (h.reads f hf).later hl⟩
theorem Ranging.other {w w' : World} {B B' r cnt : Nat} {z : Fl Held} {left : Lit → Bool} (h : Ranging w B r z left cnt) (hg : Turned B' w w') (hne : B ≠ B') {es : Array MapEntry} {c : Nat} (hm : w.heap[B']? = some (.map es c)) : Ranging w' B r z left cnt := by
  refine ⟨h.at_.kept hg (by simpa using hne) ?_, h.rise, fun f hf => (h.reads f hf).turned hg hm⟩
  obtain ⟨es', clock, since, sn, c0, _, _, _, _, hr, _⟩ := h.at_
  intro e
  cases e
  rw [hm] at hr; cases hr

section
variable {w : World} {ops : Array Oper} {rest : List Oper} {o : Oper} {a : Act} {Q : Exit → Act → World → Prop}

/-- 'range' over the files. -/
theorem wpList_range_files (hg : o.guard = none) (m : Operand) (hop : o.op = Op.range 64 m) (B : Nat) (z : Fl Held) (hm : a.eval m = .map (some B)) (h : FA w B z)
    (hK : ∀ w', Ranging w' B w.heap.size z (Maps.has (datum (mapT (·.1) z))) z.length → Later w w' → wpList Try.prog ops Q rest (a.put o.dst (.pointer (some ⟨w.heap.size, 0, none⟩))) w') :
    wpList Try.prog ops Q (o :: rest) a w := by
  refine wpList_range_own _ hg m _ hop 9 22 keyed9 Try.underlying64 raw B z.length _ hm h.own fun w' h1 h2 h3 => ?_
  have hl : Later w w' := ⟨h2.os, h2.tape, h2.output, h2.size, fun i hi => h2.block i hi (by simp)⟩
  rw [size_datum, mapT_length] at h1
  exact hK w' ⟨h1, h.rise, fun f hf => (h.reads f hf).later hl⟩ hl

/-- The step: nothing is left, or a file has come. -/
theorem wpList_next_files (hg : o.guard = none) (it : Operand) (hop : o.op = Op.next it false) (B r : Nat) (z : Fl Held) (left : Lit → Bool) (cnt : Nat) (hit : a.eval it = .pointer (some ⟨r, 0, none⟩)) (h : Ranging w B r z left cnt)
    (hDone : (∀ kl, left kl = false) → wpList Try.prog ops Q rest (a.put o.dst (.tuple #[.bool false])) w)
    (hMore : ∀ (nm : ByteArray) (A : Option Addr) (m c : Nat) (l : List ByteArray) (w' : World) (cnt' : Nat), (nm, (Value.slice A m c, l)) ∈ z → nm.size ≤ maxLen → m ≤ c → Row w' A m l → left (.string (bytes nm)) = true → Ranging w' B r z (but left nm) cnt' → cnt' < cnt → Turned r w w' →
      (Instr.entry (.pointer (some ⟨r, 0, none⟩))).run Try.prog w' = .ok (.tuple #[.string nm, .slice A m c]) w' → wpList Try.prog ops Q rest (a.put o.dst (.tuple #[.bool true, .string nm, .slice A m c])) w') :
    wpList Try.prog ops Q (o :: rest) a w := by
  refine wpList_plain hg fun K' hK' => ?_
  unfold Oper.wp
  rcases h.at_.next keyed9 o.type with ⟨h0, hl, hrun⟩ | ⟨key, v, kl, y, w', cnt', hkey, hlk, hv, hat, hrun, hrg, hlt, hgr, hsz, hen⟩
  · simp [execOp, hop, hit, hrun, Result.andThen]
    exact hK' _ _ (hDone hl)
  · obtain ⟨s, rfl, rfl, hs⟩ : ∃ s : ByteArray, key = .string s ∧ kl = .string (bytes s) ∧ s.size ≤ maxLen := by
      cases key <;> simp [keyOf, Try.underlying9, mapKey] at hkey
      rename_i s
      exact ⟨s, rfl, hkey.2.symm, hkey.1⟩
    obtain ⟨A, m, c, rfl, rfl⟩ := raw_inv hv
    have hz := hat .nil
    rw [atKey_datum, getT_map] at hz
    cases hg2 : getT z s with
    | none => rw [hg2] at hz; simp at hz
    | some x =>
      rw [hg2] at hz
      simp only [Option.map_some, DataW.held.injEq] at hz
      obtain ⟨v, l⟩ := x
      simp only at hz
      subst hz
      have hmem := getT_mem hg2
      obtain ⟨A', m', c', e, hmc, hrow⟩ := h.reads _ hmem
      simp only [Value.slice.injEq] at e
      obtain ⟨rfl, rfl, rfl⟩ := e
      have keep : ∀ {A : Option Addr} {n : Nat} {l : List ByteArray}, Row w A n l → Row w' A n l := fun {A n l} hr =>
        ⟨hr.1, fun hn => by
          obtain ⟨b, o, e, hc⟩ := hr.2 hn
          exact ⟨b, o, e, fun j s hs => Turned.cell (B := r) hgr (hc j s hs) (iter_cell h.at_ (hc j s hs))⟩⟩
      simp [execOp, hop, hit, hrun, Result.andThen]
      refine hK' _ _ (hMore s A m c l w' cnt' hmem hs hmc (keep hrow) hlk ⟨hrg, h.rise, fun f hf => ?_⟩ hlt hgr hen)
      obtain ⟨A1, m1, c1, e1, h1, h2⟩ := h.reads f hf
      exact ⟨A1, m1, c1, e1, h1, keep h2⟩
end

end Go.Proofs.Ytalgapoigkbiaaa

/-
  What tree's Copy comes to, as a call.
-/
namespace Go.Proofs.Ytalgapoigkbiaaa
open Go.RowKit Go.Maps

set_option maxRecDepth 100000 in
set_option maxHeartbeats 800000 in
theorem copy_any (p B : Nat) (t : Tr) (w : World) (ht : TreeAt w p B t) (hl : t.length ≤ 65536) (hb : ∀ f ∈ t, f.2.length ≤ 65536) :
    Calls Try.prog 19 #[.pointer (some ⟨p, 0, none⟩)] w (NewTree t w) := by
  obtain ⟨hc, z, hz, rfl⟩ := ht
  rw [mapT_length] at hl
  have HZ := Lib.hid hz
  have hBlt := hz.lt
  have HB := Lib.hid hb; clear hz hb
  go_enter Try.func19, Try.ntmps19
  go_wp2_with fail
  refine (new_any w).mono ?_
  rintro e w1 ⟨p1, B1, rfl, ht1, hp1, hB1, hl1⟩
  have hc1 := hl1.cell hc
  have hcell1 := ht1.cell
  have hne1 := ht1.ne
  have hp1lt := ht1.lt
  have HT1 := Lib.hid ht1; have HL1 := Lib.hid hl1; clear ht1
  have hle1 := hl1.le
  clear hl1
  go_wp2_with (at_range; refine wpList_range_files rfl _ rfl B z rfl (HZ.out.later HL1.out) ?_; intro w2 hrg2 hl2; have HR2 := Lib.hid hrg2; have HL2 := Lib.hid hl2; clear hrg2 hl2)
  go_frame
  go_loopg [] (z.length + 1) (fun g wr => ∃ (left : Lit → Bool) (cnt : Nat), cnt ≤ g ∧ Later w wr ∧ Hid (TreeAt wr p1 B1 (seen left (mapT (·.2) z))) ∧ Hid (Ranging wr B w1.heap.size z left cnt))
  case atStart =>
    refine ⟨_, _, Nat.le_succ _, HL1.out.trans HL2.out, ?_, HR2.out⟩
    have := HT1.out.later HL2.out
    rw [seen_map, seen_start]
    exact this
  case round =>
    obtain ⟨left, cnt, hcg, hwr, hct, hrg⟩ := hrel
    have hcellr := hct.out.cell
    have hle := hwr.le
    have HW := Lib.hid hwr; clear hwr
    go_wp2_with (at_next; refine wpList_next_files rfl _ rfl B w1.heap.size z left cnt rfl hrg.out ?_ ?_)
    · intro hdone
      have E : Hid (seen left (mapT (·.2) z) = mapT (·.2) z) := by rw [seen_end hdone]; rfl
      rw [E.out] at hct
      clear hdone E
      go_wp2
      go_ret
      exact ⟨p1, B1, rfl, hct.out, hp1, hB1, HW.out⟩
    · intro nm A m c l w' cnt' hmem hnm hmc hrow hlk hrg' hlt hturn hen
      have hmem2 : (nm, l) ∈ mapT (·.2) z := by simp only [mapT, List.mem_map]; exact ⟨_, hmem, rfl⟩
      have hm : m ≤ 65536 := by rw [← hrow.len]; exact HB.out _ hmem2
      have HS := Lib.hid (seen_step (left := left) (rising_map.2 hrg'.rise) hmem2)
      have hct' : TreeAt w' p1 B1 (seen left (mapT (·.2) z)) := by
        obtain ⟨h1, z1, h2, h3⟩ := hct.out
        have hit : B1 ≠ w1.heap.size := by have := HT1.out.files.lt; omega
        exact ⟨hturn.cell h1 (by show p1 ≠ w1.heap.size; omega), z1, ⟨h2.own.kept hturn (by simpa using hit), h2.rise, fun f hf => by
          obtain ⟨A2, m2, c2, e2, h4, h5⟩ := h2.reads f hf
          exact ⟨A2, m2, c2, e2, h4, h5.1, fun hn => by
            obtain ⟨b, o, e, hcc⟩ := h5.2 hn
            exact ⟨b, o, e, fun j s hs => hturn.cell (hcc j s hs) (iter_cell hrg.out.at_ (hcc j s hs))⟩⟩⟩, h3⟩
      have hcell' := hct'.cell
      have HCT := Lib.hid hct'
      have HRW := Lib.hid hrow
      have HRG := Lib.hid hrg'; have HT := Lib.hid hturn
      have hlw : Later w w' := HW.out.turn hturn hle1
      have HLW := Lib.hid hlw
      have HNM := Lib.hid hnm
      have hzl : Hid ((seen left z).length < maxLen) := by have := seen_length left z; simp only [Hid, maxLen]; omega
      clear hct' hrow hmem hlk hrg' hturn hmem2 hlw hct hrg hnm
      go_wp2_with fail
      go_region_held3 (fun w' => w'.cell? ⟨p1, 0, none⟩ = some (.map (some B1))) (go_keep)
        (first
          | (go_at_call 36; refine (clone_any A m c l _ (HRW.out.later (by first | exact Later.refl _ | exact (Later.refl _).drew | exact (Later.refl _).drewN _)) hm).mono ?_; rintro e w3 ⟨v3, rfl, hown⟩; have HL3 : Hid (Later w' w3) := Later.trans (by first | exact Later.refl _ | exact (Later.refl _).drew | exact (Later.refl _).drewN _) hown.later; have hc3 := HL3.out.cell hcell'; obtain ⟨A3, c3, rfl, hcc, hr3⟩ := hown.row; have HR := Lib.hid hr3; have H3 := HCT.out.later HL3.out; obtain ⟨-, z3, hz3, e3⟩ := H3; have hzl3 : z3.length < maxLen := (by have h9 := hzl.out; rw [← mapT_length (fun x : Held => x.2) z3, e3, seen_map, mapT_length]; exact h9); obtain ⟨w4, hrun4, hown4, hturn4⟩ := hz3.own.store keyed9 Try.underlying64 hzl3 (key9 HNM.out) (raw_mk A3 l.length c3); have HO4 := Lib.hid (hz3.put hown4 hturn4 ⟨A3, _, c3, rfl, hcc, hr3⟩); have HU4 := Lib.hid (Turned.of_map hturn4); have hc4 := HU4.out.cell hc3 hne1; have HM3 := Lib.hid hz3.map; have HE3 := Lib.hid e3; clear hown hr3 hown4 hturn4 hz3 hzl3 e3))
      go_wp2
      go_roundg cnt'
      case measure => omega
      case rel =>
        obtain ⟨mes, mcl, hmm⟩ := HM3.out
        refine ⟨but left nm, cnt', Nat.le_refl _, (HLW.out.trans HL3.out).turn HU4.out hB1, ?_, (HRG.out.later HL3.out).other HU4.out (by omega) hmm⟩
        refine (HCT.out.later HL3.out).to HU4.out ⟨_, HO4.out, ?_⟩
        rw [HS.out, ← HE3.out]
        exact (withT_map (fun x : Held => x.2) z3 nm (_, l)).symm

end Go.Proofs.Ytalgapoigkbiaaa
