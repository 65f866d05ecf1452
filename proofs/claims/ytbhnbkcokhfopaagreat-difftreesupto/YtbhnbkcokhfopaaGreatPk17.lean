import Derived.Test.YtbhnbkcokhfopaaGreatPk6
import Derived.Test.YtbhnbkcokhfopaaGreatPk3
import Derived.Test.YtbhnbkcokhfopaaGreatPk4
import Derived.Lib.Hide
import Derived.Test.YtbhnbkcokhfopaaGreatChecked
import Derived.Test.YtbhnbkcokhfopaaGreatPk1
import Derived.Deep.LoopGhost
import Derived.Deep.QuietTactic
import Derived.BigQuiet
import Derived.Test.YtbhnbkcokhfopaaGreatPk12
import Derived.Test.YtbhnbkcokhfopaaGreatPk5
import Derived.Deep.RegionHeld3
import Derived.Test.YtbhnbkcokhfopaaGreatPk16
import Derived.Test.YtbhnbkcokhfopaaGreatPk7

/-
  What prim's deeds comes to, as a call: a new map from kinds to functions.
-/
namespace Go.Proofs.YtbhnbkcokhfopaaGreat
open Go.RowKit Go.Maps

/-- How a function reads: as itself. -/
def rawF (v : Value) : Option (DataW Value × List MemPlace) := some (.held v, [])

def deedV (f : FuncId) : Value := .func (.func f) #[] #[]
def deedsD : DataW Value := ((((DataW.map []).put (.int .i64 0) (.held (deedV 73))).put (.int .i64 1) (.held (deedV 74))).put (.int .i64 2) (.held (deedV 75))).put (.int .i64 3) (.held (deedV 76))

/-- Block B is the map of deeds. -/
def Deeds (w : World) (B : Nat) : Prop := w.ownsMap Tryz.prog 3 rawF B 4 deedsD

theorem keyed3 : Keyed Tryz.prog 3 := int_keyed Tryz.underlying3
theorem key3 {a : Int} (h : (Lit.int .i64 a).wf = true) : keyOf Tryz.prog 3 (.int .i64 a) = some (.int .i64 a) := keyOf_int_mk Tryz.underlying3 h

set_option maxHeartbeats 400000 in
theorem deeds_any (w : World) : Calls Tryz.prog 59 #[] w fun e w' => ∃ B, e = .returned (.map (some B)) ∧ Deeds w' B ∧ Later w w' := by
  have hmm := @run_makeMap Tryz.prog
  have o1 := World.ownsMap_made (H := Value) w Tryz.prog 3 rawF
  obtain ⟨w2, r2, o2, t2⟩ := o1.store keyed3 Tryz.underlying106 (by decide) (key3 (a := 0) (by decide)) (show rawF (deedV 73) = _ from rfl)
  obtain ⟨w3, r3, o3, t3⟩ := o2.store keyed3 Tryz.underlying106 (by decide) (key3 (a := 1) (by decide)) (show rawF (deedV 74) = _ from rfl)
  obtain ⟨w4, r4, o4, t4⟩ := o3.store keyed3 Tryz.underlying106 (by decide) (key3 (a := 2) (by decide)) (show rawF (deedV 75) = _ from rfl)
  obtain ⟨w5, r5, o5, t5⟩ := o4.store keyed3 Tryz.underlying106 (by decide) (key3 (a := 3) (by decide)) (show rawF (deedV 76) = _ from rfl)
  have hl : Later w w5 := ((((Later.refl w).alloc _).turn (Turned.of_map t2) (Nat.le_refl _)).turn (Turned.of_map t3) (Nat.le_refl _)).turn (Turned.of_map t4) (Nat.le_refl _) |>.turn (Turned.of_map t5) (Nat.le_refl _)
  have O5 := Lib.hid o5; have HL := Lib.hid hl
  unfold deedV at r2 r3 r4 r5
  clear o1 o2 o3 o4 o5 t2 t3 t4 t5 hl
  go_enter Tryz.func59, Tryz.ntmps59
  go_wp2
  go_ret
  exact ⟨_, rfl, O5.out, HL.out⟩

/-- What is found there. -/
def deedAt (k : Int) : FuncId := if k = 0 then 73 else if k = 1 then 74 else if k = 2 then 75 else 76
theorem Deeds.look {w : World} {B : Nat} (h : Deeds w B) {k : Int} (hk : k = 0 ∨ k = 1 ∨ k = 2 ∨ k = 3) :
    (Instr.lookup 106 (.map (some B)) (.int .i64 k) false).run Tryz.prog w = .ok (.func (.func (deedAt k)) #[] #[]) w := by
  have hz : (zeroValue 105).run Tryz.prog w = .ok .nilFunc w := by kernel_rfl
  have hw : (Lit.int .i64 k).wf = true := by rcases hk with rfl | rfl | rfl | rfl <;> decide
  obtain ⟨v, ps, hrun, hv⟩ := World.ownsMap.lookup h keyed3 Tryz.underlying106 hz (show rawF .nilFunc = _ from rfl) (key3 hw)
  have e : deedsD.atKey (.int .i64 k) (.held .nilFunc) = .held (deedV (deedAt k)) := by rcases hk with rfl | rfl | rfl | rfl <;> rfl
  rw [e] at hv
  simp only [rawF, Option.some.injEq, Prod.mk.injEq, DataW.held.injEq] at hv
  rw [hrun, hv.1]
  rfl
theorem Deeds.later {w w' : World} {B : Nat} (h : Deeds w B) (hl : Later w w') : Deeds w' B := h.kept (row := none) ⟨hl.os, hl.tape, hl.output, hl.size, fun i hi _ => hl.block i hi⟩ (by simp)

end Go.Proofs.YtbhnbkcokhfopaaGreat

/-
  What line.piece comes to, as a call.
-/
namespace Go.Proofs.YtbhnbkcokhfopaaGreat
open Go.RowKit

set_option maxHeartbeats 400000 in
theorem piece_any (A : Option Addr) (n c : Nat) (ss : List ByteArray) (w : World) (h : Row w A n ss) (hc : n ≤ c) (f t : Int) (h0 : 0 ≤ f) (h1 : f ≤ t) (h2 : t ≤ n) :
    Calls Tryz.prog 95 #[.slice A n c, .int .i64 f, .int .i64 t] w (IsRow ((ss.drop f.toNat).take (t.toNat - f.toNat)) w) := by
  have hr := h.piece (f := f.toNat) (t := t.toNat) (m := t.toNat) (by omega) (by omega) (Nat.le_refl _)
  generalize (ss.drop f.toNat).take (t.toNat - f.toNat) = out at hr ⊢
  clear h
  have h3 : t ≤ c := by omega
  by_cases hft : t = f
  · subst hft
    have hl : out = [] := List.eq_nil_of_length_eq_zero (by rw [hr.len]; omega)
    subst hl
    clear hr
    go_enter Tryz.func95, Tryz.ntmps95
    go_wp2
    go_ret
    exact ⟨A, rfl, Row.none, rfl⟩
  · rw [if_neg (by omega)] at hr
    have HR := Lib.hid hr; clear hr
    have h4 : ¬ t.toNat = f.toNat := by omega
    go_enter Tryz.func95, Tryz.ntmps95
    go_wp2
    go_ret
    have hr := HR.out
    rw [Nat.mul_one] at hr
    exact ⟨_, by rw [hr.len]; rfl, by rw [hr.len]; exact hr, rfl⟩

end Go.Proofs.YtbhnbkcokhfopaaGreat

/-
  What line.stands comes to, as a call.
-/
namespace Go.Proofs.YtbhnbkcokhfopaaGreat
open Go.RowKit

set_option maxHeartbeats 400000 in
theorem stands_any (A B : Option Addr) (n c m d : Nat) (l part : List ByteArray) (k : Int) (w : World) (hx : Row w A n l) (hy : Row w B m part) (hc : n ≤ c) (hn : n ≤ 65536) (hm : m ≤ 65536)
    (hk0 : -9223372036854775808 ≤ k) (hk1 : k ≤ 9223372036854775807) :
    Calls Tryz.prog 94 #[.slice A n c, .int .i64 k, .slice B m d] w fun e w' => e = .returned (.bool (standsB l k part)) ∧ ∃ q, w' = w.drewN q := by
  by_cases h0 : k < 0
  · have e : standsB l k part = false := by unfold standsB; rw [decide_eq_false (by omega)]; rfl
    have E := Lib.hid e; clear e hx hy
    go_enter Tryz.func94, Tryz.ntmps94
    go_wp2
    go_ret
    exact ⟨by rw [E.out]; rfl, 0, rfl⟩
  · by_cases h1 : (n : Int) - k < m
    · have e : standsB l k part = false := by unfold standsB; rw [decide_eq_false (by rw [hx.len, hy.len]; omega)]; rfl
      have E := Lib.hid e; clear e hx hy
      go_enter Tryz.func94, Tryz.ntmps94
      go_wp2
      go_ret
      exact ⟨by rw [E.out]; rfl, 0, rfl⟩
    · have e : standsB l k part = sameB ((l.drop k.toNat).take part.length) part := by unfold standsB; rw [decide_eq_true (by rw [hx.len, hy.len]; omega)]; rfl
      have el : (k + m).toNat - k.toNat = part.length := by rw [hy.len]; omega
      rw [← el] at e
      have E := Lib.hid e; clear e el
      have HX := Lib.hid hx; clear hx
      have HY := Lib.hid hy; clear hy
      go_enter Tryz.func94, Tryz.ntmps94
      go_wp2_with fail
      refine (piece_any A n c l w HX.out hc k (k + m) (by omega) (by omega) (by omega)).mono ?_
      rintro e w' ⟨A', rfl, hr, rfl⟩
      generalize hout : (l.drop k.toNat).take ((k + m).toNat - k.toNat) = out at hr E
      have HO := Lib.hid hout; clear hout
      have HR := Lib.hid hr; clear hr
      go_wp2_with fail
      refine (same_any A' B _ _ m d out part _ HR.out HY.out ?_ ?_).mono ?_
      · rw [← HO.out, List.length_take, List.length_drop, HX.out.len]; omega
      · omega
      rintro e w' ⟨rfl, q, rfl⟩
      go_wp2
      go_ret
      exact ⟨by rw [E.out]; rfl, q, rfl⟩

end Go.Proofs.YtbhnbkcokhfopaaGreat

/-
  What line.Splice comes to, as a call.
-/
namespace Go.Proofs.YtbhnbkcokhfopaaGreat
open Go.RowKit

set_option maxHeartbeats 400000 in
theorem splice_no (A B C : Option Addr) (n c m d p q : Nat) (l old : List ByteArray) (k : Int) (w : World) (hx : Row w A n l) (hy : Row w B m old) (hc : n ≤ c) (hn : n ≤ 65536) (hm : m ≤ 65536)
    (hk0 : -9223372036854775808 ≤ k) (hk1 : k ≤ 9223372036854775807) (hs : standsB l k old = false) :
    Calls Tryz.prog 81 #[.slice A n c, .int .i64 k, .slice B m d, .slice C p q] w fun e w' => e = .returned (.tuple #[.slice none 0 0, .bool false]) ∧ ∃ q, w' = w.drewN q := by
  have H := stands_any A B n c m d l old k w hx hy hc hn hm hk0 hk1
  rw [hs] at H
  have HS := Lib.hid H; clear H hx hy hs
  go_enter Tryz.func81, Tryz.ntmps81
  go_wp2_with (go_at_call 94; refine HS.out.mono ?_; rintro e w' ⟨rfl, q, rfl⟩)
  go_ret2
  exact ⟨rfl, _, rfl⟩

set_option maxHeartbeats 400000 in
theorem splice_yes (A B C : Option Addr) (n c m d p q : Nat) (l old with_ : List ByteArray) (k : Nat) (w : World) (hx : Row w A n l) (hy : Row w B m old) (hz : Row w C p with_) (hc : n ≤ c) (hn : n ≤ 65536) (hm : m ≤ 65536) (hp : p ≤ 65536)
    (hs : standsB l k old = true) :
    Calls Tryz.prog 81 #[.slice A n c, .int .i64 k, .slice B m d, .slice C p q] w (GivesRow2 (spliced l k m with_) w) := by
  have hkm := standsB_le hs
  rw [hx.len, hy.len] at hkm
  have H := stands_any A B n c m d l old k w hx hy hc hn hm (by omega) (by omega)
  rw [hs] at H
  have HS := Lib.hid H; clear H hs
  have HX := Lib.hid hx; clear hx
  have HZ := Lib.hid hz; clear hz
  obtain ⟨i0, hi, hz0, hz1, hz2⟩ := info_parts Tryz.textInfo
  go_enter Tryz.func81, Tryz.ntmps81
  go_wp2_with (first
    | (go_at_call 94; refine HS.out.mono ?_; rintro e w' ⟨rfl, q1, rfl⟩)
    | (at_make; refine wpList_make_row (w0 := w) rfl _ _ 45 rfl i0 Tryz.underlying45 hi hz0 hz1 hz2 ((Later.refl w).drewN q1) .i64 .i64 _ rfl rfl (by omega) (by omega) ?_; intro w1 v1 hown1))
  refine (piece_any A n c l w1 (HX.out.later hown1.later) hc 0 k (by omega) (by omega) (by omega)).mono ?_
  rintro e w' ⟨A1, rfl, hr1, rfl⟩
  have e1 : (l.drop (0 : Int).toNat).take ((k : Int).toNat - (0 : Int).toNat) = l.take k := by simp
  rw [e1] at hr1 ⊢
  clear e1
  have l1 : (l.take k).length ≤ 65536 := by rw [List.length_take, HX.out.len]; omega
  generalize ht1 : l.take k = s1 at hr1 l1 ⊢
  have T1 := Lib.hid ht1; clear ht1
  have HR1 := Lib.hid hr1; clear hr1
  have HO1 := Lib.hid hown1; clear hown1
  go_wp2_with (first
    | (at_builtin; refine wpList_append_row rfl _ _ 45 rfl i0 Tryz.underlying45 hi hz0 hz1 hz2 HO1.out rfl _ _ _ _ rfl HR1.out (by simp; omega) ?_; intro v2 w2 hown2 hg2; have HO2 := Lib.hid hown2; clear hown2 hg2)
    | (at_builtin; refine wpList_append_row rfl _ _ 45 rfl i0 Tryz.underlying45 hi hz0 hz1 hz2 HO2.out rfl _ _ _ _ rfl (HZ.out.later HO2.out.later) (by simp; omega) ?_; intro v3 w3 hown3 hg3; have HO3 := Lib.hid hown3; clear hown3 hg3))
  refine (piece_any A n c l w3 (HX.out.later HO3.out.later) hc (k + m) n (by omega) (by omega) (by omega)).mono ?_
  rintro e w' ⟨A4, rfl, hr4, rfl⟩
  have e4 : (l.drop ((k : Int) + m).toNat).take ((n : Int).toNat - ((k : Int) + m).toNat) = l.drop (k + m) := by
    rw [show ((k : Int) + m).toNat = k + m from by omega, Int.toNat_natCast]
    exact List.take_of_length_le (by rw [List.length_drop, HX.out.len]; omega)
  rw [e4] at hr4 ⊢
  clear e4
  have l4 : (l.drop (k + m)).length ≤ 65536 := by rw [List.length_drop, HX.out.len]; omega
  generalize ht4 : l.drop (k + m) = s4 at hr4 l4 ⊢
  have T4 := Lib.hid ht4; clear ht4
  have HR4 := Lib.hid hr4; clear hr4
  have hzl : with_.length = p := HZ.out.len
  have ZL : with_.length ≤ 65536 := by omega
  clear hzl
  go_wp2_with (at_builtin; refine wpList_append_row rfl _ _ 45 rfl i0 Tryz.underlying45 hi hz0 hz1 hz2 HO3.out rfl _ _ _ _ rfl HR4.out (by simp; omega) ?_; intro v5 w5 hown5 hg5; have HO5 := Lib.hid hown5; clear hown5 hg5)
  go_ret2
  have ef : spliced l k m with_ = ([] ++ s1 ++ with_) ++ s4 := by rw [spliced, T1.out, T4.out, List.nil_append]
  rw [ef]
  obtain ⟨A6, c6, hv, hcc, hr6⟩ := HO5.out.row
  exact ⟨A6, c6, by rw [← hv]; rfl, hcc, hr6, HO5.out.later⟩

end Go.Proofs.YtbhnbkcokhfopaaGreat

/-
  What prim's deeds do to a tree, as calls.
-/
namespace Go.Proofs.YtbhnbkcokhfopaaGreat
open Go.RowKit Go.Maps

/-- Whether it fits; the tree behind it; nothing else has turned. -/
def Deed (r : Tr × Int) (p B : Nat) (w : World) (e : Ending) (w' : World) : Prop := e = .returned (.bool (r.2 == 0)) ∧ TreeAt w' p B r.1 ∧ Turned B w w'

set_option maxRecDepth 100000 in
set_option maxHeartbeats 400000 in
theorem deedAdd_any (x : PrC) (p B : Nat) (t : Tr) (w : World) (ht : TreeAt w p B t) (hx : PrOk w x) (hl : t.length ≤ 65536) :
    Calls Tryz.prog 74 #[prV x, .pointer (some ⟨p, 0, none⟩)] w (Deed (addT t x.v.name) p B w) := by
  obtain ⟨⟨kd, nm, to, pl, old, new⟩, A, n, c, C, m, d⟩ := x
  have hlb : Later w (w.alloc (.cells #[.int .i64 kd, .string nm, .string to, .int .i64 pl, .slice A n c, .slice C m d] 53)) := (Later.refl w).alloc _
  have HC := Lib.hid (add_any p B nm t _ (ht.later hlb) hx.name hl)
  have HLB := Lib.hid hlb
  unfold prV
  dsimp only at HC ⊢
  clear hlb ht hx
  go_enter Tryz.func74, Tryz.ntmps74
  go_wp2_with fail
  refine HC.out.mono ?_
  rintro e w1 ⟨rfl, h1, h2⟩
  have H1 := Lib.hid h1; have H2 := Lib.hid h2; clear h1 h2
  go_wp2
  go_ret
  exact ⟨rfl, H1.out, (HLB.out.turned B).trans H2.out⟩

set_option maxRecDepth 100000 in
set_option maxHeartbeats 400000 in
theorem deedRemove_any (x : PrC) (p B : Nat) (t : Tr) (w : World) (ht : TreeAt w p B t) (hx : PrOk w x) (hb : ∀ f ∈ t, f.2.length ≤ 65536) :
    Calls Tryz.prog 75 #[prV x, .pointer (some ⟨p, 0, none⟩)] w (Deed (removeT t x.v.name) p B w) := by
  obtain ⟨⟨kd, nm, to, pl, old, new⟩, A, n, c, C, m, d⟩ := x
  have hlb : Later w (w.alloc (.cells #[.int .i64 kd, .string nm, .string to, .int .i64 pl, .slice A n c, .slice C m d] 53)) := (Later.refl w).alloc _
  have HC := Lib.hid (remove_any p B nm t _ (ht.later hlb) hx.name hb)
  have HLB := Lib.hid hlb
  unfold prV
  dsimp only at HC ⊢
  clear hlb ht hx
  go_enter Tryz.func75, Tryz.ntmps75
  go_wp2_with fail
  refine HC.out.mono ?_
  rintro e w1 ⟨rfl, h1, h2⟩
  have H1 := Lib.hid h1; have H2 := Lib.hid h2; clear h1 h2
  go_wp2
  go_ret
  exact ⟨rfl, H1.out, (HLB.out.turned B).trans H2.out⟩

set_option maxRecDepth 100000 in
set_option maxHeartbeats 400000 in
theorem deedMove_any (x : PrC) (p B : Nat) (t : Tr) (w : World) (ht : TreeAt w p B t) (hx : PrOk w x) (hl : t.length ≤ 65536) :
    Calls Tryz.prog 76 #[prV x, .pointer (some ⟨p, 0, none⟩)] w (Deed (moveT t x.v.name x.v.to) p B w) := by
  obtain ⟨⟨kd, nm, to, pl, old, new⟩, A, n, c, C, m, d⟩ := x
  have hlb : Later w (w.alloc (.cells #[.int .i64 kd, .string nm, .string to, .int .i64 pl, .slice A n c, .slice C m d] 53)) := (Later.refl w).alloc _
  have HC := Lib.hid (move_any p B nm to t _ (ht.later hlb) hx.name hx.to hl)
  have HLB := Lib.hid hlb
  unfold prV
  dsimp only at HC ⊢
  clear hlb ht hx
  go_enter Tryz.func76, Tryz.ntmps76
  go_wp2_with fail
  refine HC.out.mono ?_
  rintro e w1 ⟨rfl, h1, h2⟩
  have H1 := Lib.hid h1; have H2 := Lib.hid h2; clear h1 h2
  go_wp2
  go_ret
  exact ⟨rfl, H1.out, (HLB.out.turned B).trans H2.out⟩

set_option maxRecDepth 100000 in
set_option maxHeartbeats 800000 in
theorem deedSplice_any (x : PrC) (p B k h : Nat) (t : Tr) (w : World) (ht : TreeAt w p B t) (hx : PrOk w x) (hr : rightP x.v = true) (hs : Sized k h t) (hk : k ≤ 60000) (hh : h + x.m ≤ 65536) :
    Calls Tryz.prog 73 #[prV x, .pointer (some ⟨p, 0, none⟩)] w (Deed (hunkT t x.v) p B w) := by
  have hput := fun l hg i q => put_spliced (p := x.v) (l := l) hs hr hg i q
  have hall := (right_parts hr).2.2.2.1
  obtain ⟨⟨kd, nm, to, pl, old, new⟩, A, n, c, C, m, d⟩ := x
  have hlb : Later w (w.alloc (.cells #[.int .i64 kd, .string nm, .string to, .int .i64 pl, .slice A n c, .slice C m d] 53)) := (Later.refl w).alloc _
  have hbl : ∀ f ∈ t, f.2.length ≤ 65536 := fun f hf => by have := (hs.each f hf).2.2; omega
  have HG := Lib.hid (get_any p B nm t _ (ht.later hlb) hx.name hbl)
  have HT := Lib.hid ht; have HX := Lib.hid hx
  have c1 : (w.alloc (.cells #[.int .i64 kd, .string nm, .string to, .int .i64 pl, .slice A n c, .slice C m d] 53)).cell? ⟨w.heap.size, 1, none⟩ = some (.string nm) := by simp
  have c3 : (w.alloc (.cells #[.int .i64 kd, .string nm, .string to, .int .i64 pl, .slice A n c, .slice C m d] 53)).cell? ⟨w.heap.size, 3, none⟩ = some (.int .i64 pl) := by simp
  have c4 : (w.alloc (.cells #[.int .i64 kd, .string nm, .string to, .int .i64 pl, .slice A n c, .slice C m d] 53)).cell? ⟨w.heap.size, 4, none⟩ = some (.slice A n c) := by simp
  have c5 : (w.alloc (.cells #[.int .i64 kd, .string nm, .string to, .int .i64 pl, .slice A n c, .slice C m d] 53)).cell? ⟨w.heap.size, 5, none⟩ = some (.slice C m d) := by simp
  have CB := Lib.hid (And.intro c1 (And.intro c3 (And.intro c4 c5)))
  have hn1 := hx.omost; have hm1 := hx.nmost; have hlo := hx.lo; have hhi := hx.hi
  have hol := hx.old.len; have hnl := hx.new.len
  have HLB := Lib.hid hlb
  unfold prV
  dsimp only at hput hall hh hn1 hm1 hlo hhi hol hnl ⊢
  clear hlb ht hx hr c1 c3 c4 c5
  have HP := Lib.hid hput; have HA := Lib.hid hall; have HS := Lib.hid hs; have HBL := Lib.hid hbl
  clear hput hall hs hbl
  cases hg : getT t nm with
  | none =>
    have E : Hid (hunkT t ⟨kd, nm, to, pl, old, new⟩ = (t, 31)) := by simp [Hid, hunkT, hg]
    rw [E.out]
    rw [hg] at HG
    clear hg E
    go_enter Tryz.func73, Tryz.ntmps73
    go_wp2_with fail
    refine HG.out.mono ?_
    rintro e w1 ⟨v1, rfl, hown⟩
    simp only [Option.getD_none, Option.isSome_none] at hown ⊢
    have HL1 := Lib.hid (HLB.out.trans hown.later); clear hown
    go_wp2
    go_ret
    exact ⟨rfl, HT.out.later HL1.out, HL1.out.turned B⟩
  | some l =>
    rw [hg] at HG
    have hll : l.length ≤ 65536 := by have := (HS.out.get hg).2.2; omega
    have hlh : l.length + new.length ≤ 65536 := by have := (HS.out.get hg).2.2; omega
    have hla := (HS.out.get hg).2.1
    have HPG := Lib.hid (fun i q => HP.out l hg i q)
    cases hst : standsB l pl old
    · have E : Hid (hunkT t ⟨kd, nm, to, pl, old, new⟩ = (t, 31)) := by simp [Hid, hunkT, hg, hst]
      rw [E.out]
      clear hg E
      go_enter Tryz.func73, Tryz.ntmps73
      go_wp2_with fail
      refine HG.out.mono ?_
      rintro e w1 ⟨v1, rfl, hown⟩
      simp only [Option.getD_some, Option.isSome_some] at hown ⊢
      obtain ⟨A1, cc1, hv1, hcc1, hr1⟩ := hown.row
      subst hv1
      have hl1 := hown.later
      have b1 := hl1.cell CB.out.1; have b3 := hl1.cell CB.out.2.1; have b4 := hl1.cell CB.out.2.2.1; have b5 := hl1.cell CB.out.2.2.2
      have HSP := Lib.hid (splice_no A1 A C l.length cc1 n c m d l old pl w1 hr1 (HX.out.old.later (HLB.out.trans hl1)) hcc1 hll hn1 hlo hhi hst)
      have HL1 := Lib.hid (HLB.out.trans hl1)
      clear hown hr1 hl1 hst
      go_wp2_with fail
      refine HSP.out.mono ?_
      rintro e w2 ⟨rfl, q2, rfl⟩
      go_wp2
      go_ret
      exact ⟨rfl, HT.out.later (HL1.out.drewN q2), (HL1.out.drewN q2).turned B⟩
    · have hle := standsB_le hst
      obtain ⟨i, rfl⟩ := Int.eq_ofNat_of_zero_le hle.1
      have E : Hid (hunkT t ⟨kd, nm, to, i, old, new⟩ = (withT t nm (spliced l i n new), 0)) := by simp [Hid, hunkT, hg, hst, hol]
      rw [E.out]
      have hsl := spliced_le l new i n
      have hsa := allB_spliced hla HA.out i n
      have hsz : ∀ s ∈ spliced l i n new, s.size ≤ maxLen := fun s hs => by
        have := allB_mem.1 hsa s hs
        simp only [rightB, Bool.and_eq_true, decide_eq_true_eq] at this
        simp only [maxLen]; omega
      have HSA := Lib.hid hsz
      have HPT := Lib.hid (HPG.out i n)
      have HLE : Hid ((spliced l i n new).length ≤ 65536) := by simp only [Hid]; omega
      clear hg E hle hsa hsz hsl hla
      go_enter Tryz.func73, Tryz.ntmps73
      go_wp2_with fail
      refine HG.out.mono ?_
      rintro e w1 ⟨v1, rfl, hown⟩
      simp only [Option.getD_some, Option.isSome_some] at hown ⊢
      obtain ⟨A1, cc1, hv1, hcc1, hr1⟩ := hown.row
      subst hv1
      have hl1 := hown.later
      have b1 := hl1.cell CB.out.1; have b3 := hl1.cell CB.out.2.1; have b4 := hl1.cell CB.out.2.2.1; have b5 := hl1.cell CB.out.2.2.2
      have HSP := Lib.hid (splice_yes A1 A C l.length cc1 n c m d l old new i w1 hr1 (HX.out.old.later (HLB.out.trans hl1)) (HX.out.new.later (HLB.out.trans hl1)) hcc1 hll hn1 hm1 hst)
      have HL1 := Lib.hid hl1
      clear hown hr1 hl1 hst
      go_wp2_with fail
      refine HSP.out.mono ?_
      rintro e w2 ⟨A2, cc2, rfl, hcc2, hr2, hl2⟩
      have e1 := hl2.cell b1
      have HR2 := Lib.hid hr2
      have HL2 := Lib.hid (HLB.out.trans (HL1.out.trans hl2))
      clear hr2 hl2 b1 b3 b4 b5
      have hpa := put_any p B nm A2 (spliced l i n new).length cc2 (spliced l i n new) t w2 (HT.out.later HL2.out) HR2.out HX.out.name (by have := HS.out.many; omega) HLE.out HSA.out
      rw [HPT.out] at hpa
      have HPA := Lib.hid hpa; clear hpa
      generalize spliced l i n new = sp at *
      go_wp2_with fail
      refine HPA.out.mono ?_
      rintro e w3 ⟨rfl, h3, h4⟩
      have H3 := Lib.hid h3; have H4 := Lib.hid h4; clear h3 h4
      go_wp2
      go_ret
      exact ⟨rfl, H3.out, (HL2.out.turned B).trans H4.out⟩

end Go.Proofs.YtbhnbkcokhfopaaGreat

/-
  What prim's Apply comes to, as a call.
-/
namespace Go.Proofs.YtbhnbkcokhfopaaGreat
open Go.RowKit Go.Maps

theorem deed_enters {k : Int} (hk : k = 0 ∨ k = 1 ∨ k = 2 ∨ k = 3) : ∀ (args : Array Value) (w : World), (callFunc (deedAt k) args).run Tryz.prog w = .ok (.enter (deedAt k) args) w := by
  rcases hk with rfl | rfl | rfl | rfl
  · exact enters_of Tryz.func73 (by kernel_rfl) rfl
  · exact enters_of Tryz.func74 (by kernel_rfl) rfl
  · exact enters_of Tryz.func75 (by kernel_rfl) rfl
  · exact enters_of Tryz.func76 (by kernel_rfl) rfl

/-- Each kind by its own function. -/
theorem deed_any (x : PrC) (p B k h : Nat) (t : Tr) (w : World) (ht : TreeAt w p B t) (hx : PrOk w x) (hr : rightP x.v = true) (hs : Sized k h t) (hk : k ≤ 60000) (hh : h + x.m ≤ 65536) :
    ∃ r : Tr × Int, Calls Tryz.prog (deedAt x.v.kind) #[prV x, .pointer (some ⟨p, 0, none⟩)] w (Deed r p B w) ∧ applyP t x.v = (r.1, if (r.2 == 0) = true then 0 else 31) := by
  have hl : t.length ≤ 65536 := by have := hs.many; omega
  have hb : ∀ f ∈ t, f.2.length ≤ 65536 := fun f hf => by have := (hs.each f hf).2.2; omega
  rcases (right_parts hr).2.1 with e | e | e | e
  · refine ⟨hunkT t x.v, by rw [e]; exact deedSplice_any x p B k h t w ht hx hr hs hk hh, ?_⟩
    rw [apply_hunk hr e]
    unfold hunkT
    split
    · rfl
    · split <;> rfl
  · refine ⟨addT t x.v.name, by rw [e]; exact deedAdd_any x p B t w ht hx hl, ?_⟩
    rw [apply_add hr e]; simp
  · refine ⟨removeT t x.v.name, by rw [e]; exact deedRemove_any x p B t w ht hx hb, ?_⟩
    rw [apply_rm hr e]; simp
  · refine ⟨moveT t x.v.name x.v.to, by rw [e]; exact deedMove_any x p B t w ht hx hl, ?_⟩
    rw [apply_move hr e]; simp

set_option maxRecDepth 100000 in
set_option maxHeartbeats 800000 in
theorem apply_any (x : PrC) (p B k h : Nat) (t : Tr) (w : World) (ht : TreeAt w p B t) (hx : PrOk w x) (hs : Sized k h t) (hk : k ≤ 60000) (hh : h + x.m ≤ 65536) :
    Calls Tryz.prog 34 #[.pointer (some ⟨p, 0, none⟩), prV x] w (Does (applyP t x.v) p B w) := by
  have hlb : Later w (w.alloc (.cells #[.int .i64 x.v.kind, .string x.v.name, .string x.v.to, .int .i64 x.v.place, .slice x.A x.n x.c, .slice x.B x.m x.d] 53)) := (Later.refl w).alloc _
  have hri := primRight_any x _ (hx.later hlb)
  have hbx : BoxAt (w.alloc (.cells #[.int .i64 x.v.kind, .string x.v.name, .string x.v.to, .int .i64 x.v.place, .slice x.A x.n x.c, .slice x.B x.m x.d] 53)) w.heap.size #[.int .i64 x.v.kind, .string x.v.name, .string x.v.to, .int .i64 x.v.place, .slice x.A x.n x.c, .slice x.B x.m x.d] 53 := BoxAt.made w _ _
  have HLB := Lib.hid hlb; have HT := Lib.hid ht; have HBX := Lib.hid hbx
  cases hr : rightP x.v
  · rw [hr] at hri
    have HR := Lib.hid hri
    rw [apply_wrong hr]
    clear hri hr hx hs hlb ht hbx
    unfold prV at HR ⊢
    go_enter Tryz.func34, Tryz.ntmps34
    go_wp2_with fail
    refine HR.out.mono ?_
    rintro e w1 ⟨rfl, hl1⟩
    have HL1 := Lib.hid (HLB.out.trans hl1); clear hl1
    go_wp2
    go_ret
    exact ⟨rfl, HT.out.later HL1.out, HL1.out.turned B⟩
  · rw [hr] at hri
    have HR := Lib.hid hri
    have HD := Lib.hid (fun (w1 : World) (hl : Later w w1) => deed_any x p B k h t w1 (ht.later hl) (hx.later hl) hr hs hk hh)
    have HK := Lib.hid (right_parts hr).2.1
    clear hri hr hx hs hlb ht hbx
    unfold prV at HR HD ⊢
    go_enter Tryz.func34, Tryz.ntmps34
    go_wp2_with fail
    refine HR.out.mono ?_
    rintro e w1 ⟨rfl, hl1⟩
    have hb1 := HBX.out.later hl1
    have HL1 := Lib.hid (HLB.out.trans hl1)
    have x0 := hb1.cell (i := 0) rfl
    have HB1 := Lib.hid hb1
    clear hl1 hb1
    go_wp2_with fail
    go_region_held3 (fun w' => w'.cell? ⟨w.heap.size, 0, none⟩ = some (.int .i64 x.v.kind)) (go_keep)
      (first | (go_at_call 59; refine (deeds_any _).mono ?_; rintro e w2 ⟨B2, rfl, hd2, hl2⟩; have HL2 : Hid (Later w1 w2) := Later.trans (by first | exact Later.refl _ | exact (Later.refl _).drew | exact (Later.refl _).drewN _) hl2; have x02 := HL2.out.cell x0; have hlk := hd2.look HK.out; have HD2 := Lib.hid hd2; clear hd2 hl2))
    have hb2 := HB1.out.later HL2.out
    have y0 := hb2.cell (i := 0) rfl; have y1 := hb2.cell (i := 1) rfl; have y2 := hb2.cell (i := 2) rfl; have y3 := hb2.cell (i := 3) rfl; have y4 := hb2.cell (i := 4) rfl; have y5 := hb2.cell (i := 5) rfl
    obtain ⟨r, hcall, happ⟩ := HD.out w2 (HL1.out.trans HL2.out)
    have HCL := Lib.hid hcall; have HAP := Lib.hid happ
    have eg := deed_enters HK.out
    generalize deedAt x.v.kind = f at HCL eg hlk ⊢
    clear hb2 hcall happ hlk x0 x02 HD
    unfold Deed at HCL
    generalize (r.2 == 0) = b at HCL HAP
    cases b
    · go_wp2_with (go_at_fn f; refine HCL.out.mono ?_; rintro e w3 ⟨rfl, h3, h4⟩; have H3 := Lib.hid h3; have H4 := Lib.hid h4; clear h3 h4)
      go_ret
      rw [HAP.out]
      exact ⟨rfl, H3.out, ((HL1.out.trans HL2.out).turned B).trans H4.out⟩
    · go_wp2_with (go_at_fn f; refine HCL.out.mono ?_; rintro e w3 ⟨rfl, h3, h4⟩; have H3 := Lib.hid h3; have H4 := Lib.hid h4; clear h3 h4)
      go_ret
      rw [HAP.out]
      exact ⟨rfl, H3.out, ((HL1.out.trans HL2.out).turned B).trans H4.out⟩

end Go.Proofs.YtbhnbkcokhfopaaGreat

/-
  What maps.EqualFunc at files with line.Same, and tree.Same, come to, as calls.
-/
namespace Go.Proofs.YtbhnbkcokhfopaaGreat
open Go.RowKit Go.Maps

section
variable {α : Type}
theorem rising_le : ∀ {a b : Fl α}, Rising a → Rising b → (∀ f ∈ a, f ∈ b) → a.length ≤ b.length
  | [], _, _, _, _ => Nat.zero_le _
  | x :: a, [], _, _, h => absurd (h x List.mem_cons_self) (by simp)
  | x :: a, y :: b, ha, hb, h => by
    by_cases e : x = y
    · subst e
      have := rising_le (rising_tail ha) (rising_tail hb) fun f hf => by
        rcases List.mem_cons.1 (h f (List.mem_cons_of_mem _ hf)) with rfl | h1
        · exact absurd rfl (ltN_ne (rising_head ha hf))
        · exact h1
      simpa using this
    · have hx : x ∈ b := (List.mem_cons.1 (h x List.mem_cons_self)).resolve_left e
      have hlt := rising_head hb hx
      have := rising_le (a := x :: a) ha (rising_tail hb) fun f hf => by
        rcases List.mem_cons.1 (h f hf) with rfl | h1
        · rcases List.mem_cons.1 hf with rfl | hf
          · exact absurd rfl e
          · have := ltN_asymm (rising_head ha hf); rw [hlt] at this; cases this
        · exact h1
      simp at this ⊢; omega
/-- As many files, all of them there: the same. -/
theorem rising_sub : ∀ {a b : Fl α}, Rising a → Rising b → (∀ f ∈ a, f ∈ b) → b.length ≤ a.length → a = b
  | [], [], _, _, _, _ => rfl
  | [], y :: b, _, _, _, h => absurd h (by simp)
  | x :: a, [], _, _, h, _ => absurd (h x List.mem_cons_self) (by simp)
  | x :: a, y :: b, ha, hb, h, hl => by
    have e : x = y := by
      rcases Classical.em (x = y) with e | e
      · exact e
      · have hx : x ∈ b := (List.mem_cons.1 (h x List.mem_cons_self)).resolve_left e
        have hlt := rising_head hb hx
        have := rising_le (a := x :: a) ha (rising_tail hb) fun f hf => by
          rcases List.mem_cons.1 (h f hf) with rfl | h1
          · rcases List.mem_cons.1 hf with rfl | hf
            · exact absurd rfl e
            · have := ltN_asymm (rising_head ha hf); rw [hlt] at this; cases this
          · exact h1
        simp at this hl; omega
    subst e
    refine congrArg _ (rising_sub (rising_tail ha) (rising_tail hb) (fun f hf => ?_) (by simpa using hl))
    rcases List.mem_cons.1 (h f (List.mem_cons_of_mem _ hf)) with rfl | h1
    · exact absurd rfl (ltN_ne (rising_head ha hf))
    · exact h1
end

theorem FA.step {w w' : World} {B r n cnt : Nat} {z : Fl Held} {D : DataW Value} {left : Lit → Bool} {B0 : Nat} (h : FA w B z) (hr : w.ranges Tryz.prog 9 raw B0 r n D left cnt) (hg : Turned r w w') (hne : B ≠ r) : FA w' B z :=
  ⟨h.own.kept hg (by simpa using hne), h.rise, fun f hf => by
    obtain ⟨A, m, c, e, h1, h2⟩ := h.reads f hf
    exact ⟨A, m, c, e, h1, h2.1, fun hn => by
      obtain ⟨b, o, e, hc⟩ := h2.2 hn
      exact ⟨b, o, e, fun j s hs => hg.cell (hc j s hs) (iter_cell hr (hc j s hs))⟩⟩⟩

set_option maxHeartbeats 800000 in
theorem equalFunc_any (B1 B2 : Nat) (z1 z2 : Fl Held) (w : World) (h1 : FA w B1 z1) (h2 : FA w B2 z2) (hb1 : ∀ f ∈ z1, f.2.2.length ≤ 65536) (hb2 : ∀ f ∈ z2, f.2.2.length ≤ 65536) :
    Calls Tryz.prog 37 #[.map (some B1), .map (some B2), .func (.func 38) #[] #[]] w (Says (sameT (mapT (·.2) z1) (mapT (·.2) z2)) w) := by
  have H1 := Lib.hid h1; have H2 := Lib.hid h2
  have hlt1 := h1.lt; have hlt2 := h2.lt
  have HB1 := Lib.hid hb1; have HB2 := Lib.hid hb2
  have R1 : Hid (Rising (mapT (·.2) z1)) := rising_map.2 h1.rise
  have R2 : Hid (Rising (mapT (·.2) z2)) := rising_map.2 h2.rise
  clear h1 h2 hb1 hb2
  by_cases hlen : z1.length = z2.length
  · have HLEN := Lib.hid hlen
    have hd : ((z1.length : Int) != (z2.length : Int)) = false := by rw [bne_eq_false_iff_eq]; omega
    go_enter Tryz.func37, Tryz.ntmps37
    go_wp2_with (first
      | (at_len; refine wpList_len_own _ rfl _ 73 rfl 9 45 Tryz.underlying73 raw B1 z1.length _ rfl H1.out.own ?_; rw [size_datum, mapT_length])
      | (at_len; refine wpList_len_own _ rfl _ 73 rfl 9 45 Tryz.underlying73 raw B2 z2.length _ rfl H2.out.own ?_; rw [size_datum, mapT_length])
      | (at_range; refine wpList_range_files rfl _ rfl B1 z1 rfl H1.out ?_; intro w0 hrg0 hl0; have HR0 := Lib.hid hrg0; have HL0 := Lib.hid hl0; clear hrg0 hl0))
    go_frame
    clear hd hlen
    go_loopg [] (z1.length + 1) (fun g wr => ∃ (left : Lit → Bool) (cnt : Nat), cnt ≤ g ∧ Later w wr ∧ Hid (FA wr B2 z2) ∧ Hid (Ranging wr B1 w.heap.size z1 left cnt) ∧ Hid (∀ f ∈ seen left (mapT (·.2) z1), f ∈ mapT (·.2) z2))
    case atStart => exact ⟨_, _, Nat.le_succ _, HL0.out, H2.out.later HL0.out, HR0.out, by rw [seen_map, seen_start]; exact fun f hf => by cases hf⟩
    case round =>
      obtain ⟨left, cnt, hcg, hwr, hf2, hrg, hall⟩ := hrel
      have HW := Lib.hid hwr; clear hwr
      go_wp2_with (at_next; refine wpList_next_files rfl _ rfl B1 w.heap.size z1 left cnt rfl hrg.out ?_ ?_)
      · intro hdone
        have E : Hid (sameT (mapT (·.2) z1) (mapT (·.2) z2) = true) := by
          have hall' := hall.out
          rw [seen_end hdone] at hall'
          have e := rising_sub R1.out R2.out hall' (by rw [mapT_length, mapT_length]; exact Nat.le_of_eq HLEN.out.symm)
          rw [e]; exact sameT_self _
        clear hdone hall
        go_wp2
        go_ret
        exact ⟨ret_bool E.out.symm, HW.out⟩
      · intro nm A m c l w' cnt' hmem hnm hmc hrow hlk hrg' hlt hturn hen
        have hmem1 : (nm, l) ∈ mapT (·.2) z1 := by simp only [mapT, List.mem_map]; exact ⟨_, hmem, rfl⟩
        have hm : m ≤ 65536 := by rw [← hrow.len]; exact HB1.out _ hmem
        have hf2' : FA w' B2 z2 := hf2.out.step hrg.out.at_ hturn (by omega)
        have hlw : Later w w' := HW.out.turn hturn (Nat.le_refl _)
        have HLW := Lib.hid hlw; have HF2 := Lib.hid hf2'
        have HRG := Lib.hid hrg'
        cases hg : getT z2 nm with
        | none =>
          have hlook := hf2'.look_no hnm hg
          have E : Hid (sameT (mapT (·.2) z1) (mapT (·.2) z2) = false) := sameT_no fun e => by
            have h9 : getT (mapT (·.2) z2) nm = none := by rw [getT_map, hg]; rfl
            exact getT_none.1 h9 _ (e ▸ hmem1) rfl
          clear hrow hmem hlk hrg' hturn hmem1 hf2' hlw hg hall hf2 hrg
          go_wp2
          go_ret
          exact ⟨ret_bool E.out.symm, HLW.out⟩
        | some x =>
          have hlook := hf2'.look_yes hnm hg
          obtain ⟨A2, m2, c2, hv, hmc2, hr2⟩ := hf2'.get hg
          have hm2 : m2 ≤ 65536 := by rw [← hr2.len]; exact HB2.out _ (getT_mem hg)
          rw [hv] at hlook
          have hg2 : getT (mapT (·.2) z2) nm = some x.2 := by rw [getT_map, hg]; rfl
          have hsame := same_any A A2 m c m2 c2 l x.2 w' hrow hr2 hm hm2
          by_cases hx : l = x.2
          · have hall' : ∀ f ∈ seen (but left nm) (mapT (·.2) z1), f ∈ mapT (·.2) z2 := fun f hf => by
              rw [seen_step R1.out hmem1] at hf
              rcases mem_with.1 hf with rfl | hf
              · rw [hx]; exact getT_mem hg2
              · exact hall.out f hf.1
            have HALL := Lib.hid hall'
            rw [sameB_yes hx] at hsame
            have HS := Lib.hid hsame
            clear hrow hmem hlk hrg' hturn hmem1 hf2' hlw hg hall hf2 hrg hr2 hv hg2 hx hall' hsame
            go_wp2_with (go_at_call 38; refine HS.out.mono ?_; rintro e w4 ⟨rfl, q, rfl⟩)
            go_roundg cnt'
            case measure => omega
            case rel =>
              have hd : Later w' (w'.drewN q) := (Later.refl _).drewN q
              exact ⟨but left nm, cnt', Nat.le_refl _, HLW.out.trans hd, HF2.out.later hd, HRG.out.later hd, HALL.out⟩
          · have E : Hid (sameT (mapT (·.2) z1) (mapT (·.2) z2) = false) := sameT_no fun e => by
              have h9 := (getT_iff R2.out).2 (e ▸ hmem1)
              rw [hg2] at h9; exact hx (Option.some.inj h9).symm
            rw [sameB_no hx] at hsame
            have HS := Lib.hid hsame
            clear hrow hmem hlk hrg' hturn hmem1 hf2' hlw hg hall hf2 hrg hr2 hv hg2 hx hsame
            go_wp2_with (go_at_call 38; refine HS.out.mono ?_; rintro e w4 ⟨rfl, q, rfl⟩)
            go_ret
            exact ⟨ret_bool E.out.symm, HLW.out.drewN q⟩
  · have E : Hid (sameT (mapT (·.2) z1) (mapT (·.2) z2) = false) := sameT_no fun e => hlen (by have := congrArg List.length e; rwa [mapT_length, mapT_length] at this)
    rw [E.out]
    have hd : ((z1.length : Int) != (z2.length : Int)) = true := by rw [bne_iff_ne]; omega
    clear hlen E
    go_enter Tryz.func37, Tryz.ntmps37
    go_wp2_with (first
      | (at_len; refine wpList_len_own _ rfl _ 73 rfl 9 45 Tryz.underlying73 raw B1 z1.length _ rfl H1.out.own ?_; rw [size_datum, mapT_length])
      | (at_len; refine wpList_len_own _ rfl _ 73 rfl 9 45 Tryz.underlying73 raw B2 z2.length _ rfl H2.out.own ?_; rw [size_datum, mapT_length]))
    go_ret
    exact ⟨rfl, Later.refl w⟩

set_option maxRecDepth 100000 in
set_option maxHeartbeats 400000 in
theorem sameTree_any (p1 B1 p2 B2 : Nat) (t1 t2 : Tr) (w : World) (h1 : TreeAt w p1 B1 t1) (h2 : TreeAt w p2 B2 t2) (hb1 : ∀ f ∈ t1, f.2.length ≤ 65536) (hb2 : ∀ f ∈ t2, f.2.length ≤ 65536) :
    Calls Tryz.prog 14 #[.pointer (some ⟨p1, 0, none⟩), .pointer (some ⟨p2, 0, none⟩)] w (Says (sameT t1 t2) w) := by
  obtain ⟨hc1, z1, hz1, rfl⟩ := h1
  obtain ⟨hc2, z2, hz2, rfl⟩ := h2
  have B1' : ∀ f ∈ z1, f.2.2.length ≤ 65536 := fun f hf => hb1 (f.1, f.2.2) (by simp only [mapT, List.mem_map]; exact ⟨_, hf, rfl⟩)
  have B2' : ∀ f ∈ z2, f.2.2.length ≤ 65536 := fun f hf => hb2 (f.1, f.2.2) (by simp only [mapT, List.mem_map]; exact ⟨_, hf, rfl⟩)
  have HE := Lib.hid (fun (w1 : World) (h : Later w w1) => equalFunc_any B1 B2 z1 z2 w1 (hz1.later h) (hz2.later h) B1' B2')
  clear hz1 hz2 hb1 hb2 B1' B2'
  go_enter Tryz.func14, Tryz.ntmps14
  go_wp2_with fail
  go_region_held3 (fun w' => w'.cell? ⟨p1, 0, none⟩ = some (.map (some B1)) ∧ w'.cell? ⟨p2, 0, none⟩ = some (.map (some B2))) (go_keep)
    (first
      | (go_at_call 37; refine (HE.out _ (by first | exact Later.refl _ | exact (Later.refl _).drew | exact (Later.refl _).drewN _)).mono ?_; rintro e w1 ⟨rfl, hl1⟩; have HL : Hid (Later w w1) := Later.trans (by first | exact Later.refl _ | exact (Later.refl _).drew | exact (Later.refl _).drewN _) hl1; have hd1 := HL.out.cell hc1; have hd2 := HL.out.cell hc2; clear hl1))
  go_wp2
  go_ret
  exact ⟨rfl, HL.out⟩

end Go.Proofs.YtbhnbkcokhfopaaGreat

/-
  What stands while a tree turns: blocks, prims, other trees; how great trees become.
-/
namespace Go.Proofs.YtbhnbkcokhfopaaGreat
open Go.RowKit Go.Maps

theorem PrOk.turnS {w w' : World} {x : PrC} {B : Nat} (h : PrOk w x) (hg : Turned B w w') {es : Array MapEntry} {c : Nat} (hm : w.heap[B]? = some (.map es c)) : PrOk w' x :=
  ⟨h.old.turned hg hm, h.new.turned hg hm, h.oroom, h.nroom, h.omost, h.nmost, h.name, h.to, h.lo, h.hi, h.olds, h.news⟩
theorem BoxAt.turnS {w w' : World} {g B : Nat} {cs : Array Value} {t : TypeId} (h : BoxAt w g cs t) (hg : Turned B w w') {es : Array MapEntry} {c : Nat} (hm : w.heap[B]? = some (.map es c)) : BoxAt w' g cs t :=
  h.other hg (by rintro rfl; unfold BoxAt at h; rw [h] at hm; cases hm)
theorem Fits.sizedS {k : Nat} {t : Tr} (h : Fits k t) : Sized k 8000 t := ⟨h.many, fun f hf => ⟨(h.each f hf).1, (h.each f hf).2.1, by have := (h.each f hf).2.2; unfold heavy at this; omega⟩⟩
theorem Sized.lines {k h : Nat} {t : Tr} (hs : Sized k h t) (hh : h ≤ 65536) : ∀ f ∈ t, f.2.length ≤ 65536 := fun f hf => Nat.le_trans (hs.each f hf).2.2 hh

end Go.Proofs.YtbhnbkcokhfopaaGreat

/-
  A row of two prims, written out.
-/
namespace Go.Proofs.YtbhnbkcokhfopaaGreat
open Go.RowKit Go.Maps

theorem prims_two {w w0 : World} {x y : PrC} (hx : CameP w x) (hy : CameP w y) (hl : Later w w0) (t : TypeId) : Prims (w0.alloc (.cells #[.int .i64 x.v.kind, .string x.v.name, .string x.v.to, .int .i64 x.v.place, .slice x.A x.n x.c, .slice x.B x.m x.d, .int .i64 y.v.kind, .string y.v.name, .string y.v.to, .int .i64 y.v.place, .slice y.A y.n y.c, .slice y.B y.m y.d] t)) (some ⟨w0.heap.size, 0, none⟩) 2 [x, y] := by
  refine ⟨⟨rfl, fun cs hcs => ?_, fun _ => ⟨_, _, rfl, fun j i cs v hj hi => ?_⟩⟩, fun z hz => ?_⟩
  · simp at hcs
    rcases hcs with rfl | rfl <;> rfl
  · have hb : (w0.alloc (.cells #[.int .i64 x.v.kind, .string x.v.name, .string x.v.to, .int .i64 x.v.place, .slice x.A x.n x.c, .slice x.B x.m x.d, .int .i64 y.v.kind, .string y.v.name, .string y.v.to, .int .i64 y.v.place, .slice y.A y.n y.c, .slice y.B y.m y.d] t)).heap[w0.heap.size]? = some (.cells #[.int .i64 x.v.kind, .string x.v.name, .string x.v.to, .int .i64 x.v.place, .slice x.A x.n x.c, .slice x.B x.m x.d, .int .i64 y.v.kind, .string y.v.name, .string y.v.to, .int .i64 y.v.place, .slice y.A y.n y.c, .slice y.B y.m y.d] t (0, 0)) := heap_alloc_new w0 _
    have key : ∀ (k : Nat) v, (prL x ++ prL y)[k]? = some v → (w0.alloc (.cells #[.int .i64 x.v.kind, .string x.v.name, .string x.v.to, .int .i64 x.v.place, .slice x.A x.n x.c, .slice x.B x.m x.d, .int .i64 y.v.kind, .string y.v.name, .string y.v.to, .int .i64 y.v.place, .slice y.A y.n y.c, .slice y.B y.m y.d] t)).cell? ⟨w0.heap.size, k, none⟩ = some v := fun k v hk => by
      simp only [World.cell?, hb]
      show (prL x ++ prL y).toArray[k]? = some v
      rw [List.getElem?_toArray]
      exact hk
    match j, hj with
    | 0, hj =>
      simp at hj; subst hj
      have hil : i < (prL x).length := (List.getElem?_eq_some_iff.1 hi).1
      rw [Nat.zero_mul, Nat.zero_add]
      exact key i v (by rw [List.getElem?_append_left hil]; exact hi)
    | 1, hj =>
      simp at hj; subst hj
      rw [Nat.one_mul, Nat.zero_add]
      exact key (6 + i) v (by rw [List.getElem?_append_right (by show 6 ≤ 6 + i; omega), show 6 + i - (prL x).length = i from by show 6 + i - 6 = i; omega]; exact hi)
  · simp at hz
    rcases hz with rfl | rfl
    · exact hx.later (hl.alloc _)
    · exact hy.later (hl.alloc _)
theorem weightPs_two (x y : PrC) : weightPs [x, y] = weightP x.v + weightP y.v := by simp [weightPs]

end Go.Proofs.YtbhnbkcokhfopaaGreat
