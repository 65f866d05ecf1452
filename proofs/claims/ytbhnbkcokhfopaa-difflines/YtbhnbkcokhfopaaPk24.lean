import Derived.Test.YtbhnbkcokhfopaaPk21
import Derived.Test.YtbhnbkcokhfopaaPk15
import Derived.Test.YtbhnbkcokhfopaaPk3
import Derived.Test.YtbhnbkcokhfopaaPk4
import Derived.Test.YtbhnbkcokhfopaaPk9
import Derived.Lib.Hide
import Derived.Test.YtbhnbkcokhfopaaChecked
import Derived.Test.YtbhnbkcokhfopaaPk1
import Derived.Deep.LoopGhost
import Derived.Deep.QuietTactic
import Derived.BigQuiet
import Derived.Test.YtbhnbkcokhfopaaPk11
import Derived.Test.YtbhnbkcokhfopaaPk10
import Derived.Deep.RegionHeld3
import Derived.Test.YtbhnbkcokhfopaaPk22
import Derived.Test.YtbhnbkcokhfopaaPk23

/-
  More operations of a region that draws its order: make, len, an index, a store into a row.
-/
namespace Go.Proofs.Ytbhnbkcokhfopaa
open Go.RowKit Go.Maps

theorem made_zero (n : Nat) : (madeCells (Value.agg #[.int .i64 0, .string ByteArray.empty, .string ByteArray.empty, .int .i64 0, .slice none 0 0, .slice none 0 0]).cells (n * 6)).toList = ((List.replicate n zeroC).map prL).flatten := by
  have hk : ∀ cs ∈ (List.replicate n zeroC).map prL, cs.length = 6 := by
    intro cs hcs
    obtain ⟨y, _, rfl⟩ := List.mem_map.1 hcs
    rfl
  refine List.ext_getElem? fun j => ?_
  rcases Nat.lt_or_ge j (n * 6) with hj | hj
  · have hq : j / 6 < n := by omega
    have hat := flat_at (j := j / 6) (i := j % 6) hk (cs := prL zeroC) (by simp [hq]) (Nat.mod_lt _ (by decide))
    rw [show j / 6 * 6 + j % 6 = j by omega] at hat
    rw [hat]
    have h6 : j % 6 = 0 ∨ j % 6 = 1 ∨ j % 6 = 2 ∨ j % 6 = 3 ∨ j % 6 = 4 ∨ j % 6 = 5 := by omega
    simp only [madeCells, Value.cells]
    rcases h6 with h | h | h | h | h | h <;> simp [hj, h, prL, zeroC, zeroPr]
  · rw [List.getElem?_eq_none (by simp [madeCells]; exact hj), List.getElem?_eq_none (by rw [flat_length hk]; simpa using hj)]
theorem zero_away (g : Nat) : Away g zeroC := ⟨fun h => absurd rfl h, fun h => absurd rfl h⟩
section
variable {ops : Array Oper} {Q : Exit → Act → World → Prop} {K : Act → World → Prop} {i : Nat} {dst : Option Tmp} {js : List Nat} {a : Act} {w w0 : World}
theorem OpIs.lenS {k : Tmp} {A : Option Addr} {n c : Nat} (h : OpIs ops i (.call { callee := .builtin .len, args := #[.tmp k], argTypes := #[33] }) dst js) (he : a.eval (.tmp k) = .slice A n c) (hk : K (a.put dst (.int .i64 n)) w) : wpOp Try.prog ops Q i K a w :=
  h.go fun o h1 h2 => by
    have hr : (execOp a.eval o).run Try.prog w = .ok (.value (.int .i64 n)) w := by
      unfold execOp
      rw [h1]
      simp only [resolve, invoke, builtin, Sem.run_bind, List.map_toArray, List.map_cons, List.map_nil, he]
      go_simp
    unfold Oper.wp
    rw [hr]
    show K _ _
    rw [h2]
    exact hk
/-- A row of n zero prims. -/
theorem OpIs.makeS {j k : Tmp} {n : Nat} (h : OpIs ops i (.makeSlice 33 (.tmp j) (.tmp k)) dst js) (hj : a.eval (.tmp j) = .int .i64 n) (hk' : a.eval (.tmp k) = .int .i64 n) (hn : n ≤ 1000000) (hl : Later w0 w)
    (hk : ∀ w', OwnPs 51 w0 w' (.slice (some ⟨w.heap.size, 0, none⟩) n n) (List.replicate n zeroC) → Later w w' → K (a.put dst (.slice (some ⟨w.heap.size, 0, none⟩) n n)) w') : wpOp Try.prog ops Q i K a w :=
  h.go fun o h1 h2 => by
    obtain ⟨i0, hi, hz0, hz1, hz2⟩ := info_parts Try.primInfo
    obtain ⟨w', hrun, r1, r2⟩ := run_make_full (P := Try.prog) w w0.heap.size 33 51 i0 _ 6 Try.underlying33 hi hz0 hz1 .i64 .i64 n (by rw [hz2]; omega) (by simp only [maxLen]; omega) hl.le
    have hlw : Later w w' := ⟨r2.os, r2.tape, r2.output, r2.size, fun i hi => r2.block i hi (by simp)⟩
    unfold Oper.wp execOp
    simp only [h1, hj, hk', hrun, Sem.run_bind, Sem.run_pure, Result.andThen_ok]
    show K _ _
    rw [h2]
    rw [made_zero] at r1
    refine hk w' ⟨⟨by simpa using r1, fun cs hcs => ?_, hl.trans hlw⟩, fun x hx => ?_, fun x hx g _ => ?_⟩ hlw
    · obtain ⟨y, _, rfl⟩ := List.mem_map.1 hcs
      rfl
    · rw [List.eq_of_mem_replicate hx]; exact zeroC_ok _
    · rw [List.eq_of_mem_replicate hx]; exact zero_away g
theorem OpIs.index {j k : Tmp} {g o n c m : Nat} (h : OpIs ops i (.indexAddr 33 (.tmp j) (.tmp k)) dst js) (hj : a.eval (.tmp j) = .slice (some ⟨g, o, none⟩) n c) (hk' : a.eval (.tmp k) = .int .i64 (m : Nat)) (hm : m < n) (hk : K (a.put dst (.pointer (some ⟨g, o + m * 6, none⟩))) w) : wpOp Try.prog ops Q i K a w :=
  h.go fun op h1 h2 => by
    have hr : (execOp a.eval op).run Try.prog w = .ok (.value (.pointer (some ⟨g, o + m * 6, none⟩))) w := by
      unfold execOp
      rw [h1]
      dsimp only
      rw [hj, hk']
      go_simp
    unfold Oper.wp
    rw [hr]
    show K _ _
    rw [h2]
    exact hk
theorem OpIs.storeP {j k : Tmp} {T e : TypeId} {g o n c m : Nat} {xs : List PrC} {x : PrC} (h : OpIs ops i (.store T (.tmp j) (.tmp k)) none js) (hi : (Try.prog.info? T).map (·.size) = some 6) (hj : a.eval (.tmp j) = .pointer (some ⟨g, o + m * 6, none⟩)) (hv : a.eval (.tmp k) = prV x)
    (hown : OwnPs e w0 w (.slice (some ⟨g, o, none⟩) n c) xs) (hin : m < n) (hx : PrOk w x) (ha : Away g x) (hk : ∀ w', OwnPs e w0 w' (.slice (some ⟨g, o, none⟩) n c) (xs.set m x) → Turned g w w' → K a w') : wpOp Try.prog ops Q i K a w :=
  h.go fun op h1 h2 => by
    obtain ⟨b', o', q, hA, hz, hok, g0, g1, g2, g3, g4, g5⟩ := hown.ps.get hin
    cases hA
    have hth : w.there g (o + m * 6) 6 := by
      intro r hr
      refine ⟨?_, hown.frozen _⟩
      match r, hr with
      | 0, _ => rw [Nat.add_zero, g0]; rfl
      | 1, _ => rw [g1]; rfl
      | 2, _ => rw [g2]; rfl
      | 3, _ => rw [g3]; rfl
      | 4, _ => rw [g4]; rfl
      | 5, _ => rw [g5]; rfl
    refine wp_store_mid T (.tmp j) (.tmp k) h1 g (o + m * 6) (prL x).toArray hj (hv.trans (prV_is x)) hth hi (prL_one x) ?_
    rw [h2, put_none]
    exact hk _ (hown.set hin x hx ha) (turned_sets w g o m _ _ _ _ _ _)
end

end Go.Proofs.Ytbhnbkcokhfopaa

/-
  What prim's deeds comes to, as a call: a new map from kinds to functions.
-/
namespace Go.Proofs.Ytbhnbkcokhfopaa
open Go.RowKit Go.Maps

/-- How a function reads: as itself. -/
def rawF (v : Value) : Option (DataW Value × List MemPlace) := some (.held v, [])

def deedV (f : FuncId) : Value := .func (.func f) #[] #[]
def deedsD : DataW Value := ((((DataW.map []).put (.int .i64 0) (.held (deedV 81))).put (.int .i64 1) (.held (deedV 82))).put (.int .i64 2) (.held (deedV 83))).put (.int .i64 3) (.held (deedV 84))

/-- Block B is the map of deeds. -/
def Deeds (w : World) (B : Nat) : Prop := w.ownsMap Try.prog 3 rawF B 4 deedsD

theorem keyed3 : Keyed Try.prog 3 := int_keyed Try.underlying3
theorem key3 {a : Int} (h : (Lit.int .i64 a).wf = true) : keyOf Try.prog 3 (.int .i64 a) = some (.int .i64 a) := keyOf_int_mk Try.underlying3 h

set_option maxHeartbeats 400000 in
theorem deeds_any (w : World) : Calls Try.prog 59 #[] w fun e w' => ∃ B, e = .returned (.map (some B)) ∧ Deeds w' B ∧ Later w w' := by
  have hmm := @run_makeMap Try.prog
  have o1 := World.ownsMap_made (H := Value) w Try.prog 3 rawF
  obtain ⟨w2, r2, o2, t2⟩ := o1.store keyed3 Try.underlying99 (by decide) (key3 (a := 0) (by decide)) (show rawF (deedV 81) = _ from rfl)
  obtain ⟨w3, r3, o3, t3⟩ := o2.store keyed3 Try.underlying99 (by decide) (key3 (a := 1) (by decide)) (show rawF (deedV 82) = _ from rfl)
  obtain ⟨w4, r4, o4, t4⟩ := o3.store keyed3 Try.underlying99 (by decide) (key3 (a := 2) (by decide)) (show rawF (deedV 83) = _ from rfl)
  obtain ⟨w5, r5, o5, t5⟩ := o4.store keyed3 Try.underlying99 (by decide) (key3 (a := 3) (by decide)) (show rawF (deedV 84) = _ from rfl)
  have hl : Later w w5 := ((((Later.refl w).alloc _).turn (Turned.of_map t2) (Nat.le_refl _)).turn (Turned.of_map t3) (Nat.le_refl _)).turn (Turned.of_map t4) (Nat.le_refl _) |>.turn (Turned.of_map t5) (Nat.le_refl _)
  have O5 := Lib.hid o5; have HL := Lib.hid hl
  unfold deedV at r2 r3 r4 r5
  clear o1 o2 o3 o4 o5 t2 t3 t4 t5 hl
  go_enter Try.func59, Try.ntmps59
  go_wp2
  go_ret
  exact ⟨_, rfl, O5.out, HL.out⟩

/-- What is found there. -/
def deedAt (k : Int) : FuncId := if k = 0 then 81 else if k = 1 then 82 else if k = 2 then 83 else 84
theorem Deeds.look {w : World} {B : Nat} (h : Deeds w B) {k : Int} (hk : k = 0 ∨ k = 1 ∨ k = 2 ∨ k = 3) :
    (Instr.lookup 99 (.map (some B)) (.int .i64 k) false).run Try.prog w = .ok (.func (.func (deedAt k)) #[] #[]) w := by
  have hz : (zeroValue 98).run Try.prog w = .ok .nilFunc w := by kernel_rfl
  have hw : (Lit.int .i64 k).wf = true := by rcases hk with rfl | rfl | rfl | rfl <;> decide
  obtain ⟨v, ps, hrun, hv⟩ := World.ownsMap.lookup h keyed3 Try.underlying99 hz (show rawF .nilFunc = _ from rfl) (key3 hw)
  have e : deedsD.atKey (.int .i64 k) (.held .nilFunc) = .held (deedV (deedAt k)) := by rcases hk with rfl | rfl | rfl | rfl <;> rfl
  rw [e] at hv
  simp only [rawF, Option.some.injEq, Prod.mk.injEq, DataW.held.injEq] at hv
  rw [hrun, hv.1]
  rfl
theorem Deeds.later {w w' : World} {B : Nat} (h : Deeds w B) (hl : Later w w') : Deeds w' B := h.kept (row := none) ⟨hl.os, hl.tape, hl.output, hl.size, fun i hi _ => hl.block i hi⟩ (by simp)

end Go.Proofs.Ytbhnbkcokhfopaa

/-
  What line.piece comes to, as a call.
-/
namespace Go.Proofs.Ytbhnbkcokhfopaa
open Go.RowKit

set_option maxHeartbeats 400000 in
theorem piece_any (A : Option Addr) (n c : Nat) (ss : List ByteArray) (w : World) (h : Row w A n ss) (hc : n ≤ c) (f t : Int) (h0 : 0 ≤ f) (h1 : f ≤ t) (h2 : t ≤ n) :
    Calls Try.prog 101 #[.slice A n c, .int .i64 f, .int .i64 t] w (IsRow ((ss.drop f.toNat).take (t.toNat - f.toNat)) w) := by
  have hr := h.piece (f := f.toNat) (t := t.toNat) (m := t.toNat) (by omega) (by omega) (Nat.le_refl _)
  generalize (ss.drop f.toNat).take (t.toNat - f.toNat) = out at hr ⊢
  clear h
  have h3 : t ≤ c := by omega
  by_cases hft : t = f
  · subst hft
    have hl : out = [] := List.eq_nil_of_length_eq_zero (by rw [hr.len]; omega)
    subst hl
    clear hr
    go_enter Try.func101, Try.ntmps101
    go_wp2
    go_ret
    exact ⟨A, rfl, Row.none, rfl⟩
  · rw [if_neg (by omega)] at hr
    have HR := Lib.hid hr; clear hr
    have h4 : ¬ t.toNat = f.toNat := by omega
    go_enter Try.func101, Try.ntmps101
    go_wp2
    go_ret
    have hr := HR.out
    rw [Nat.mul_one] at hr
    exact ⟨_, by rw [hr.len]; rfl, by rw [hr.len]; exact hr, rfl⟩

end Go.Proofs.Ytbhnbkcokhfopaa

/-
  What line.stands comes to, as a call.
-/
namespace Go.Proofs.Ytbhnbkcokhfopaa
open Go.RowKit

set_option maxHeartbeats 400000 in
theorem stands_any (A B : Option Addr) (n c m d : Nat) (l part : List ByteArray) (k : Int) (w : World) (hx : Row w A n l) (hy : Row w B m part) (hc : n ≤ c) (hn : n ≤ 65536) (hm : m ≤ 65536)
    (hk0 : -9223372036854775808 ≤ k) (hk1 : k ≤ 9223372036854775807) :
    Calls Try.prog 100 #[.slice A n c, .int .i64 k, .slice B m d] w fun e w' => e = .returned (.bool (standsB l k part)) ∧ ∃ q, w' = w.drewN q := by
  by_cases h0 : k < 0
  · have e : standsB l k part = false := by unfold standsB; rw [decide_eq_false (by omega)]; rfl
    have E := Lib.hid e; clear e hx hy
    go_enter Try.func100, Try.ntmps100
    go_wp2
    go_ret
    exact ⟨by rw [E.out]; rfl, 0, rfl⟩
  · by_cases h1 : (n : Int) - k < m
    · have e : standsB l k part = false := by unfold standsB; rw [decide_eq_false (by rw [hx.len, hy.len]; omega)]; rfl
      have E := Lib.hid e; clear e hx hy
      go_enter Try.func100, Try.ntmps100
      go_wp2
      go_ret
      exact ⟨by rw [E.out]; rfl, 0, rfl⟩
    · have e : standsB l k part = sameB ((l.drop k.toNat).take part.length) part := by unfold standsB; rw [decide_eq_true (by rw [hx.len, hy.len]; omega)]; rfl
      have el : (k + m).toNat - k.toNat = part.length := by rw [hy.len]; omega
      rw [← el] at e
      have E := Lib.hid e; clear e el
      have HX := Lib.hid hx; clear hx
      have HY := Lib.hid hy; clear hy
      go_enter Try.func100, Try.ntmps100
      go_wp2_with fail
      refine (piece_any A n c l w HX.out hc k (k + m) (by omega) (by omega) (by omega)).mono ?_
      rintro e w' ⟨A', rfl, hr, rfl⟩
      generalize hout : (l.drop k.toNat).take ((k + m).toNat - k.toNat) = out at hr E
      have HO := Lib.hid hout; clear hout
      have HR := Lib.hid hr; clear hr
      go_wp2_with fail
      refine (same_any A' B _ _ m d out part _ HR.out HY.out ?_ ?_).mono ?_
      · rw [← HO.out, List.length_take, List.length_drop, HX.out.len]; omega
      · omega
      rintro e w' ⟨rfl, q, rfl⟩
      go_wp2
      go_ret
      exact ⟨by rw [E.out]; rfl, q, rfl⟩

end Go.Proofs.Ytbhnbkcokhfopaa

/-
  What line.Splice comes to, as a call.
-/
namespace Go.Proofs.Ytbhnbkcokhfopaa
open Go.RowKit

set_option maxHeartbeats 400000 in
theorem splice_no (A B C : Option Addr) (n c m d p q : Nat) (l old : List ByteArray) (k : Int) (w : World) (hx : Row w A n l) (hy : Row w B m old) (hc : n ≤ c) (hn : n ≤ 65536) (hm : m ≤ 65536)
    (hk0 : -9223372036854775808 ≤ k) (hk1 : k ≤ 9223372036854775807) (hs : standsB l k old = false) :
    Calls Try.prog 94 #[.slice A n c, .int .i64 k, .slice B m d, .slice C p q] w fun e w' => e = .returned (.tuple #[.slice none 0 0, .bool false]) ∧ ∃ q, w' = w.drewN q := by
  have H := stands_any A B n c m d l old k w hx hy hc hn hm hk0 hk1
  rw [hs] at H
  have HS := Lib.hid H; clear H hx hy hs
  go_enter Try.func94, Try.ntmps94
  go_wp2_with (go_at_call 100; refine HS.out.mono ?_; rintro e w' ⟨rfl, q, rfl⟩)
  go_ret2
  exact ⟨rfl, _, rfl⟩

set_option maxHeartbeats 400000 in
theorem splice_yes (A B C : Option Addr) (n c m d p q : Nat) (l old with_ : List ByteArray) (k : Nat) (w : World) (hx : Row w A n l) (hy : Row w B m old) (hz : Row w C p with_) (hc : n ≤ c) (hn : n ≤ 65536) (hm : m ≤ 65536) (hp : p ≤ 65536)
    (hs : standsB l k old = true) :
    Calls Try.prog 94 #[.slice A n c, .int .i64 k, .slice B m d, .slice C p q] w (GivesRow2 (spliced l k m with_) w) := by
  have hkm := standsB_le hs
  rw [hx.len, hy.len] at hkm
  have H := stands_any A B n c m d l old k w hx hy hc hn hm (by omega) (by omega)
  rw [hs] at H
  have HS := Lib.hid H; clear H hs
  have HX := Lib.hid hx; clear hx
  have HZ := Lib.hid hz; clear hz
  obtain ⟨i0, hi, hz0, hz1, hz2⟩ := info_parts Try.textInfo
  go_enter Try.func94, Try.ntmps94
  go_wp2_with (first
    | (go_at_call 100; refine HS.out.mono ?_; rintro e w' ⟨rfl, q1, rfl⟩)
    | (at_make; refine wpList_make_row (w0 := w) rfl _ _ 22 rfl i0 Try.underlying22 hi hz0 hz1 hz2 ((Later.refl w).drewN q1) .i64 .i64 _ rfl rfl (by omega) (by omega) ?_; intro w1 v1 hown1))
  refine (piece_any A n c l w1 (HX.out.later hown1.later) hc 0 k (by omega) (by omega) (by omega)).mono ?_
  rintro e w' ⟨A1, rfl, hr1, rfl⟩
  have e1 : (l.drop (0 : Int).toNat).take ((k : Int).toNat - (0 : Int).toNat) = l.take k := by simp
  rw [e1] at hr1 ⊢
  clear e1
  have l1 : (l.take k).length ≤ 65536 := by rw [List.length_take, HX.out.len]; omega
  generalize ht1 : l.take k = s1 at hr1 l1 ⊢
  have T1 := Lib.hid ht1; clear ht1
  have HR1 := Lib.hid hr1; clear hr1
  have HO1 := Lib.hid hown1; clear hown1
  go_wp2_with (first
    | (at_builtin; refine wpList_append_row rfl _ _ 22 rfl i0 Try.underlying22 hi hz0 hz1 hz2 HO1.out rfl _ _ _ _ rfl HR1.out (by simp; omega) ?_; intro v2 w2 hown2 hg2; have HO2 := Lib.hid hown2; clear hown2 hg2)
    | (at_builtin; refine wpList_append_row rfl _ _ 22 rfl i0 Try.underlying22 hi hz0 hz1 hz2 HO2.out rfl _ _ _ _ rfl (HZ.out.later HO2.out.later) (by simp; omega) ?_; intro v3 w3 hown3 hg3; have HO3 := Lib.hid hown3; clear hown3 hg3))
  refine (piece_any A n c l w3 (HX.out.later HO3.out.later) hc (k + m) n (by omega) (by omega) (by omega)).mono ?_
  rintro e w' ⟨A4, rfl, hr4, rfl⟩
  have e4 : (l.drop ((k : Int) + m).toNat).take ((n : Int).toNat - ((k : Int) + m).toNat) = l.drop (k + m) := by
    rw [show ((k : Int) + m).toNat = k + m from by omega, Int.toNat_natCast]
    exact List.take_of_length_le (by rw [List.length_drop, HX.out.len]; omega)
  rw [e4] at hr4 ⊢
  clear e4
  have l4 : (l.drop (k + m)).length ≤ 65536 := by rw [List.length_drop, HX.out.len]; omega
  generalize ht4 : l.drop (k + m) = s4 at hr4 l4 ⊢
  have T4 := Lib.hid ht4; clear ht4
  have HR4 := Lib.hid hr4; clear hr4
  have hzl : with_.length = p := HZ.out.len
  have ZL : with_.length ≤ 65536 := by omega
  clear hzl
  go_wp2_with (at_builtin; refine wpList_append_row rfl _ _ 22 rfl i0 Try.underlying22 hi hz0 hz1 hz2 HO3.out rfl _ _ _ _ rfl HR4.out (by simp; omega) ?_; intro v5 w5 hown5 hg5; have HO5 := Lib.hid hown5; clear hown5 hg5)
  go_ret2
  have ef : spliced l k m with_ = ([] ++ s1 ++ with_) ++ s4 := by rw [spliced, T1.out, T4.out, List.nil_append]
  rw [ef]
  obtain ⟨A6, c6, hv, hcc, hr6⟩ := HO5.out.row
  exact ⟨A6, c6, by rw [← hv]; rfl, hcc, hr6, HO5.out.later⟩

end Go.Proofs.Ytbhnbkcokhfopaa

/-
  What prim's deeds do to a tree, as calls.
-/
namespace Go.Proofs.Ytbhnbkcokhfopaa
open Go.RowKit Go.Maps

/-- Whether it fits; the tree behind it; nothing else has turned. -/
def Deed (r : Tr × Int) (p B : Nat) (w : World) (e : Ending) (w' : World) : Prop := e = .returned (.bool (r.2 == 0)) ∧ TreeAt w' p B r.1 ∧ Turned B w w'

set_option maxRecDepth 100000 in
set_option maxHeartbeats 400000 in
theorem deedAdd_any (x : PrC) (p B : Nat) (t : Tr) (w : World) (ht : TreeAt w p B t) (hx : PrOk w x) (hl : t.length ≤ 65536) :
    Calls Try.prog 82 #[prV x, .pointer (some ⟨p, 0, none⟩)] w (Deed (addT t x.v.name) p B w) := by
  obtain ⟨⟨kd, nm, to, pl, old, new⟩, A, n, c, C, m, d⟩ := x
  have hlb : Later w (w.alloc (.cells #[.int .i64 kd, .string nm, .string to, .int .i64 pl, .slice A n c, .slice C m d] 51)) := (Later.refl w).alloc _
  have HC := Lib.hid (add_any p B nm t _ (ht.later hlb) hx.name hl)
  have HLB := Lib.hid hlb
  unfold prV
  dsimp only at HC ⊢
  clear hlb ht hx
  go_enter Try.func82, Try.ntmps82
  go_wp2_with fail
  refine HC.out.mono ?_
  rintro e w1 ⟨rfl, h1, h2⟩
  have H1 := Lib.hid h1; have H2 := Lib.hid h2; clear h1 h2
  go_wp2
  go_ret
  exact ⟨rfl, H1.out, (HLB.out.turned B).trans H2.out⟩

set_option maxRecDepth 100000 in
set_option maxHeartbeats 400000 in
theorem deedRemove_any (x : PrC) (p B : Nat) (t : Tr) (w : World) (ht : TreeAt w p B t) (hx : PrOk w x) (hb : ∀ f ∈ t, f.2.length ≤ 65536) :
    Calls Try.prog 83 #[prV x, .pointer (some ⟨p, 0, none⟩)] w (Deed (removeT t x.v.name) p B w) := by
  obtain ⟨⟨kd, nm, to, pl, old, new⟩, A, n, c, C, m, d⟩ := x
  have hlb : Later w (w.alloc (.cells #[.int .i64 kd, .string nm, .string to, .int .i64 pl, .slice A n c, .slice C m d] 51)) := (Later.refl w).alloc _
  have HC := Lib.hid (remove_any p B nm t _ (ht.later hlb) hx.name hb)
  have HLB := Lib.hid hlb
  unfold prV
  dsimp only at HC ⊢
  clear hlb ht hx
  go_enter Try.func83, Try.ntmps83
  go_wp2_with fail
  refine HC.out.mono ?_
  rintro e w1 ⟨rfl, h1, h2⟩
  have H1 := Lib.hid h1; have H2 := Lib.hid h2; clear h1 h2
  go_wp2
  go_ret
  exact ⟨rfl, H1.out, (HLB.out.turned B).trans H2.out⟩

set_option maxRecDepth 100000 in
set_option maxHeartbeats 400000 in
theorem deedMove_any (x : PrC) (p B : Nat) (t : Tr) (w : World) (ht : TreeAt w p B t) (hx : PrOk w x) (hl : t.length ≤ 65536) :
    Calls Try.prog 84 #[prV x, .pointer (some ⟨p, 0, none⟩)] w (Deed (moveT t x.v.name x.v.to) p B w) := by
  obtain ⟨⟨kd, nm, to, pl, old, new⟩, A, n, c, C, m, d⟩ := x
  have hlb : Later w (w.alloc (.cells #[.int .i64 kd, .string nm, .string to, .int .i64 pl, .slice A n c, .slice C m d] 51)) := (Later.refl w).alloc _
  have HC := Lib.hid (move_any p B nm to t _ (ht.later hlb) hx.name hx.to hl)
  have HLB := Lib.hid hlb
  unfold prV
  dsimp only at HC ⊢
  clear hlb ht hx
  go_enter Try.func84, Try.ntmps84
  go_wp2_with fail
  refine HC.out.mono ?_
  rintro e w1 ⟨rfl, h1, h2⟩
  have H1 := Lib.hid h1; have H2 := Lib.hid h2; clear h1 h2
  go_wp2
  go_ret
  exact ⟨rfl, H1.out, (HLB.out.turned B).trans H2.out⟩

set_option maxRecDepth 100000 in
set_option maxHeartbeats 800000 in
theorem deedSplice_any (x : PrC) (p B k h : Nat) (t : Tr) (w : World) (ht : TreeAt w p B t) (hx : PrOk w x) (hr : rightP x.v = true) (hs : Sized k h t) (hk : k ≤ 60000) (hh : h + x.m ≤ 65536) :
    Calls Try.prog 81 #[prV x, .pointer (some ⟨p, 0, none⟩)] w (Deed (hunkT t x.v) p B w) := by
  have hput := fun l hg i q => put_spliced (p := x.v) (l := l) hs hr hg i q
  have hall := (right_parts hr).2.2.2.1
  obtain ⟨⟨kd, nm, to, pl, old, new⟩, A, n, c, C, m, d⟩ := x
  have hlb : Later w (w.alloc (.cells #[.int .i64 kd, .string nm, .string to, .int .i64 pl, .slice A n c, .slice C m d] 51)) := (Later.refl w).alloc _
  have hbl : ∀ f ∈ t, f.2.length ≤ 65536 := fun f hf => by have := (hs.each f hf).2.2; omega
  have HG := Lib.hid (get_any p B nm t _ (ht.later hlb) hx.name hbl)
  have HT := Lib.hid ht; have HX := Lib.hid hx
  have c1 : (w.alloc (.cells #[.int .i64 kd, .string nm, .string to, .int .i64 pl, .slice A n c, .slice C m d] 51)).cell? ⟨w.heap.size, 1, none⟩ = some (.string nm) := by simp
  have c3 : (w.alloc (.cells #[.int .i64 kd, .string nm, .string to, .int .i64 pl, .slice A n c, .slice C m d] 51)).cell? ⟨w.heap.size, 3, none⟩ = some (.int .i64 pl) := by simp
  have c4 : (w.alloc (.cells #[.int .i64 kd, .string nm, .string to, .int .i64 pl, .slice A n c, .slice C m d] 51)).cell? ⟨w.heap.size, 4, none⟩ = some (.slice A n c) := by simp
  have c5 : (w.alloc (.cells #[.int .i64 kd, .string nm, .string to, .int .i64 pl, .slice A n c, .slice C m d] 51)).cell? ⟨w.heap.size, 5, none⟩ = some (.slice C m d) := by simp
  have CB := Lib.hid (And.intro c1 (And.intro c3 (And.intro c4 c5)))
  have hn1 := hx.omost; have hm1 := hx.nmost; have hlo := hx.lo; have hhi := hx.hi
  have hol := hx.old.len; have hnl := hx.new.len
  have HLB := Lib.hid hlb
  unfold prV
  dsimp only at hput hall hh hn1 hm1 hlo hhi hol hnl ⊢
  clear hlb ht hx hr c1 c3 c4 c5
  have HP := Lib.hid hput; have HA := Lib.hid hall; have HS := Lib.hid hs; have HBL := Lib.hid hbl
  clear hput hall hs hbl
  cases hg : getT t nm with
  | none =>
    have E : Hid (hunkT t ⟨kd, nm, to, pl, old, new⟩ = (t, 31)) := by simp [Hid, hunkT, hg]
    rw [E.out]
    rw [hg] at HG
    clear hg E
    go_enter Try.func81, Try.ntmps81
    go_wp2_with fail
    refine HG.out.mono ?_
    rintro e w1 ⟨v1, rfl, hown⟩
    simp only [Option.getD_none, Option.isSome_none] at hown ⊢
    have HL1 := Lib.hid (HLB.out.trans hown.later); clear hown
    go_wp2
    go_ret
    exact ⟨rfl, HT.out.later HL1.out, HL1.out.turned B⟩
  | some l =>
    rw [hg] at HG
    have hll : l.length ≤ 65536 := by have := (HS.out.get hg).2.2; omega
    have hlh : l.length + new.length ≤ 65536 := by have := (HS.out.get hg).2.2; omega
    have hla := (HS.out.get hg).2.1
    have HPG := Lib.hid (fun i q => HP.out l hg i q)
    cases hst : standsB l pl old
    · have E : Hid (hunkT t ⟨kd, nm, to, pl, old, new⟩ = (t, 31)) := by simp [Hid, hunkT, hg, hst]
      rw [E.out]
      clear hg E
      go_enter Try.func81, Try.ntmps81
      go_wp2_with fail
      refine HG.out.mono ?_
      rintro e w1 ⟨v1, rfl, hown⟩
      simp only [Option.getD_some, Option.isSome_some] at hown ⊢
      obtain ⟨A1, cc1, hv1, hcc1, hr1⟩ := hown.row
      subst hv1
      have hl1 := hown.later
      have b1 := hl1.cell CB.out.1; have b3 := hl1.cell CB.out.2.1; have b4 := hl1.cell CB.out.2.2.1; have b5 := hl1.cell CB.out.2.2.2
      have HSP := Lib.hid (splice_no A1 A C l.length cc1 n c m d l old pl w1 hr1 (HX.out.old.later (HLB.out.trans hl1)) hcc1 hll hn1 hlo hhi hst)
      have HL1 := Lib.hid (HLB.out.trans hl1)
      clear hown hr1 hl1 hst
      go_wp2_with fail
      refine HSP.out.mono ?_
      rintro e w2 ⟨rfl, q2, rfl⟩
      go_wp2
      go_ret
      exact ⟨rfl, HT.out.later (HL1.out.drewN q2), (HL1.out.drewN q2).turned B⟩
    · have hle := standsB_le hst
      obtain ⟨i, rfl⟩ := Int.eq_ofNat_of_zero_le hle.1
      have E : Hid (hunkT t ⟨kd, nm, to, i, old, new⟩ = (withT t nm (spliced l i n new), 0)) := by simp [Hid, hunkT, hg, hst, hol]
      rw [E.out]
      have hsl := spliced_le l new i n
      have hsa := allB_spliced hla HA.out i n
      have hsz : ∀ s ∈ spliced l i n new, s.size ≤ maxLen := fun s hs => by
        have := allB_mem.1 hsa s hs
        simp only [rightB, Bool.and_eq_true, decide_eq_true_eq] at this
        simp only [maxLen]; omega
      have HSA := Lib.hid hsz
      have HPT := Lib.hid (HPG.out i n)
      have HLE : Hid ((spliced l i n new).length ≤ 65536) := by simp only [Hid]; omega
      clear hg E hle hsa hsz hsl hla
      go_enter Try.func81, Try.ntmps81
      go_wp2_with fail
      refine HG.out.mono ?_
      rintro e w1 ⟨v1, rfl, hown⟩
      simp only [Option.getD_some, Option.isSome_some] at hown ⊢
      obtain ⟨A1, cc1, hv1, hcc1, hr1⟩ := hown.row
      subst hv1
      have hl1 := hown.later
      have b1 := hl1.cell CB.out.1; have b3 := hl1.cell CB.out.2.1; have b4 := hl1.cell CB.out.2.2.1; have b5 := hl1.cell CB.out.2.2.2
      have HSP := Lib.hid (splice_yes A1 A C l.length cc1 n c m d l old new i w1 hr1 (HX.out.old.later (HLB.out.trans hl1)) (HX.out.new.later (HLB.out.trans hl1)) hcc1 hll hn1 hm1 hst)
      have HL1 := Lib.hid hl1
      clear hown hr1 hl1 hst
      go_wp2_with fail
      refine HSP.out.mono ?_
      rintro e w2 ⟨A2, cc2, rfl, hcc2, hr2, hl2⟩
      have e1 := hl2.cell b1
      have HR2 := Lib.hid hr2
      have HL2 := Lib.hid (HLB.out.trans (HL1.out.trans hl2))
      clear hr2 hl2 b1 b3 b4 b5
      have hpa := put_any p B nm A2 (spliced l i n new).length cc2 (spliced l i n new) t w2 (HT.out.later HL2.out) HR2.out HX.out.name (by have := HS.out.many; omega) HLE.out HSA.out
      rw [HPT.out] at hpa
      have HPA := Lib.hid hpa; clear hpa
      generalize spliced l i n new = sp at *
      go_wp2_with fail
      refine HPA.out.mono ?_
      rintro e w3 ⟨rfl, h3, h4⟩
      have H3 := Lib.hid h3; have H4 := Lib.hid h4; clear h3 h4
      go_wp2
      go_ret
      exact ⟨rfl, H3.out, (HL2.out.turned B).trans H4.out⟩

end Go.Proofs.Ytbhnbkcokhfopaa

/-
  What prim's Apply comes to, as a call.
-/
namespace Go.Proofs.Ytbhnbkcokhfopaa
open Go.RowKit Go.Maps

theorem deed_enters {k : Int} (hk : k = 0 ∨ k = 1 ∨ k = 2 ∨ k = 3) : ∀ (args : Array Value) (w : World), (callFunc (deedAt k) args).run Try.prog w = .ok (.enter (deedAt k) args) w := by
  rcases hk with rfl | rfl | rfl | rfl
  · exact enters_of Try.func81 (by kernel_rfl) rfl
  · exact enters_of Try.func82 (by kernel_rfl) rfl
  · exact enters_of Try.func83 (by kernel_rfl) rfl
  · exact enters_of Try.func84 (by kernel_rfl) rfl

/-- Each kind by its own function. -/
theorem deed_any (x : PrC) (p B k h : Nat) (t : Tr) (w : World) (ht : TreeAt w p B t) (hx : PrOk w x) (hr : rightP x.v = true) (hs : Sized k h t) (hk : k ≤ 60000) (hh : h + x.m ≤ 65536) :
    ∃ r : Tr × Int, Calls Try.prog (deedAt x.v.kind) #[prV x, .pointer (some ⟨p, 0, none⟩)] w (Deed r p B w) ∧ applyP t x.v = (r.1, if (r.2 == 0) = true then 0 else 31) := by
  have hl : t.length ≤ 65536 := by have := hs.many; omega
  have hb : ∀ f ∈ t, f.2.length ≤ 65536 := fun f hf => by have := (hs.each f hf).2.2; omega
  rcases (right_parts hr).2.1 with e | e | e | e
  · refine ⟨hunkT t x.v, by rw [e]; exact deedSplice_any x p B k h t w ht hx hr hs hk hh, ?_⟩
    rw [apply_hunk hr e]
    unfold hunkT
    split
    · rfl
    · split <;> rfl
  · refine ⟨addT t x.v.name, by rw [e]; exact deedAdd_any x p B t w ht hx hl, ?_⟩
    rw [apply_add hr e]; simp
  · refine ⟨removeT t x.v.name, by rw [e]; exact deedRemove_any x p B t w ht hx hb, ?_⟩
    rw [apply_rm hr e]; simp
  · refine ⟨moveT t x.v.name x.v.to, by rw [e]; exact deedMove_any x p B t w ht hx hl, ?_⟩
    rw [apply_move hr e]; simp

set_option maxRecDepth 100000 in
set_option maxHeartbeats 800000 in
theorem apply_any (x : PrC) (p B k h : Nat) (t : Tr) (w : World) (ht : TreeAt w p B t) (hx : PrOk w x) (hs : Sized k h t) (hk : k ≤ 60000) (hh : h + x.m ≤ 65536) :
    Calls Try.prog 45 #[.pointer (some ⟨p, 0, none⟩), prV x] w (Does (applyP t x.v) p B w) := by
  have hlb : Later w (w.alloc (.cells #[.int .i64 x.v.kind, .string x.v.name, .string x.v.to, .int .i64 x.v.place, .slice x.A x.n x.c, .slice x.B x.m x.d] 51)) := (Later.refl w).alloc _
  have hri := primRight_any x _ (hx.later hlb)
  have hbx : BoxAt (w.alloc (.cells #[.int .i64 x.v.kind, .string x.v.name, .string x.v.to, .int .i64 x.v.place, .slice x.A x.n x.c, .slice x.B x.m x.d] 51)) w.heap.size #[.int .i64 x.v.kind, .string x.v.name, .string x.v.to, .int .i64 x.v.place, .slice x.A x.n x.c, .slice x.B x.m x.d] 51 := BoxAt.made w _ _
  have HLB := Lib.hid hlb; have HT := Lib.hid ht; have HBX := Lib.hid hbx
  cases hr : rightP x.v
  · rw [hr] at hri
    have HR := Lib.hid hri
    rw [apply_wrong hr]
    clear hri hr hx hs hlb ht hbx
    unfold prV at HR ⊢
    go_enter Try.func45, Try.ntmps45
    go_wp2_with fail
    refine HR.out.mono ?_
    rintro e w1 ⟨rfl, hl1⟩
    have HL1 := Lib.hid (HLB.out.trans hl1); clear hl1
    go_wp2
    go_ret
    exact ⟨rfl, HT.out.later HL1.out, HL1.out.turned B⟩
  · rw [hr] at hri
    have HR := Lib.hid hri
    have HD := Lib.hid (fun (w1 : World) (hl : Later w w1) => deed_any x p B k h t w1 (ht.later hl) (hx.later hl) hr hs hk hh)
    have HK := Lib.hid (right_parts hr).2.1
    clear hri hr hx hs hlb ht hbx
    unfold prV at HR HD ⊢
    go_enter Try.func45, Try.ntmps45
    go_wp2_with fail
    refine HR.out.mono ?_
    rintro e w1 ⟨rfl, hl1⟩
    have hb1 := HBX.out.later hl1
    have HL1 := Lib.hid (HLB.out.trans hl1)
    have x0 := hb1.cell (i := 0) rfl
    have HB1 := Lib.hid hb1
    clear hl1 hb1
    go_wp2_with fail
    go_region_held3 (fun w' => w'.cell? ⟨w.heap.size, 0, none⟩ = some (.int .i64 x.v.kind)) (go_keep)
      (first | (go_at_call 59; refine (deeds_any _).mono ?_; rintro e w2 ⟨B2, rfl, hd2, hl2⟩; have HL2 : Hid (Later w1 w2) := Later.trans (by first | exact Later.refl _ | exact (Later.refl _).drew | exact (Later.refl _).drewN _) hl2; have x02 := HL2.out.cell x0; have hlk := hd2.look HK.out; have HD2 := Lib.hid hd2; clear hd2 hl2))
    have hb2 := HB1.out.later HL2.out
    have y0 := hb2.cell (i := 0) rfl; have y1 := hb2.cell (i := 1) rfl; have y2 := hb2.cell (i := 2) rfl; have y3 := hb2.cell (i := 3) rfl; have y4 := hb2.cell (i := 4) rfl; have y5 := hb2.cell (i := 5) rfl
    obtain ⟨r, hcall, happ⟩ := HD.out w2 (HL1.out.trans HL2.out)
    have HCL := Lib.hid hcall; have HAP := Lib.hid happ
    have eg := deed_enters HK.out
    generalize deedAt x.v.kind = f at HCL eg hlk ⊢
    clear hb2 hcall happ hlk x0 x02 HD
    unfold Deed at HCL
    generalize (r.2 == 0) = b at HCL HAP
    cases b
    · go_wp2_with (go_at_fn f; refine HCL.out.mono ?_; rintro e w3 ⟨rfl, h3, h4⟩; have H3 := Lib.hid h3; have H4 := Lib.hid h4; clear h3 h4)
      go_ret
      rw [HAP.out]
      exact ⟨rfl, H3.out, ((HL1.out.trans HL2.out).turned B).trans H4.out⟩
    · go_wp2_with (go_at_fn f; refine HCL.out.mono ?_; rintro e w3 ⟨rfl, h3, h4⟩; have H3 := Lib.hid h3; have H4 := Lib.hid h4; clear h3 h4)
      go_ret
      rw [HAP.out]
      exact ⟨rfl, H3.out, ((HL1.out.trans HL2.out).turned B).trans H4.out⟩

end Go.Proofs.Ytbhnbkcokhfopaa

/-
  The statement of Apply's inner loop: in whatever order its operations come.
-/
namespace Go.Proofs.Ytbhnbkcokhfopaa
open Go.RowKit Go.Maps

section
variable {ops : Array Oper} {Q : Exit → Act → World → Prop} {K : Act → World → Prop} {i : Nat} {dst : Option Tmp} {js : List Nat} {a : Act} {w : World}
theorem OpIs.loadT {k : Tmp} {g : Nat} {v : Value} {t : TypeId} (h : OpIs ops i (.load 39 (.tmp k)) dst js) (he : a.eval (.tmp k) = .pointer (some ⟨g, 0, none⟩)) (hb : BoxAt w g #[v] t) (hk : K (a.put dst v) w) : wpOp Try.prog ops Q i K a w :=
  h.go fun o h1 h2 => by
    have hc := hb.cell (i := 0) rfl
    have hr : (execOp a.eval o).run Try.prog w = .ok (.value v) w := by
      clear hb hk
      unfold execOp
      rw [h1]
      dsimp only
      rw [he]
      go_simp
    unfold Oper.wp
    rw [hr]
    show K _ _
    rw [h2]
    exact hk
end
def ApSt (V0 : World) (p B : Nat) (x : PrC) (r : Tr × Int) : Nat → PrC → World → Prop
  | 0, _, V => Later V0 V
  | 1, y, V => Later V0 V ∧ y.v = invertP x.v ∧ PrOk V y
  | _, _, V => TreeAt V p B r.1 ∧ Turned B V0 V

set_option maxHeartbeats 1600000 in
theorem ap_region {ops : Array Oper} (hn : ops.size = 4) (hg : goesBack ops = true) (hdf : noDefer ops = true)
    (o0 : OpIs ops 0 (.load 39 (.tmp 2)) (some 28) [])
    (o1 : OpIs ops 1 (.load 51 (.tmp 9)) (some 29) [])
    (o2 : OpIs ops 2 (.call { callee := .value (.func 47), args := #[.tmp 29], argTypes := #[51] }) (some 30) [1])
    (o3 : OpIs ops 3 (.call { callee := .value (.func 45), args := #[.tmp 28, .tmp 30], argTypes := #[39, 51] }) (some 31) [0, 2])
    {a1 : Act} (hs : 34 ≤ a1.tmps.size) {wx : World} {p B k h g2 gx : Nat} {u : Tr} {x : PrC} (e2 : a1.eval (.tmp 2) = .pointer (some ⟨g2, 0, none⟩)) (e9 : a1.eval (.tmp 9) = .pointer (some ⟨gx, 0, none⟩)) (hb2 : BoxAt wx g2 #[.pointer (some ⟨p, 0, none⟩)] 39) (hbx : BoxAt wx gx (prL x).toArray 51) (hx : PrOk wx x) (ht : TreeAt wx p B u) (hs : Sized k h u) (hk : k ≤ 60000) (hh : h + (invertP x.v).new.length ≤ 65536)
    {Q : Exit → Act → World → Prop} (hq : ¬ LetsOut Q) {id lp mp : Nat} (hend : ∀ (D : PrC) (a : Act) (w : World), SameOut a1 a [28, 29, 30, 31] → ApSt wx p B x (applyP u (invertP x.v)) (2) D w → Q .normal a w) :
    (Code.region id ops true).wpIn (Fence.wide.inRound lp) mp Try.prog Q a1 wx := by
  refine regionIn_inv (by kernel_rfl) hg hdf hq (fun l a w => ∃ D : PrC, SameOut a1 a [28, 29, 30, 31] ∧ ApSt wx p B x (applyP u (invertP x.v)) (if l 3 = true then 2 else (if l 2 = true then 1 else 0)) D w ∧ (l 0 = true → a.eval (.tmp 28) = .pointer (some ⟨p, 0, none⟩)) ∧ (l 1 = true → a.eval (.tmp 29) = prV x) ∧ (l 2 = true → a.eval (.tmp 30) = prV D) ∧ (l 3 = true → a.eval (.tmp 31) = .int .i64 (applyP u (invertP x.v)).2) ∧ (l 3 = true → l 2 = true) ∧ (l 3 = true → l 0 = true) ∧ (l 2 = true → l 1 = true)) ?_ ?_ ?_
  · intro l a w i o ho hl hwait ⟨D, so, st, f0, f1, f2, f3, d3_2, d3_0, d2_1⟩
    have hi : i < 4 := by rw [← hn]; exact (Array.getElem?_eq_some_iff.1 ho).1
    have hc : i = 0 ∨ i = 1 ∨ i = 2 ∨ i = 3 := by omega
    rcases hc with rfl | rfl | rfl | rfl
    · have n3 : l 3 = false := by cases hx : l 3 with | false => rfl | true => have := d3_0 hx; rw [hl] at this; cases this
      have st0 := st
      have hl0 : Later wx w := by
        have hst := st
        simp only [n3, Bool.false_eq_true, if_false] at hst
        split at hst
        · exact hst.1
        · exact hst
      refine o0.loadT ((show _ = a1.eval _ from by simp only [Act.eval, Array.getD_eq_getD_getElem?, so.out 2 (by decide)]).trans e2) (hb2.later hl0) ?_
      exact ⟨D, (so.put (by decide) _), st, (fun _ => eval_put_same' _ _ _ (by rw [so.size]; show (28 : Nat) < _; omega)), (fun e => (eval_put_other' _ _ (by decide)).trans (f1 e)), (fun e => (eval_put_other' _ _ (by decide)).trans (f2 e)), (fun e => by rw [show more l 0 3 = l 3 from rfl, n3] at e; cases e), d3_2, (fun _ => rfl), d2_1⟩
    · have n2 : l 2 = false := by cases hx : l 2 with | false => rfl | true => have := d2_1 hx; rw [hl] at this; cases this
      have n3 : l 3 = false := by cases hx : l 3 with | false => rfl | true => have := d3_2 hx; rw [n2] at this; cases this
      have st0 := st
      have hl0 : Later wx w := by
        have hst := st
        simp only [n2, n3, Bool.false_eq_true, if_false] at hst
        exact hst
      refine o1.load Try.underlying51 Try.primSize ((show _ = a1.eval _ from by simp only [Act.eval, Array.getD_eq_getD_getElem?, so.out 9 (by decide)]).trans e9) (hbx.later hl0) ?_
      exact ⟨D, (so.put (by decide) _), st, (fun e => (eval_put_other' _ _ (by decide)).trans (f0 e)), (fun _ => eval_put_same' _ _ _ (by rw [so.size]; show (29 : Nat) < _; omega)), (fun e => by rw [show more l 1 2 = l 2 from rfl, n2] at e; cases e), (fun e => by rw [show more l 1 3 = l 3 from rfl, n3] at e; cases e), d3_2, d3_0, (fun _ => rfl)⟩
    · have ws := o2.waits ho hwait
      have w1 := ws 1 (by simp)
      have n3 : l 3 = false := by cases hx : l 3 with | false => rfl | true => have := d3_2 hx; rw [hl] at this; cases this
      have st0 : ApSt wx p B x (applyP u (invertP x.v)) 0 D w := by
        have hst := st
        simp only [hl, n3, Bool.false_eq_true, if_false] at hst
        exact hst
      refine o2.call1 (enters_of Try.func47 (by kernel_rfl) rfl) (f1 w1) (invertP_any x w (hx.later st0)) ?_
      rintro e w' ⟨y, rfl, hy, oky, fry, hl'⟩
      have st1 : ApSt wx p B x (applyP u (invertP x.v)) 1 y w' := ⟨Later.trans st0 hl', hy, oky⟩
      have st2 : ApSt wx p B x (applyP u (invertP x.v)) (if (more l 2) 3 = true then 2 else (if (more l 2) 2 = true then 1 else 0)) (y) w' := by
        rw [if_neg (show ¬ (more l 2 3 = true) from by rw [show more l 2 3 = l 3 from rfl, n3]; simp), if_pos (show more l 2 2 = true from rfl)]
        exact st1
      exact ⟨_, rfl, ⟨y, (so.put (by decide) _), st2, (fun e => (eval_put_other' _ _ (by decide)).trans (f0 e)), (fun e => (eval_put_other' _ _ (by decide)).trans (f1 e)), (fun _ => eval_put_same' _ _ _ (by rw [so.size]; show (30 : Nat) < _; omega)), (fun e => by rw [show more l 2 3 = l 3 from rfl, n3] at e; cases e), (fun _ => rfl), d3_0, (fun _ => w1)⟩⟩
    · have ws := o3.waits ho hwait
      have w0 := ws 0 (by simp)
      have w2 := ws 2 (by simp)
      have w1 := d2_1 w2
      have st0 : ApSt wx p B x (applyP u (invertP x.v)) 1 D w := by
        have hst := st
        simp only [hl, Bool.false_eq_true, if_false, if_true, w2] at hst
        exact hst
      have hyn := st0.2.2.new.len
      rw [st0.2.1] at hyn
      have hca := apply_any D p B k h u w (ht.later st0.1) st0.2.2 hs hk (by omega)
      rw [st0.2.1] at hca
      refine o3.call2 (enters_of Try.func45 (by kernel_rfl) rfl) (f0 w0) (f2 w2) hca ?_
      rintro e w' ⟨rfl, htw, htu⟩
      have st1 : ApSt wx p B x (applyP u (invertP x.v)) 2 D w' := ⟨htw, (st0.1.turned B).trans htu⟩
      have st2 : ApSt wx p B x (applyP u (invertP x.v)) (if (more l 3) 3 = true then 2 else (if (more l 3) 2 = true then 1 else 0)) (D) w' := by
        rw [if_pos (show more l 3 3 = true from rfl)]
        exact st1
      exact ⟨_, rfl, ⟨D, (so.put (by decide) _), st2, (fun e => (eval_put_other' _ _ (by decide)).trans (f0 e)), (fun e => (eval_put_other' _ _ (by decide)).trans (f1 e)), (fun e => (eval_put_other' _ _ (by decide)).trans (f2 e)), (fun _ => eval_put_same' _ _ _ (by rw [so.size]; show (31 : Nat) < _; omega)), (fun _ => w2), (fun _ => w0), d2_1⟩⟩
  · intro l a w hall ⟨D, so, st, f0, f1, f2, f3, d3_2, d3_0, d2_1⟩
    rw [hn] at hall
    have hst : ApSt wx p B x (applyP u (invertP x.v)) 2 D w := by
      have hst := st
      simp only [hall 3 (by decide), if_true] at hst
      exact hst
    exact hend D a w so hst
  · have h0 : ApSt wx p B x (applyP u (invertP x.v)) 0 x { wx with drawn := wx.drawn + 1 } := (Later.refl wx).drew
    exact ⟨x, SameOut.refl _ _, h0, (fun e => by cases e), (fun e => by cases e), (fun e => by cases e), (fun e => by cases e), (fun e => by cases e), (fun e => by cases e), (fun e => by cases e)⟩

end Go.Proofs.Ytbhnbkcokhfopaa
