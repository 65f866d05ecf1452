/-
  What Splice and Find of the document's own answers come to.
-/
import Derived.Test.YtimljhmbaobgnaaWalk5
namespace Go.Proofs.Ytimljhmbaobgnaa
open Go.RowKit

theorem getD_piece {l : List ByteArray} {k j n : Nat} (h : j < n) : ((l.drop k).take n).getD j ByteArray.empty = l.getD (k + j) ByteArray.empty := by
  simp [List.getD, h, List.getElem?_drop]

/-- Nothing, and false, or the row, and true: as the lines stand there or not. -/
def Spl (l : List ByteArray) (k : Int) (m : Nat) (old with_ : List ByteArray) (w : World) (e : Ending) (w' : World) : Prop :=
  (standsB l k old = false ∧ e = .returned (.tuple #[.slice none 0 0, .bool false]) ∧ Later w w') ∨ (standsB l k old = true ∧ GivesRow2 (spliced l k.toNat m with_) w e w')

set_option maxHeartbeats 400000 in
theorem refSplice_out (A B C : Option Addr) (n c m d p q : Nat) (l old with_ : List ByteArray) (k : Int) (w : World) (hx : Row w A n l) (hy : Row w B m old) (hn : n ≤ 65536)
    (hk0 : -9223372036854775808 ≤ k) (hk1 : k ≤ 9223372036854775807) (h : ¬ (0 ≤ k ∧ k + m ≤ n)) :
    Calls Try.prog 25 #[.slice A n c, .int .i64 k, .slice B m d, .slice C p q] w (Spl l k m old with_ w) := by
  have e : standsB l k old = false := standsB_out (by rw [hx.len, hy.len]; exact h)
  have fin : Spl l k m old with_ w (.returned (.tuple #[.slice none 0 0, .bool false])) w := .inl ⟨e, rfl, Later.refl w⟩
  have F := Lib.hid fin; clear fin e hx hy
  by_cases h0 : k < 0
  · go_enter Try.func25, Try.ntmps25
    go_wp2
    go_ret2
    exact F.out
  · by_cases h1 : (n : Int) < k
    · go_enter Try.func25, Try.ntmps25
      go_wp2
      go_ret2
      exact F.out
    · have h2 : (n : Int) - k < m := by omega
      clear h
      go_enter Try.func25, Try.ntmps25
      go_wp2
      go_ret2
      exact F.out

set_option maxHeartbeats 400000 in
theorem refSplice_in (A B C : Option Addr) (n c m d p q : Nat) (l old with_ : List ByteArray) (k : Nat) (w : World) (hx : Row w A n l) (hy : Row w B m old) (hz : Row w C p with_) (hc : n ≤ c) (hn : n ≤ 65536) (hm : m ≤ 65536) (hp : p ≤ 65536)
    (hkm : k + m ≤ n) :
    Calls Try.prog 25 #[.slice A n c, .int .i64 k, .slice B m d, .slice C p q] w (Spl l k m old with_ w) := by
  obtain ⟨i0, hi, hz0, hz1, hz2⟩ := info_parts Try.textInfo
  have hst : standsB l k old = sameB ((l.drop k).take m) old := by rw [standsB_in (by rw [hx.len, hy.len]; exact hkm), hy.len]
  have hlen : ((l.drop k).take m).length = m := by rw [List.length_take, List.length_drop, hx.len]; omega
  have ST := Lib.hid hst; clear hst
  have HL := Lib.hid hlen; clear hlen
  have HX := Lib.hid hx; clear hx
  have HY := Lib.hid hy; clear hy
  have HZ := Lib.hid hz; clear hz
  have h1 : ¬ (n : Int) < k := by omega
  have h2 : ¬ (n : Int) - k < m := by omega
  go_enter Try.func25, Try.ntmps25
  go_wp2
  go_loopg [10] m (fun g s10 wr => ∃ j : Nat, j ≤ m ∧ m - j ≤ g ∧ s10 = .int .i64 j ∧ Drew w wr ∧ Hid (((l.drop k).take m).take j = old.take j))
  case atStart => exact ⟨0, Nat.zero_le _, by omega, rfl, Drew.refl w, by simp [Hid]⟩
  case round =>
    obtain ⟨j, hj, hg, rfl, hwr, heq⟩ := hrel
    by_cases hlt : j < m
    · obtain ⟨b1, o1, rfl, g1⟩ := (HX.out.later hwr.later).get (show k + j < n by omega)
      obtain ⟨b2, o2, rfl, g2⟩ := (HY.out.later hwr.later).get hlt
      have w1 : IntKind.i64.wrap ((k : Int) + (j : Int)) = (k : Int) + (j : Int) := IntWalk.i64_in _ (by omega)
      have t1 : ((k : Int) + (j : Int)).toNat = k + j := by omega
      have p1 : (0 : Int) ≤ (k : Int) + (j : Int) := by omega
      have p2 : (k : Int) + (j : Int) < n := by omega
      have hgd := getD_piece (l := l) (k := k) hlt
      by_cases hxy : l.getD (k + j) ByteArray.empty = old.getD j ByteArray.empty
      · have hst := take_same (by rw [HL.out]; exact hlt) (by rw [HY.out.len]; exact hlt) heq.out (by rw [hgd]; exact hxy)
        rw [hxy] at g1
        generalize old.getD j ByteArray.empty = y at g1 g2
        clear hgd hxy heq
        go_wp2_with fail
        go_quiet (fail)
        clear w1 t1 p1 p2
        go_wp2
        go_roundg (m - (j + 1))
        case measure => omega
        case rel => exact ⟨j + 1, by omega, by omega, by go_num, hwr.more _, hst⟩
      · have e : standsB l k old = false := by
          rw [ST.out]; exact beq_of_other (k := j) (by rw [hgd]; exact hxy)
        have F : Hid (∀ W, Later w W → Spl l k m old with_ w (.returned (.tuple #[.slice none 0 0, .bool false])) W) := fun W hW => .inl ⟨e, rfl, hW⟩
        have hb := text_ne hxy
        generalize l.getD (k + j) ByteArray.empty = x at g1 hb
        generalize old.getD j ByteArray.empty = y at g2 hb
        clear hgd hxy heq e
        go_wp2_with fail
        go_quiet (fail)
        clear w1 t1 p1 p2
        go_wp2
        go_ret2
        exact F.out _ (hwr.more _).later
    · have e : standsB l k old = true := by
        rw [ST.out]
        refine sameB_yes ?_
        have := heq.out
        have ej : j = m := by omega
        rw [ej, List.take_take, Nat.min_self, List.take_of_length_le (l := old) (by rw [HY.out.len]; exact Nat.le_refl _)] at this
        exact this
      have E := Lib.hid e; clear e heq
      have l1 : (l.take k).length ≤ 65536 := by rw [List.length_take, HX.out.len]; omega
      have r1 := (HX.out.later hwr.later).take (show k ≤ n by omega)
      have ZL : with_.length ≤ 65536 := by rw [HZ.out.len]; exact hp
      have ef : spliced l (k : Int).toNat m with_ = [] ++ l.take k ++ with_ ++ l.drop (k + m) := by simp [spliced]
      have l4 : (l.drop (k + m)).length ≤ 65536 := by rw [List.length_drop, HX.out.len]; omega
      generalize l.take k = s1 at r1 l1 ef
      have HR1 := Lib.hid r1; clear r1
      have hkc : (k : Int) ≤ c := by omega
      have p3 : (k : Int) + (m : Int) ≤ n := by omega
      have t3 : ((k : Int) + (m : Int)).toNat = k + m := by omega
      by_cases hcm : c = k + m
      · have hnk : n = k + m := by omega
        have hd : l.drop (k + m) = [] := List.drop_of_length_le (by rw [HX.out.len]; omega)
        rw [hd] at ef
        have EF := Lib.hid ef; clear ef hd l4
        have HR4 : Hid (∀ W, Later w W → Row W A 0 []) := fun W _ => Row.none
        subst hcm
        subst hnk
        go_wp2_with (first
          | (at_builtin; refine wpList_append_row (w0 := w) rfl _ _ 22 rfl i0 Try.underlying22 hi hz0 hz1 hz2 (Own.empty hwr.later) rfl _ _ _ _ rfl (HR1.out.later ((Later.refl _).alloc _)) (by simp; omega) ?_; intro v2 w2 hown2 hg2; have HO2 := Lib.hid hown2; clear hown2 hg2)
          | (at_builtin; refine wpList_append_row rfl _ _ 22 rfl i0 Try.underlying22 hi hz0 hz1 hz2 HO2.out rfl _ _ _ _ rfl (HZ.out.later HO2.out.later) (by simp; omega) ?_; intro v3 w3 hown3 hg3; have HO3 := Lib.hid hown3; clear hown3 hg3)
          | (at_builtin; refine wpList_append_row rfl _ _ 22 rfl i0 Try.underlying22 hi hz0 hz1 hz2 HO3.out rfl _ _ _ _ rfl (HR4.out _ HO3.out.later) (by simp; omega) ?_; intro v5 w5 hown5 hg5; have HO5 := Lib.hid hown5; clear hown5 hg5))
        go_ret2
        refine .inr ⟨E.out, ?_⟩
        rw [EF.out]
        obtain ⟨A6, c6, hv, hcc, hr6⟩ := HO5.out.row
        exact ⟨A6, c6, by rw [← hv]; rfl, hcc, hr6, HO5.out.later⟩
      · have r4 : ∀ W, Later w W → Row W (A.map (·.add (k + m))) (n - (k + m)) (l.drop (k + m)) := fun W hW => by
          have := (HX.out.later hW).cut (f := k + m) (c := c) hkm hc
          rw [if_neg hcm] at this
          exact this
        generalize l.drop (k + m) = s4 at r4 l4 ef
        have EF := Lib.hid ef; clear ef
        have HR4 := Lib.hid r4; clear r4
        go_wp2_with (first
          | (at_builtin; refine wpList_append_row (w0 := w) rfl _ _ 22 rfl i0 Try.underlying22 hi hz0 hz1 hz2 (Own.empty hwr.later) rfl _ _ _ _ rfl (HR1.out.later ((Later.refl _).alloc _)) (by simp; omega) ?_; intro v2 w2 hown2 hg2; have HO2 := Lib.hid hown2; clear hown2 hg2)
          | (at_builtin; refine wpList_append_row rfl _ _ 22 rfl i0 Try.underlying22 hi hz0 hz1 hz2 HO2.out rfl _ _ _ _ rfl (HZ.out.later HO2.out.later) (by simp; omega) ?_; intro v3 w3 hown3 hg3; have HO3 := Lib.hid hown3; clear hown3 hg3)
          | (at_builtin; refine wpList_append_row rfl _ _ 22 rfl i0 Try.underlying22 hi hz0 hz1 hz2 HO3.out rfl _ _ _ _ rfl (HR4.out _ HO3.out.later) (by simp; omega) ?_; intro v5 w5 hown5 hg5; have HO5 := Lib.hid hown5; clear hown5 hg5))
        go_ret2
        refine .inr ⟨E.out, ?_⟩
        rw [EF.out]
        obtain ⟨A6, c6, hv, hcc, hr6⟩ := HO5.out.row
        exact ⟨A6, c6, by rw [← hv]; rfl, hcc, hr6, HO5.out.later⟩

end Go.Proofs.Ytimljhmbaobgnaa
