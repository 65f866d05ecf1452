/-
  What strings.Cut comes to at the byte 10; what Cut of the program comes to.
-/
import Derived.Test.YtimljhmbaobgnaaWalk7
import Derived.Test.YtimljhmbaobgnaaPlainCut
namespace Go.Proofs.Ytimljhmbaobgnaa
open Go.RowKit

set_option maxHeartbeats 400000 in
theorem cut44_yes (s : ByteArray) (i : Nat) (w : World) (hs : s.size ≤ 65536) (hi : Lib.indexByte s.data.toList 10 = i) (hlt : i < s.size) :
    Calls Try.prog 44 #[.string s, .string ⟨#[10]⟩] w fun e w' => e = .returned (.tuple #[.string (s.extract 0 i), .string (s.extract (i + 1) s.size), .bool true]) ∧ ∃ q, w' = w.drewN q := by
  have H := Try.stringslite_Index_one s 10 w
  rw [hi] at H
  have HH := Lib.hid H; clear H
  have w1 : IntKind.i64.wrap ((i : Int) + 1) = (i : Int) + 1 := IntWalk.i64_in _ (by omega)
  have p1 : (0 : Int) ≤ (i : Int) + 1 := by omega
  have t1 : ((i : Int) + 1).toNat = i + 1 := by omega
  have p2 : (i : Int) + 1 ≤ s.size := by omega
  have p3 : (i : Int) ≤ s.size := by omega
  clear hi
  go_enter Try.func44, Try.ntmps44
  go_wp2_with (go_at_call 46; refine HH.out.mono ?_; rintro e w' ⟨rfl, rfl⟩)
  go_quiet (fail)
  go_wp2
  go_ret3
  exact ⟨rfl, _, rfl⟩

set_option maxHeartbeats 400000 in
theorem cut44_no (s : ByteArray) (w : World) (hi : Lib.indexByte s.data.toList 10 = -1) :
    Calls Try.prog 44 #[.string s, .string ⟨#[10]⟩] w fun e w' => e = .returned (.tuple #[.string s, .string ⟨#[]⟩, .bool false]) ∧ ∃ q, w' = w.drewN q := by
  have H := Try.stringslite_Index_one s 10 w
  rw [hi] at H
  have HH := Lib.hid H; clear H hi
  go_enter Try.func44, Try.ntmps44
  go_wp2_with (go_at_call 46; refine HH.out.mono ?_; rintro e w' ⟨rfl, rfl⟩)
  go_ret3
  exact ⟨rfl, 0, rfl⟩

set_option maxHeartbeats 400000 in
theorem cut35 (s : ByteArray) (a b : ByteArray) (c : Bool) (w : World)
    (h : Calls Try.prog 44 #[.string s, .string ⟨#[10]⟩] w fun e w' => e = .returned (.tuple #[.string a, .string b, .bool c]) ∧ ∃ q, w' = w.drewN q) :
    Calls Try.prog 35 #[.string s, .string ⟨#[10]⟩] w fun e w' => e = .returned (.tuple #[.string a, .string b, .bool c]) ∧ ∃ q, w' = w.drewN q := by
  have H := Lib.hid h; clear h
  go_enter Try.func35, Try.ntmps35
  go_wp2_with (go_at_call 44; refine H.out.mono ?_; rintro e w' ⟨rfl, q, rfl⟩)
  go_ret3
  exact ⟨rfl, q, rfl⟩

/-- A row of new memory. -/
def GivesRow (ss : List ByteArray) (w : World) (e : Ending) (w' : World) : Prop :=
  ∃ A c, e = .returned (.slice A ss.length c) ∧ ss.length ≤ c ∧ Row w' A ss.length ss ∧ Later w w'

theorem extract_size (s : ByteArray) (a b : Nat) : (s.extract a b).size = min b s.size - a := by simp

theorem toList_isEmpty {s : ByteArray} (h : s.size ≠ 0) : s.toList.isEmpty = false := by
  rw [ByteArray.toList_eq]
  cases hl : s.data.toList with
  | nil =>
    have : s.data.toList.length = s.size := by simp
    rw [hl] at this; simp at this; omega
  | cons _ _ => rfl

set_option maxHeartbeats 400000 in
theorem cut_any (s : ByteArray) (w : World) (hs : s.size ≤ 65536) : Calls Try.prog 14 #[.string s] w (GivesRow (lines s) w) := by
  obtain ⟨i0, hi, hz0, hz1, hz2⟩ := info_parts Try.textInfo
  go_enter Try.func14, Try.ntmps14
  go_wp2
  go_loopg [0, 3] (s.size + 1) (fun g s0 s3 wr => ∃ (r : ByteArray) (out : List ByteArray), s0 = .string r ∧ r.size ≤ g ∧ r.size ≤ 65536 ∧ out.length + r.size ≤ 65536 ∧ Own 9 w wr s3 out ∧ Hid (out ++ lines r = lines s))
  case atStart => exact ⟨s, [], rfl, by omega, hs, by simpa using hs, Own.nil (Later.refl w), rfl⟩
  case round =>
    obtain ⟨r, out, rfl, hg, hr, ho, hown, heq⟩ := hrel
    have HO := Lib.hid hown; clear hown
    by_cases h0 : r.size = 0
    · have e : lines s = out := by rw [← heq.out, lines_empty h0, List.append_nil]
      have E := Lib.hid e; clear e heq
      have er : r = ⟨#[]⟩ := by
        have := txt_bytes r
        rw [List.eq_nil_of_length_eq_zero (l := bytes r) (by rw [bytes_length]; exact h0)] at this
        exact this.symm
      subst er
      go_wp2
      go_ret
      rw [E.out]
      obtain ⟨A6, c6, hv, hcc, hr6⟩ := HO.out.row
      exact ⟨A6, c6, by rw [← hv]; rfl, hcc, hr6, HO.out.later⟩
    · have he := toList_isEmpty h0
      have he2 : ¬ r.toList = [] := by intro h; rw [h] at he; cases he
      have hge := Lib.indexByte_ge r.data.toList 10
      by_cases hix : 0 ≤ Lib.indexByte r.data.toList 10
      · obtain ⟨i, hxi⟩ := Int.eq_ofNat_of_zero_le hix
        have hfound := Lib.indexByte_some hxi
        have hil : i < r.size := by
          rcases Nat.lt_or_ge i r.size with h' | h'
          · exact h'
          · have := hfound.1
            rw [List.getElem?_eq_none (by simpa using h')] at this; cases this
        have hln := lines_at (s := r) (i := i) hfound.1 hfound.2
        have hcut := fun W => cut35 r _ _ _ W (cut44_yes r i W hr hxi hil)
        have HC := Lib.hid hcut
        have HE : Hid ((out ++ [r.extract 0 i]) ++ lines (r.extract (i + 1) r.size) = lines s) := by
          show _ = _
          rw [← heq.out, hln]; simp
        have z2 : (r.extract (i + 1) r.size).size = r.size - (i + 1) := by rw [extract_size]; omega
        generalize r.extract 0 i = f1 at HC HE
        generalize r.extract (i + 1) r.size = f2 at HC HE z2
        have z3 : f2.size + 1 ≤ r.size := by omega
        clear hcut hln hfound hxi hix hge heq z2
        go_wp2_with (first
          | (go_at_call 35; refine (HC.out _).mono ?_; rintro e w' ⟨rfl, q, rfl⟩)
          | (at_builtin; refine wpList_append_row rfl _ _ 22 rfl i0 Try.underlying22 hi hz0 hz1 hz2 ((HO.out.drewN q).alloc _) rfl _ _ _ _ rfl (Row.one _ _ _) (by omega) ?_; intro v2 w2 hown2 hg2; have HO2 := Lib.hid hown2; clear hown2 hg2))
        go_roundg f2.size
        case measure => omega
        case rel => exact ⟨f2, out ++ [f1], rfl, Nat.le_refl _, by omega, by simp; omega, HO2.out, HE⟩
      · have hxi : Lib.indexByte r.data.toList 10 = -1 := by omega
        have hln := lines_none (s := r) h0 (Lib.indexByte_none hxi)
        have hcut := fun W => cut35 r _ _ _ W (cut44_no r W hxi)
        have HC := Lib.hid hcut
        have HE : Hid ((out ++ [r]) ++ lines ⟨#[]⟩ = lines s) := by
          show _ = _
          rw [← heq.out, hln, lines_empty rfl]; simp
        clear hcut hln hxi hix hge heq
        go_wp2_with (first
          | (go_at_call 35; refine (HC.out _).mono ?_; rintro e w' ⟨rfl, q, rfl⟩)
          | (at_builtin; refine wpList_append_row rfl _ _ 22 rfl i0 Try.underlying22 hi hz0 hz1 hz2 ((HO.out.drewN q).alloc _) rfl _ _ _ _ rfl (Row.one _ _ _) (by omega) ?_; intro v2 w2 hown2 hg2; have HO2 := Lib.hid hown2; clear hown2 hg2))
        go_roundg 0
        case measure => omega
        case rel => exact ⟨⟨#[]⟩, out ++ [r], rfl, Nat.le_refl _, Nat.zero_le _, by simp [ByteArray.size]; omega, HO2.out, HE⟩

end Go.Proofs.Ytimljhmbaobgnaa
