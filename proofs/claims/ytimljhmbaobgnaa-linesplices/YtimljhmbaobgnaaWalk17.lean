/-
  The law that cut and put together is as it was, as a call.
-/
import Derived.Test.YtimljhmbaobgnaaWalk16
namespace Go.Proofs.Ytimljhmbaobgnaa
open Go.RowKit

/-- None of the first k lines has a byte 10. -/
def wholeB (xs : List ByteArray) (k : Nat) : Bool := (xs.take k).all fun x => !hasEnd x
theorem wholeB_succ {xs : List ByteArray} {k : Nat} (h : k < xs.length) : wholeB xs (k + 1) = (wholeB xs k && !hasEnd (xs.getD k ByteArray.empty)) := by
  unfold wholeB
  rw [List.take_succ_eq_append_getElem h, List.all_append]
  simp [List.getD, List.getElem?_eq_getElem h]
theorem wholeB_lines {xs : List ByteArray} {k : Nat} (hk : xs.length ≤ k) (h : wholeB xs k = true) : lines (txt (textL xs)) = xs := by
  refine lines_textL xs fun s hs c hc => ?_
  unfold wholeB at h
  rw [List.take_of_length_le hk] at h
  have h1 := List.all_eq_true.1 h s hs
  intro e
  subst e
  obtain ⟨i, hi, hg⟩ := List.getElem_of_mem hc
  have := hasEnd_yes (s := s) (k := i) (by unfold bytes at hi hg; rw [List.getElem?_eq_getElem hi, hg])
  rw [this] at h1
  cases h1

theorem suffix_ten (s : ByteArray) (h0 : s.size ≠ 0) : Lib.hasSuffix s.data.toList [10] = decide ((bytes s).getLast? = some 10) := by
  have hne : bytes s ≠ [] := by
    intro e
    have := bytes_length s
    rw [e] at this; simp at this; omega
  unfold Lib.hasSuffix
  show List.isSuffixOf [10] (bytes s) = _
  generalize bytes s = l at hne
  rw [Bool.eq_iff_iff, List.isSuffixOf_iff_suffix, decide_eq_true_eq]
  constructor
  · rintro ⟨t, rfl⟩
    simp
  · intro h
    exact ⟨l.dropLast, by rw [List.getLast?_eq_some_getLast hne] at h; injection h with h; rw [← h]; exact List.dropLast_concat_getLast hne⟩

theorem ended_same {s : ByteArray} (h : s.size = 0 ∨ Lib.hasSuffix s.data.toList [10] = true) : txt (textL (lines s)) = s := by
  rw [textL_lines]
  unfold ended
  have : bytes s = [] ∨ (bytes s).getLast? = some 10 := by
    by_cases h0 : s.size = 0
    · left; exact List.eq_nil_of_length_eq_zero (by rw [bytes_length]; exact h0)
    · right
      rcases h with h | h
      · exact absurd h h0
      · rw [suffix_ten s h0] at h
        simpa using h
  rw [if_pos this, List.append_nil, txt_bytes]
theorem ended_more {s : ByteArray} (h0 : s.size ≠ 0) (h : Lib.hasSuffix s.data.toList [10] = false) : txt (textL (lines s)) = s ++ ⟨#[10]⟩ := by
  rw [textL_lines]
  unfold ended
  have hn : ¬ (bytes s = [] ∨ (bytes s).getLast? = some 10) := by
    rintro (h1 | h1)
    · have := bytes_length s
      rw [h1] at this; simp at this; omega
    · rw [suffix_ten s h0, h1] at h
      simp at h
  rw [if_neg hn]
  have := text_step (bytes s) ⟨#[]⟩
  rw [txt_bytes] at this
  have e : s ++ (⟨#[]⟩ : ByteArray) = s := by
    have h : ∀ p q : ByteArray, bytes p = bytes q → p = q := fun p q h => by rw [← txt_bytes p, h, txt_bytes]
    apply h; unfold bytes; simp [ByteArray.data_append]
  rw [e] at this
  rw [this]
  simp [bytes]

/-- How a text ends, and what it is with a byte 10 at its end. -/
def Wants (s want : ByteArray) : Prop :=
  txt (textL (lines s)) = want ∧ ((s = ⟨#[]⟩ ∧ want = s) ∨ (s.toList.isEmpty = false ∧ Lib.hasSuffix s.data.toList [10] = true ∧ want = s) ∨ (s.toList.isEmpty = false ∧ Lib.hasSuffix s.data.toList [10] = false ∧ want = s ++ ⟨#[10]⟩))
theorem wants_any (s : ByteArray) : ∃ want, Wants s want := by
  by_cases h0 : s.size = 0
  · have er : s = ⟨#[]⟩ := by
      have := txt_bytes s
      rw [List.eq_nil_of_length_eq_zero (l := bytes s) (by rw [bytes_length]; exact h0)] at this
      exact this.symm
    exact ⟨s, ended_same (.inl h0), .inl ⟨er, rfl⟩⟩
  · have he := toList_isEmpty h0
    cases hsf : Lib.hasSuffix s.data.toList [10]
    · exact ⟨_, ended_more h0 hsf, .inr (.inr ⟨he, hsf, rfl⟩)⟩
    · exact ⟨s, ended_same (.inr hsf), .inr (.inl ⟨he, hsf, rfl⟩)⟩

set_option maxHeartbeats 2000000 in
theorem lawBack (A : Option Addr) (n c : Nat) (xs : List ByteArray) (s : ByteArray) (w : World) (hs : s.size ≤ 140737488355328) (hx : Came w A n c xs) :
    Calls Try.prog 4 #[.slice A n c, .string s] w fun e w' => e = .returned (.bool true) ∧ Later w w' := by
  have F := Lib.hid (few1 A n c xs w hx)
  have HX := Lib.hid hx; clear hx
  by_cases hbig : 3000 < s.size
  · have hd : decide ((3000 : Int) < s.size) = true := by simp; omega
    go_enter Try.func4, Try.ntmps4
    go_wp2_with fail
    refine (alive_any _).mono ?_
    rintro e w2 ⟨rfl, hl2⟩
    go_wp2
    go_ret
    exact ⟨rfl, hl2⟩
  · have hd : decide ((3000 : Int) < s.size) = false := by simp; omega
    go_enter Try.func4, Try.ntmps4
    go_wp2_with fail
    refine F.out.mono ?_
    rintro e w1 ⟨b, rfl, hb, rfl⟩
    have HL1 := Lib.hid ((Later.refl w).alloc (.cells #[.slice A n c] 22))
    clear F
    cases b
    · clear hb
      go_wp2_with fail
      refine (alive_any _).mono ?_
      rintro e w2 ⟨rfl, hl2⟩
      go_wp2
      go_ret
      exact ⟨rfl, HL1.out.trans hl2⟩
    · have hb' := hb rfl
      clear hb
      obtain ⟨want, hwant⟩ := wants_any s
      have HW := Lib.hid hwant; clear hwant
      generalize w.alloc (.cells #[.slice A n c] 22) = w1 at HL1 ⊢
      go_wp2
      go_loop [5, 21] (fun s5 s21 => ∃ (k : Nat) (b : Bool), k ≤ n ∧ s21 = .int .i64 k ∧ s5 = .bool b ∧ Hid (b = wholeB xs k)) (fun _ s21 => n - (intOf s21).toNat)
      case atStart => exact ⟨0, true, Nat.zero_le _, rfl, rfl, rfl⟩
      case round =>
        obtain ⟨k, b, hk, rfl, rfl, hbw⟩ := hrel
        by_cases hlt : k < n
        · obtain ⟨b1, o1, rfl, g1⟩ := (HX.out.row.later HL1.out).get hlt
          have hkl : k < xs.length := by rw [HX.out.row.len]; exact hlt
          have hsu := wholeB_succ hkl
          generalize xs.getD k ByteArray.empty = x at g1 hsu
          have HC := Lib.hid (Try.strings_Contains_one x 10 w1)
          have HSU := Lib.hid hsu; clear hsu hkl
          cases b
          · go_wp2_with (go_at_call 18; refine HC.out.mono ?_; rintro e w' ⟨rfl, rfl⟩)
            exact ⟨⟨k + 1, false, by omega, by go_num, rfl, by show _ = _; rw [HSU.out, ← hbw.out]; rfl⟩, by simp [intOf]; omega⟩
          · go_wp2_with (go_at_call 18; refine HC.out.mono ?_; rintro e w' ⟨rfl, rfl⟩)
            exact ⟨⟨k + 1, _, by omega, by go_num, rfl, by show _ = _; rw [HSU.out, ← hbw.out]; rfl⟩, by simp [intOf]; omega⟩
        · have hkn : k = n := by omega
          rw [hkn] at hbw
          have HB := Lib.hid hbw.out
          have hxl : (textL xs).length ≤ 1000000 := by rw [textL_length, HX.out.row.len]; omega
          have hxs : (txt (textL xs)).size ≤ 65536 := by rw [txt_size, textL_length, HX.out.row.len]; omega
          have hll := lines_length s
          have htl : (textL (lines s)).length ≤ 1000000 := by have := ended_length s; rw [textL_lines]; omega
          have hl3 : (lines s).length ≤ 65536 := by omega
          have hwh : b = true → lines (txt (textL xs)) = xs := fun h => wholeB_lines (k := n) (by rw [HX.out.row.len]; exact Nat.le_refl _) (by rw [← HB.out]; exact h)
          have hcut := fun W => cut_any s W (by omega)
          have hsuf : Calls Try.prog 19 #[.string s, .string ⟨#[10]⟩] w1 fun e w' => e = .returned (.bool (Lib.hasSuffix s.data.toList [10])) ∧ w' = w1 := Try.strings_HasSuffix s ⟨#[10]⟩ w1 (by omega)
          obtain ⟨hT, hcase⟩ := HW.out
          generalize lines s = L at hcut hll htl hl3 hT
          have HC := Lib.hid hcut; clear hcut
          have HT := Lib.hid hT; clear hT
          have HWH := Lib.hid hwh; clear hwh
          clear HW hbw HB hkn
          have hnl : ¬ 9223372036854775807 < s.size + 1 := by omega
          rcases hcase with ⟨hse, hw⟩ | ⟨he, hsf, hw⟩ | ⟨he, hsf, hw⟩
          · have hw' := hw.symm
            clear hw
            subst hw'
            subst hse
            clear hsuf
            go_wp2_with fail
            refine (alive_any _).mono ?_
            rintro e w2 ⟨rfl, hl2⟩
            have HL2 := Lib.hid (HL1.out.trans hl2); clear hl2
            cases b
            · clear HWH
              go_wp2_with fail
              refine (HC.out w2).mono ?_
              rintro e w8 ⟨A8, c8, rfl, hc8, hr8, hl8⟩
              have HR8 := Lib.hid hr8; clear hr8
              have HL8 := Lib.hid (HL2.out.trans hl8); clear hl8
              have ht9 := text_any A8 _ c8 L w8 HR8.out hl3 htl
              rw [HT.out] at ht9
              have HT9 := Lib.hid ht9; clear ht9
              go_wp2_with fail
              refine HT9.out.mono ?_
              rintro e w9 ⟨rfl, hl9⟩
              have HL9 := Lib.hid (HL8.out.trans hl9); clear hl9
              go_wp2
              go_ret
              exact ⟨ret_bool (by simp), HL9.out⟩
            · have hlx := HWH.out rfl
              have hcx := fun W => cut_any (txt (textL xs)) W hxs
              rw [hlx] at hcx
              have htx := text_any A n c xs w2 (HX.out.row.later HL2.out) (by omega) hxl
              generalize txt (textL xs) = T at hcx htx
              have HCX := Lib.hid hcx; clear hcx
              have HTX := Lib.hid htx; clear htx HWH hlx
              go_wp2_with fail
              refine HTX.out.mono ?_
              rintro e w3 ⟨rfl, hl3'⟩
              have HL3 := Lib.hid (HL2.out.trans hl3'); clear hl3'
              go_wp2_with fail
              refine (HCX.out w3).mono ?_
              rintro e w4 ⟨A4, c4, rfl, hc4, hr4, hl4⟩
              have HR4 := Lib.hid hr4; clear hr4
              have HL4 := Lib.hid (HL3.out.trans hl4); clear hl4
              have hls : xs.length ≤ 65536 := by rw [HX.out.row.len]; omega
              go_wp2_with fail
              refine (same_any A4 A _ c4 n c xs xs w4 HR4.out (HX.out.row.later HL4.out) hls (by omega)).mono ?_
              rw [sameB_self]
              rintro e w5 ⟨rfl, hq5⟩
              have HL5 := Lib.hid (HL4.out.trans (later_of_drew hq5)); clear hq5
              go_wp2_with fail
              refine (HC.out w5).mono ?_
              rintro e w8 ⟨A8, c8, rfl, hc8, hr8, hl8⟩
              have HR8 := Lib.hid hr8; clear hr8
              have HL8 := Lib.hid (HL5.out.trans hl8); clear hl8
              have ht9 := text_any A8 _ c8 L w8 HR8.out hl3 htl
              rw [HT.out] at ht9
              have HT9 := Lib.hid ht9; clear ht9
              go_wp2_with fail
              refine HT9.out.mono ?_
              rintro e w9 ⟨rfl, hl9⟩
              have HL9 := Lib.hid (HL8.out.trans hl9); clear hl9
              go_wp2
              go_ret
              exact ⟨ret_bool (by simp), HL9.out⟩
          · have hw' := hw.symm
            clear hw
            subst hw'
            rw [hsf] at hsuf
            have HSF := Lib.hid hsuf; clear hsuf hsf
            have he2 : ¬ s.toList = [] := by intro h; rw [h] at he; cases he
            go_wp2_with (go_at_call 19; refine HSF.out.mono ?_; rintro e w' ⟨rfl, rfl⟩)
            refine (alive_any _).mono ?_
            rintro e w2 ⟨rfl, hl2⟩
            have HL2 := Lib.hid (HL1.out.trans hl2); clear hl2
            cases b
            · clear HWH
              go_wp2_with fail
              refine (HC.out w2).mono ?_
              rintro e w8 ⟨A8, c8, rfl, hc8, hr8, hl8⟩
              have HR8 := Lib.hid hr8; clear hr8
              have HL8 := Lib.hid (HL2.out.trans hl8); clear hl8
              have ht9 := text_any A8 _ c8 L w8 HR8.out hl3 htl
              rw [HT.out] at ht9
              have HT9 := Lib.hid ht9; clear ht9
              go_wp2_with fail
              refine HT9.out.mono ?_
              rintro e w9 ⟨rfl, hl9⟩
              have HL9 := Lib.hid (HL8.out.trans hl9); clear hl9
              go_wp2
              go_ret
              exact ⟨ret_bool (by simp), HL9.out⟩
            · have hlx := HWH.out rfl
              have hcx := fun W => cut_any (txt (textL xs)) W hxs
              rw [hlx] at hcx
              have htx := text_any A n c xs w2 (HX.out.row.later HL2.out) (by omega) hxl
              generalize txt (textL xs) = T at hcx htx
              have HCX := Lib.hid hcx; clear hcx
              have HTX := Lib.hid htx; clear htx HWH hlx
              go_wp2_with fail
              refine HTX.out.mono ?_
              rintro e w3 ⟨rfl, hl3'⟩
              have HL3 := Lib.hid (HL2.out.trans hl3'); clear hl3'
              go_wp2_with fail
              refine (HCX.out w3).mono ?_
              rintro e w4 ⟨A4, c4, rfl, hc4, hr4, hl4⟩
              have HR4 := Lib.hid hr4; clear hr4
              have HL4 := Lib.hid (HL3.out.trans hl4); clear hl4
              have hls : xs.length ≤ 65536 := by rw [HX.out.row.len]; omega
              go_wp2_with fail
              refine (same_any A4 A _ c4 n c xs xs w4 HR4.out (HX.out.row.later HL4.out) hls (by omega)).mono ?_
              rw [sameB_self]
              rintro e w5 ⟨rfl, hq5⟩
              have HL5 := Lib.hid (HL4.out.trans (later_of_drew hq5)); clear hq5
              go_wp2_with fail
              refine (HC.out w5).mono ?_
              rintro e w8 ⟨A8, c8, rfl, hc8, hr8, hl8⟩
              have HR8 := Lib.hid hr8; clear hr8
              have HL8 := Lib.hid (HL5.out.trans hl8); clear hl8
              have ht9 := text_any A8 _ c8 L w8 HR8.out hl3 htl
              rw [HT.out] at ht9
              have HT9 := Lib.hid ht9; clear ht9
              go_wp2_with fail
              refine HT9.out.mono ?_
              rintro e w9 ⟨rfl, hl9⟩
              have HL9 := Lib.hid (HL8.out.trans hl9); clear hl9
              go_wp2
              go_ret
              exact ⟨ret_bool (by simp), HL9.out⟩
          · have hw' := hw.symm
            clear hw
            subst hw'
            rw [hsf] at hsuf
            have HSF := Lib.hid hsuf; clear hsuf hsf
            have he2 : ¬ s.toList = [] := by intro h; rw [h] at he; cases he
            go_wp2_with (go_at_call 19; refine HSF.out.mono ?_; rintro e w' ⟨rfl, rfl⟩)
            refine (alive_any _).mono ?_
            rintro e w2 ⟨rfl, hl2⟩
            have HL2 := Lib.hid (HL1.out.trans hl2); clear hl2
            cases b
            · clear HWH
              go_wp2_with fail
              refine (HC.out w2).mono ?_
              rintro e w8 ⟨A8, c8, rfl, hc8, hr8, hl8⟩
              have HR8 := Lib.hid hr8; clear hr8
              have HL8 := Lib.hid (HL2.out.trans hl8); clear hl8
              have ht9 := text_any A8 _ c8 L w8 HR8.out hl3 htl
              rw [HT.out] at ht9
              have HT9 := Lib.hid ht9; clear ht9
              go_wp2_with fail
              refine HT9.out.mono ?_
              rintro e w9 ⟨rfl, hl9⟩
              have HL9 := Lib.hid (HL8.out.trans hl9); clear hl9
              go_wp2
              go_ret
              exact ⟨ret_bool (by simp), HL9.out⟩
            · have hlx := HWH.out rfl
              have hcx := fun W => cut_any (txt (textL xs)) W hxs
              rw [hlx] at hcx
              have htx := text_any A n c xs w2 (HX.out.row.later HL2.out) (by omega) hxl
              generalize txt (textL xs) = T at hcx htx
              have HCX := Lib.hid hcx; clear hcx
              have HTX := Lib.hid htx; clear htx HWH hlx
              go_wp2_with fail
              refine HTX.out.mono ?_
              rintro e w3 ⟨rfl, hl3'⟩
              have HL3 := Lib.hid (HL2.out.trans hl3'); clear hl3'
              go_wp2_with fail
              refine (HCX.out w3).mono ?_
              rintro e w4 ⟨A4, c4, rfl, hc4, hr4, hl4⟩
              have HR4 := Lib.hid hr4; clear hr4
              have HL4 := Lib.hid (HL3.out.trans hl4); clear hl4
              have hls : xs.length ≤ 65536 := by rw [HX.out.row.len]; omega
              go_wp2_with fail
              refine (same_any A4 A _ c4 n c xs xs w4 HR4.out (HX.out.row.later HL4.out) hls (by omega)).mono ?_
              rw [sameB_self]
              rintro e w5 ⟨rfl, hq5⟩
              have HL5 := Lib.hid (HL4.out.trans (later_of_drew hq5)); clear hq5
              go_wp2_with fail
              refine (HC.out w5).mono ?_
              rintro e w8 ⟨A8, c8, rfl, hc8, hr8, hl8⟩
              have HR8 := Lib.hid hr8; clear hr8
              have HL8 := Lib.hid (HL5.out.trans hl8); clear hl8
              have ht9 := text_any A8 _ c8 L w8 HR8.out hl3 htl
              rw [HT.out] at ht9
              have HT9 := Lib.hid ht9; clear ht9
              go_wp2_with fail
              refine HT9.out.mono ?_
              rintro e w9 ⟨rfl, hl9⟩
              have HL9 := Lib.hid (HL8.out.trans hl9); clear hl9
              go_wp2
              go_ret
              exact ⟨ret_bool (by simp), HL9.out⟩

end Go.Proofs.Ytimljhmbaobgnaa
