/-
  The law on Cut and Text, as a call.
-/
import Derived.Test.YtimljhmbaobgnaaWalk15
namespace Go.Proofs.Ytimljhmbaobgnaa
open Go.RowKit

set_option maxHeartbeats 1000000 in
theorem lawCuts (s : ByteArray) (A : Option Addr) (n c : Nat) (xs : List ByteArray) (w : World) (hs : s.size ≤ 140737488355328) (hx : Came w A n c xs) :
    Calls Try.prog 3 #[.string s, .slice A n c] w fun e w' => e = .returned (.bool true) ∧ Later w w' := by
  have F := Lib.hid (few1 A n c xs w hx)
  have HX := Lib.hid hx; clear hx
  by_cases hbig : 3000 < s.size
  · have hd : decide ((3000 : Int) < s.size) = true := by simp; omega
    go_enter Try.func3, Try.ntmps3
    go_wp2_with fail
    refine (alive_any _).mono ?_
    rintro e w2 ⟨rfl, hl2⟩
    go_wp2
    go_ret
    exact ⟨rfl, hl2⟩
  · have hd : decide ((3000 : Int) < s.size) = false := by simp; omega
    go_enter Try.func3, Try.ntmps3
    go_wp2_with fail
    refine F.out.mono ?_
    rintro e w1 ⟨b, rfl, hb, rfl⟩
    have HL1 := Lib.hid ((Later.refl w).alloc (.cells #[.slice A n c] 22))
    clear F
    cases b
    · clear hb
      go_wp2_with fail
      refine (alive_any _).mono ?_
      rintro e w2 ⟨rfl, hl2⟩
      go_wp2
      go_ret
      exact ⟨rfl, HL1.out.trans hl2⟩
    · have hb' := hb rfl
      clear hb
      have hxl : (textL xs).length ≤ 1000000 := by rw [textL_length, HX.out.row.len]; omega
      have hll := lines_length s
      have htl : (textL (lines s)).length ≤ 1000000 := by have := ended_length s; rw [textL_lines]; omega
      have hcut := fun W => cut_any s W (by omega)
      have hrcut := fun W => refCut_any s W (by omega)
      have hl3 : (lines s).length ≤ 65536 := by omega
      generalize lines s = L at hcut hrcut hll htl hl3
      have HC := Lib.hid hcut; clear hcut
      have HRC := Lib.hid hrcut; clear hrcut
      go_wp2_with fail
      refine (alive_any _).mono ?_
      rintro e w2 ⟨rfl, hl2⟩
      have HL2 := Lib.hid (HL1.out.trans hl2); clear HL1 hl2
      go_wp2_with fail
      refine (HC.out w2).mono ?_
      rintro e w3 ⟨A3, c3, rfl, hc3, hr3, hl3'⟩
      have HL3 := Lib.hid (HL2.out.trans hl3'); clear HL2 hl3'
      have HR3 := Lib.hid hr3; clear hr3
      go_wp2_with fail
      refine (HRC.out w3).mono ?_
      rintro e w4 ⟨A4, c4, rfl, hc4, hr4, hl4⟩
      have HR3' := Lib.hid (HR3.out.later hl4)
      have HL4 := Lib.hid (HL3.out.trans hl4); clear HL3 hl4 HR3
      have HR4 := Lib.hid hr4; clear hr4
      go_wp2_with fail
      refine (same_any A3 A4 _ c3 _ c4 L L w4 HR3'.out HR4.out hl3 hl3).mono ?_
      rw [sameB_self]
      rintro e w5 ⟨rfl, hq5⟩
      have HL5 := Lib.hid (HL4.out.trans (later_of_drew hq5)); clear HL4 hq5 HR3' HR4
      go_wp2_with fail
      refine (text_any A n c xs w5 (HX.out.row.later HL5.out) (by omega) hxl).mono ?_
      rintro e w6 ⟨rfl, hl6⟩
      have HL6 := Lib.hid (HL5.out.trans hl6); clear HL5 hl6
      go_wp2_with fail
      refine (refText_any A n c xs w6 (HX.out.row.later HL6.out) (by omega) hxl).mono ?_
      rintro e w7 ⟨rfl, hl7⟩
      have HL7 := Lib.hid (HL6.out.trans hl7); clear HL6 hl7
      generalize txt (textL xs) = T
      go_wp2_with fail
      refine (HC.out w7).mono ?_
      rintro e w8 ⟨A8, c8, rfl, hc8, hr8, hl8⟩
      have HL8 := Lib.hid (HL7.out.trans hl8); clear HL7 hl8
      have HR8 := Lib.hid hr8; clear hr8
      go_wp2_with fail
      refine (text_any A8 _ c8 L w8 HR8.out hl3 htl).mono ?_
      rintro e w9 ⟨rfl, hl9⟩
      have HL9 := Lib.hid (HL8.out.trans hl9); clear HL8 hl9 HR8
      go_wp2_with fail
      refine (HRC.out w9).mono ?_
      rintro e w10 ⟨A10, c10, rfl, hc10, hr10, hl10⟩
      have HL10 := Lib.hid (HL9.out.trans hl10); clear HL9 hl10
      have HR10 := Lib.hid hr10; clear hr10
      go_wp2_with fail
      refine (refText_any A10 _ c10 L w10 HR10.out hl3 htl).mono ?_
      rintro e w11 ⟨rfl, hl11⟩
      have HL11 := Lib.hid (HL10.out.trans hl11); clear HL10 hl11 HR10
      generalize txt (textL L) = U
      go_wp2
      go_ret
      exact ⟨ret_bool (by simp), HL11.out⟩

end Go.Proofs.Ytimljhmbaobgnaa
