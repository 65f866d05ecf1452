/-
  The law that what was spliced, spliced back, is as it was, as a call.
-/
import Derived.Test.YtimljhmbaobgnaaWalk18
namespace Go.Proofs.Ytimljhmbaobgnaa
open Go.RowKit

set_option maxHeartbeats 2000000 in
theorem lawAgain (A B C : Option Addr) (n c m d p q : Nat) (xs ys zs : List ByteArray) (k : Int) (w : World) (hx : Came w A n c xs) (hy : Came w B m d ys) (hz : Came w C p q zs) (hk0 : -9223372036854775808 ≤ k) (hk1 : k ≤ 9223372036854775807) :
    Calls Try.prog 7 #[.slice A n c, .int .i64 k, .agg #[.slice B m d, .slice C p q]] w fun e w' => e = .returned (.bool true) ∧ Later w w' := by
  have hl0 : Later w (w.alloc (.cells #[.slice B m d, .slice C p q] 34)) := (Later.refl w).alloc _
  have F := few3 A B C n c m d p q xs ys zs _ (hx.later hl0) (hy.later hl0) (hz.later hl0)
  rw [show (w.alloc (.cells #[.slice B m d, .slice C p q] 34)).heap.size = w.heap.size + 1 from by simp] at F
  have HF := Lib.hid F; clear F
  have hbox := box_stays w (.slice B m d) (.slice C p q) 34
  have HBX := Lib.hid hbox; clear hbox
  have hrc := hx.room
  have HX := Lib.hid hx; clear hx
  have HY := Lib.hid hy; clear hy
  have HZ := Lib.hid hz; clear hz
  have HL0 := Lib.hid hl0; clear hl0
  go_enter Try.func7, Try.ntmps7
  go_wp2_with fail
  refine HF.out.mono ?_
  rintro e w1 ⟨b, rfl, hb, rfl⟩
  have hlb : Later (w.alloc (.cells #[.slice B m d, .slice C p q] 34)) ((w.alloc (.cells #[.slice B m d, .slice C p q] 34)).alloc (.cells #[.slice A n c, .slice B m d, .slice C p q] 22)) := (Later.refl _).alloc _
  generalize ((w.alloc (.cells #[.slice B m d, .slice C p q] 34)).alloc (.cells #[.slice A n c, .slice B m d, .slice C p q] 22)) = w1 at hlb ⊢
  generalize w.alloc (.cells #[.slice B m d, .slice C p q] 34) = wb at HL0 hlb HBX
  have HL1 := Lib.hid hlb; clear hlb HF
  cases b
  · clear hb
    go_wp2_with fail
    refine (alive_any _).mono ?_
    rintro e w2 ⟨rfl, hl2⟩
    go_wp2
    go_ret
    exact ⟨rfl, HL0.out.trans (HL1.out.trans hl2)⟩
  · have hb' := hb rfl
    clear hb
    obtain ⟨q0, q1⟩ := HBX.out w1 HL1.out
    have hx1 := HX.out.row.later (HL0.out.trans HL1.out)
    have hy1 := HY.out.row.later (HL0.out.trans HL1.out)
    have hz1 := HZ.out.row.later (HL0.out.trans HL1.out)
    cases hst : standsB xs k ys
    · have hsp := splice_no A B C n c m d p q xs ys k w1 hx1 hy1 hrc (by omega) (by omega) hk0 hk1 hst
      have HSP := Lib.hid hsp
      clear hsp hx1 hy1 hz1 hst
      go_wp2_with fail
      refine HSP.out.mono ?_
      rintro e w2 ⟨rfl, hq2⟩
      have hl2 := later_of_drew hq2
      have HL2 := Lib.hid (HL1.out.trans hl2)
      clear hq2 q0 q1
      go_wp2_with fail
      refine (alive_any _).mono ?_
      rintro e w3 ⟨rfl, hl3⟩
      go_wp2
      go_ret
      exact ⟨rfl, HL0.out.trans (HL2.out.trans hl3)⟩
    · have hkn := (standsB_le hst).1
      obtain ⟨k', rfl⟩ := Int.eq_ofNat_of_zero_le hkn
      have hsp := splice_yes A B C n c m d p q xs ys zs k' w1 hx1 hy1 hz1 hrc (by omega) (by omega) (by omega) hst
      have hsb := stands_back (with_ := zs) hst
      have hbk := spliced_back (with_ := zs) hst
      have hln := spliced_length (with_ := zs) hst
      rw [hy1.len] at hsb hbk hln
      rw [hz1.len] at hbk hln
      rw [hx1.len] at hln
      have hin := (stands_eq hst).1
      rw [hx1.len, hy1.len] at hin
      have HSP := Lib.hid hsp
      clear hsp hx1 hy1 hz1 hst hkn
      generalize spliced xs k' m zs = S at hsb hbk hln HSP
      have HSB := Lib.hid hsb; clear hsb
      have HBK := Lib.hid hbk; clear hbk
      obtain ⟨sl, hsl⟩ : ∃ sl, S.length = sl := ⟨_, rfl⟩
      rw [hsl] at hln
      have HSL := Lib.hid hsl; clear hsl
      go_wp2_with fail
      refine HSP.out.mono ?_
      rintro e w2 ⟨A2, c2, rfl, hc2, hr2, hl2⟩
      rw [HSL.out] at hc2 hr2 ⊢
      have HL2 := Lib.hid (HL1.out.trans hl2)
      have hsp2 := splice_yes A2 C B sl c2 p q m d S zs ys k' w2 hr2 (HZ.out.row.later (HL0.out.trans HL2.out)) (HY.out.row.later (HL0.out.trans HL2.out)) hc2 (by omega) (by omega) (by omega) HSB.out
      rw [HBK.out] at hsp2
      have HSP2 := Lib.hid hsp2
      clear q0 q1 hr2 hsp2
      obtain ⟨q2, q3⟩ := HBX.out w2 HL2.out
      go_wp2_with fail
      refine HSP2.out.mono ?_
      rintro e w3 ⟨A3, c3, rfl, hc3, hr3, hl3⟩
      have HL3 := Lib.hid (HL2.out.trans hl3)
      have HR3 := Lib.hid hr3
      clear q2 q3 hr3
      go_wp2_with fail
      refine (alive_any _).mono ?_
      rintro e w4 ⟨rfl, hl4⟩
      have HL4 := Lib.hid (HL3.out.trans hl4)
      have hxl : xs.length ≤ 65536 := by rw [HX.out.row.len]; omega
      go_wp2_with fail
      refine (refSame_any A3 A _ c3 n c xs xs w4 (HR3.out.later hl4) (HX.out.row.later (HL0.out.trans HL4.out)) hxl (by omega)).mono ?_
      rw [sameB_self]
      rintro e w5 ⟨rfl, hq5⟩
      have hl5 := later_of_drew hq5
      have HL5 := Lib.hid (HL4.out.trans hl5)
      clear hq5
      obtain ⟨q4, q5⟩ := HBX.out w5 HL5.out
      have hfin : ((sl : Int) == (n : Int) - m + p) = true := by simp; omega
      go_wp2
      go_ret
      exact ⟨ret_bool (by simp), HL0.out.trans HL5.out⟩

end Go.Proofs.Ytimljhmbaobgnaa
