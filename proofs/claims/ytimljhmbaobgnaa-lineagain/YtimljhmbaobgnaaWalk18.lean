/-
  The law on Splice, as a call.
-/
import Derived.Test.YtimljhmbaobgnaaWalk17
namespace Go.Proofs.Ytimljhmbaobgnaa
open Go.RowKit

/-- A struct of two rows, laid in memory: its cells stay. -/
theorem box_stays (w : World) (u v : Value) (t : TypeId) : ∀ W, Later (w.alloc (.cells #[u, v] t)) W → W.cell? ⟨w.heap.size, 0, none⟩ = some u ∧ W.cell? ⟨w.heap.size, 1, none⟩ = some v := fun W hW =>
  ⟨hW.cell (by simp), hW.cell (by simp)⟩

set_option maxHeartbeats 2000000 in
theorem lawSplices (A B C : Option Addr) (n c m d p q : Nat) (xs ys zs : List ByteArray) (k : Int) (w : World) (hx : Came w A n c xs) (hy : Came w B m d ys) (hz : Came w C p q zs) (hk0 : -9223372036854775808 ≤ k) (hk1 : k ≤ 9223372036854775807) :
    Calls Try.prog 6 #[.slice A n c, .int .i64 k, .agg #[.slice B m d, .slice C p q]] w fun e w' => e = .returned (.bool true) ∧ Later w w' := by
  obtain ⟨i0, hi, hz0, hz1, hz2⟩ := info_parts Try.textInfo
  have hl0 : Later w (w.alloc (.cells #[.slice B m d, .slice C p q] 34)) := (Later.refl w).alloc _
  have F := few3 A B C n c m d p q xs ys zs _ (hx.later hl0) (hy.later hl0) (hz.later hl0)
  rw [show (w.alloc (.cells #[.slice B m d, .slice C p q] 34)).heap.size = w.heap.size + 1 from by simp] at F
  have HF := Lib.hid F; clear F
  have hbox := box_stays w (.slice B m d) (.slice C p q) 34
  have HBX := Lib.hid hbox; clear hbox
  have hrc := hx.room
  have HX := Lib.hid hx; clear hx
  have HY := Lib.hid hy; clear hy
  have HZ := Lib.hid hz; clear hz
  have HL0 := Lib.hid hl0; clear hl0
  go_enter Try.func6, Try.ntmps6
  go_wp2_with fail
  refine HF.out.mono ?_
  rintro e w1 ⟨b, rfl, hb, rfl⟩
  have hlb : Later (w.alloc (.cells #[.slice B m d, .slice C p q] 34)) ((w.alloc (.cells #[.slice B m d, .slice C p q] 34)).alloc (.cells #[.slice A n c, .slice B m d, .slice C p q] 22)) := (Later.refl _).alloc _
  generalize ((w.alloc (.cells #[.slice B m d, .slice C p q] 34)).alloc (.cells #[.slice A n c, .slice B m d, .slice C p q] 22)) = w1 at hlb ⊢
  generalize w.alloc (.cells #[.slice B m d, .slice C p q] 34) = wb at HL0 hlb HBX
  have HL1 := Lib.hid hlb; clear hlb HF
  cases b
  · clear hb
    go_wp2_with fail
    refine (alive_any _).mono ?_
    rintro e w2 ⟨rfl, hl2⟩
    go_wp2
    go_ret
    exact ⟨rfl, HL0.out.trans (HL1.out.trans hl2)⟩
  · have hb' := hb rfl
    clear hb
    have hx1 := HX.out.row.later (HL0.out.trans HL1.out)
    have HX1 := Lib.hid hx1; clear hx1
    have hxl : xs.length ≤ 300 := by rw [HX1.out.len]; omega
    go_wp2_with (first
      | (at_builtin; refine wpList_append_row (w0 := w1) rfl _ _ 22 rfl i0 Try.underlying22 hi hz0 hz1 hz2 (Own.empty (Later.refl w1)) rfl _ _ _ _ rfl (HX1.out.later ((Later.refl _).alloc _)) (by simp; omega) ?_; intro v2 w2 hown2 hg2; have HO2 := Lib.hid hown2; clear hown2 hg2)
      | (at_builtin; refine wpList_append_row rfl _ _ 22 rfl i0 Try.underlying22 hi hz0 hz1 hz2 (HO2.out.alloc _) rfl _ _ _ _ rfl (Row.one _ _ _) (by simp; omega) ?_))
    intro v3 w3 hown3 _
    obtain ⟨A3, c3, hv3, hcc3, hr3⟩ := hown3.row
    have el : (xs ++ [(⟨#[109, 111, 114, 101]⟩ : ByteArray)]).length = n + 1 := by simp [HX1.out.len]
    rw [el] at hv3 hcc3 hr3
    have HL3 := Lib.hid (HL1.out.trans hown3.later)
    rw [hv3]
    clear hv3 hown3 el
    obtain ⟨b3, o3, rfl, g3⟩ := hr3.get (show n < n + 1 by omega)
    have eg : (xs ++ [(⟨#[109, 111, 114, 101]⟩ : ByteArray)]).getD n ByteArray.empty = ⟨#[109, 111, 114, 101]⟩ := by simp [List.getD, ← HX1.out.len]
    rw [eg] at g3
    have hr3' := hr3.take (show n ≤ n + 1 by omega)
    have et : (xs ++ [(⟨#[109, 111, 114, 101]⟩ : ByteArray)]).take n = xs := by simp [← HX1.out.len]
    rw [et] at hr3'
    have HR3 := Lib.hid hr3'
    have HG3 := Lib.hid g3
    clear hr3 hr3' eg et g3
    obtain ⟨q0, q1⟩ := HBX.out w3 HL3.out
    have hnc : (n : Int) ≤ c3 := by omega
    have hncn : n ≤ c3 := by omega
    have hy3 := HY.out.row.later (HL0.out.trans HL3.out)
    have hz3 := HZ.out.row.later (HL0.out.trans HL3.out)
    cases hst : standsB xs k ys
    · have hsp := splice_no (some ⟨b3, o3, none⟩) B C n c3 m d p q xs ys k w3 HR3.out hy3 hncn (by omega) (by omega) hk0 hk1 hst
      have HSP := Lib.hid hsp
      have HST := Lib.hid hst
      clear hsp hy3 hz3 hst
      go_wp2_with fail
      refine HSP.out.mono ?_
      rintro e w4 ⟨rfl, hq4⟩
      have hl4 := later_of_drew hq4
      have HL4 := Lib.hid (HL3.out.trans hl4)
      clear hq4 q0 q1
      obtain ⟨q0, q1⟩ := HBX.out w4 HL4.out
      have HR4 := Lib.hid (HX.out.row.later (HL0.out.trans HL4.out))
      have hrs := refSplice_any A B C n c m d p q xs ys zs k w4 HR4.out (HY.out.row.later (HL0.out.trans HL4.out)) (HZ.out.row.later (HL0.out.trans HL4.out)) hrc (by omega) (by omega) (by omega) hk0 hk1
      have HRS := Lib.hid hrs; clear hrs
      go_wp2_with fail
      refine HRS.out.mono ?_
      clear q0 q1
      rintro e w5 h
      rcases h with ⟨_, rfl, hl5⟩ | ⟨hs, _⟩
      · clear HRS HSP
        have HL5 := Lib.hid (HL4.out.trans hl5)
        go_wp2_with fail
        refine (alive_any _).mono ?_
        rintro e w6 ⟨rfl, hl6⟩
        have HL6 := Lib.hid (HL5.out.trans hl6)
        go_wp2_with fail
        refine (refSame_any none none 0 0 0 0 [] [] w6 Row.none Row.none (by omega) (by omega)).mono ?_
        rw [sameB_self]
        rintro e w7 ⟨rfl, hq7⟩
        have hl7 := later_of_drew hq7
        have HL7 := Lib.hid (HL6.out.trans hl7)
        clear hq7
        go_wp2_with fail
        refine (refSame_any (some ⟨b3, o3, none⟩) A n c3 n c xs xs w7 (HR3.out.later (((hl4.trans hl5).trans hl6).trans hl7)) (HX.out.row.later (HL0.out.trans HL7.out)) (by omega) (by omega)).mono ?_
        rw [sameB_self]
        rintro e w8 ⟨rfl, hq8⟩
        have hl8 := later_of_drew hq8
        have HL8 := Lib.hid (HL7.out.trans hl8)
        clear hq8
        have g8 := ((((hl4.trans hl5).trans hl6).trans hl7).trans hl8).cell HG3.out
        have hcz : ¬ c3 = 0 := by omega
        have n1 : (n : Int) + 1 ≤ c3 := by omega
        have n2 : (0 : Int) ≤ (n : Int) + 1 := by omega
        have n3 : ((n : Int) + 1).toNat = n + 1 := by omega
        have n4 : (n : Int) < (n : Int) + 1 := by omega
        go_wp2
        go_ret
        exact ⟨rfl, HL0.out.trans HL8.out⟩
      · rw [HST.out] at hs; cases hs
    · have hkn := (standsB_le hst).1
      obtain ⟨k', rfl⟩ := Int.eq_ofNat_of_zero_le hkn
      have hsp := splice_yes (some ⟨b3, o3, none⟩) B C n c3 m d p q xs ys zs k' w3 HR3.out hy3 hz3 hncn (by omega) (by omega) (by omega) hst
      have hlen : (spliced xs k' m zs).length ≤ 65536 := by
        rw [spliced, List.length_append, List.length_append, List.length_take, List.length_drop, HX1.out.len, HZ.out.row.len]; omega
      have HSP := Lib.hid hsp
      have HST := Lib.hid hst
      clear hsp hy3 hz3 hst hkn
      go_wp2_with fail
      refine HSP.out.mono ?_
      rintro e w4 ⟨A4, c4, rfl, hc4, hr4, hl4⟩
      have HL4 := Lib.hid (HL3.out.trans hl4)
      have HRW4 := Lib.hid hr4; clear hr4
      clear q0 q1
      obtain ⟨q0, q1⟩ := HBX.out w4 HL4.out
      have HR4 := Lib.hid (HX.out.row.later (HL0.out.trans HL4.out))
      have hrs := refSplice_any A B C n c m d p q xs ys zs k' w4 HR4.out (HY.out.row.later (HL0.out.trans HL4.out)) (HZ.out.row.later (HL0.out.trans HL4.out)) hrc (by omega) (by omega) (by omega) hk0 hk1
      have HRS := Lib.hid hrs; clear hrs
      go_wp2_with fail
      refine HRS.out.mono ?_
      clear q0 q1
      rintro e w5 h
      rcases h with ⟨hs, _⟩ | ⟨_, A5, c5, rfl, hc5, hr5, hl5⟩
      · rw [HST.out] at hs; cases hs
      · rw [Int.toNat_natCast] at hr5 hc5 ⊢
        have HRW5 := Lib.hid hr5; clear hr5
        clear HRS HSP
        generalize spliced xs k' m zs = S at hlen HRW4 HRW5 hc4 hc5 ⊢
        have HL5 := Lib.hid (HL4.out.trans hl5)
        go_wp2_with fail
        refine (alive_any _).mono ?_
        rintro e w6 ⟨rfl, hl6⟩
        have HL6 := Lib.hid (HL5.out.trans hl6)
        go_wp2_with fail
        refine (refSame_any A4 A5 _ c4 _ c5 S S w6 (HRW4.out.later (hl5.trans hl6)) (HRW5.out.later hl6) hlen hlen).mono ?_
        rw [sameB_self]
        rintro e w7 ⟨rfl, hq7⟩
        have hl7 := later_of_drew hq7
        have HL7 := Lib.hid (HL6.out.trans hl7)
        clear hq7
        go_wp2_with fail
        refine (refSame_any (some ⟨b3, o3, none⟩) A n c3 n c xs xs w7 (HR3.out.later (((hl4.trans hl5).trans hl6).trans hl7)) (HX.out.row.later (HL0.out.trans HL7.out)) (by omega) (by omega)).mono ?_
        rw [sameB_self]
        rintro e w8 ⟨rfl, hq8⟩
        have hl8 := later_of_drew hq8
        have HL8 := Lib.hid (HL7.out.trans hl8)
        clear hq8
        have g8 := ((((hl4.trans hl5).trans hl6).trans hl7).trans hl8).cell HG3.out
        have hcz : ¬ c3 = 0 := by omega
        have n1 : (n : Int) + 1 ≤ c3 := by omega
        have n2 : (0 : Int) ≤ (n : Int) + 1 := by omega
        have n3 : ((n : Int) + 1).toNat = n + 1 := by omega
        have n4 : (n : Int) < (n : Int) + 1 := by omega
        go_wp2
        go_ret
        exact ⟨rfl, HL0.out.trans HL8.out⟩

end Go.Proofs.Ytimljhmbaobgnaa
