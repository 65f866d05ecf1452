/-
  What the law TreeSame comes to, as a call.
-/
import Derived.Test.YtbjbimahmbapdaaDoorWBack
import Derived.Test.YtbjbimahmbapdaaDoorTrInj
namespace Go.Proofs.YtbjbimahmbapdaaDoor
open Go.RowKit Go.Maps

theorem sameT_comm (a b : Tr) : sameT a b = sameT b a := by
  simp only [sameT]
  by_cases h : a = b
  · subst h; rfl
  · simp [h]; exact fun e => h e.symm

set_option maxRecDepth 100000 in
set_option maxHeartbeats 1000000 in
theorem lawSame (A : Option Addr) (n c : Nat) (os : List OpC) (A' : Option Addr) (n' c' : Nat) (os' : List OpC) (w : World) (hx : CameS w A n os) (hy : CameS w A' n' os') (htab : Tab w) :
    Calls Tryd.prog 5 #[.slice A n c, .slice A' n' c'] w (Says true w) := by
  have HF := Lib.hid (few_any A n c os w hx.script hx.many hx.weigh)
  have HF' := Lib.hid (fun (w1 : World) (h : Later w w1) => few_any A' n' c' os' w1 (hy.script.later h) hy.many hy.weigh)
  have HX := Lib.hid hx; have HY := Lib.hid hy; have HTB := Lib.hid htab
  have hbd : fewN n (weightL os) ≤ 4000000 := by have h1 := hx.many; have h2 := hx.weigh; unfold fewN; split <;> omega
  have hbd' : fewN n' (weightL os') ≤ 4000000 := by have h1 := hy.many; have h2 := hy.weigh; unfold fewN; split <;> omega
  have hz := @few_zero n (weightL os)
  have hz' := @few_zero n' (weightL os')
  generalize fewN n (weightL os) = fw at HF hbd hz
  generalize fewN n' (weightL os') = fw' at HF' hbd' hz'
  have HZ := Lib.hid hz; have HZ' := Lib.hid hz'
  clear hx hy htab hz hz'
  by_cases h0 : fw = 0
  · obtain ⟨hn80, hW80⟩ := HZ.out.1 h0
    subst h0
    by_cases h1 : fw' = 0
    · obtain ⟨hn81, hW81⟩ := HZ'.out.1 h1
      subst h1
      have hfit := made_fits HX.out.script hW80
      have hfit' := made_fits HY.out.script hW81
      have HSM := Lib.hid (hfit.small (by omega)); have HSM' := Lib.hid (hfit'.small (by omega))
      have htl := text_le hfit
      have htl' := text_le hfit'
      have hmany := HSM.out.many
      have hmany' := HSM'.out.many
      have HIN : Hid (textT (madeT os) = textT (madeT os') → madeT os = madeT os') := text_inj hfit hfit'
      clear hfit hfit'
      go_enter Tryd.func5, Tryd.ntmps5
      go_wp2_with fail
      refine HF.out.mono ?_
      rintro e w1 ⟨rfl, hl1⟩
      have HL1 := Lib.hid hl1; clear hl1
      go_wp2_with fail
      refine (HF'.out w1 HL1.out).mono ?_
      rintro e w2 ⟨rfl, hl2⟩
      have HL2 := Lib.hid (HL1.out.trans hl2); clear hl2
      go_wp2_with fail
      refine (made_any A n c os w2 (HX.out.script.later HL2.out) hn80 hW80).mono ?_
      rintro e w3 ⟨p, B, v, rfl, ht3, hr3, -, -, hl3⟩
      have HT3 := Lib.hid ht3; have HR3 := Lib.hid hr3; have HL3 := Lib.hid (HL2.out.trans hl3)
      clear ht3 hr3 hl3
      go_wp2_with fail
      refine (made_any A' n' c' os' w3 (HY.out.script.later HL3.out) hn81 hW81).mono ?_
      rintro e w4 ⟨p', B', v', rfl, ht4, hr4, -, -, hl4⟩
      have HT4 := Lib.hid (HT3.out.later hl4); have HR4 := Lib.hid (HR3.out.later hl4); have HT4' := Lib.hid ht4; have HR4' := Lib.hid hr4; have HL4 := Lib.hid (HL3.out.trans hl4)
      clear ht4 hr4 hl4
      generalize madeT os = t at *
      generalize madeT os' = t' at *
      have HSY := Lib.hid (sameT_comm t' t)
      go_wp2_with fail
      refine (refSameAt_any v v' t t' w4 HR4.out HR4'.out (by omega) (by omega) HSM.out.lines HSM'.out.lines).mono ?_
      rintro e w5 ⟨rfl, hd5⟩
      have HL5 := Lib.hid hd5.later; clear hd5
      by_cases htt : t = t'
      · subst htt
        rw [sameT_self]
        go_wp2_with fail
        refine (alive_any w5 (HTB.out.later (HL4.out.trans HL5.out))).mono ?_
        rintro e w6 ⟨rfl, hl6⟩
        have HL6 := Lib.hid (HL5.out.trans hl6); clear hl6
        go_wp2_with fail
        refine (sameTree_any p B p' B' t t w6 (HT4.out.later HL6.out) (HT4'.out.later HL6.out) HSM.out.lines HSM.out.lines).mono ?_
        rw [sameT_self]
        rintro e w7 ⟨rfl, hl7⟩
        have HL7 := Lib.hid (HL6.out.trans hl7); clear hl7
        go_wp2_with fail
        refine (sameTree_any p' B' p B t t w7 (HT4'.out.later HL7.out) (HT4.out.later HL7.out) HSM.out.lines HSM.out.lines).mono ?_
        rw [sameT_self]
        rintro e w8 ⟨rfl, hl8⟩
        have HL8 := Lib.hid (HL7.out.trans hl8); clear hl8
        go_wp2_with fail
        refine (treeText_any p B t w8 (HT4.out.later HL8.out) (HTB.out.later (HL4.out.trans HL8.out)) (by omega) (by omega) (fun f hf => ⟨HSM.out.names f hf, HSM.out.lines f hf⟩)).mono ?_
        rintro e w9 ⟨rfl, hl9⟩
        have HL9 := Lib.hid (HL8.out.trans hl9); clear hl9
        go_wp2_with fail
        refine (treeText_any p' B' t w9 (HT4'.out.later HL9.out) (HTB.out.later (HL4.out.trans HL9.out)) (by omega) (by omega) (fun f hf => ⟨HSM.out.names f hf, HSM.out.lines f hf⟩)).mono ?_
        rintro e w10 ⟨rfl, hl10⟩
        have HL10 := Lib.hid (HL9.out.trans hl10); clear hl10
        generalize txt (textT t) = tx
        go_wp2_with fail
        refine (copy_any p B t w10 (HT4.out.later HL10.out) (by omega) HSM.out.lines).mono ?_
        rintro e w11 ⟨p5, B5, rfl, ht11, -, -, hl11⟩
        have HT11 := Lib.hid ht11; have HL11 := Lib.hid (HL10.out.trans hl11); clear ht11 hl11
        go_wp2_with fail
        refine (sameTree_any p B p5 B5 t t w11 (HT4.out.later HL11.out) HT11.out HSM.out.lines HSM.out.lines).mono ?_
        rw [sameT_self]
        rintro e w12 ⟨rfl, hl12⟩
        have HL12 := Lib.hid ((HL4.out.trans HL11.out).trans hl12); clear hl12
        go_wp2
        go_ret
        exact ⟨rfl, HL12.out⟩
      · rw [sameT_no htt]
        have HSN := Lib.hid (sameT_no htt); have HSN' := Lib.hid (HSY.out.trans (sameT_no htt))
        have htx : txt (textT t) ≠ txt (textT t') := fun e => htt (HIN.out (txt_inj e))
        have hbx := text_ne htx
        have HBX := Lib.hid hbx
        clear htx hbx htt
        go_wp2_with fail
        refine (alive_any w5 (HTB.out.later (HL4.out.trans HL5.out))).mono ?_
        rintro e w6 ⟨rfl, hl6⟩
        have HL6 := Lib.hid (HL5.out.trans hl6); clear hl6
        go_wp2_with fail
        refine (sameTree_any p B p' B' t t' w6 (HT4.out.later HL6.out) (HT4'.out.later HL6.out) HSM.out.lines HSM'.out.lines).mono ?_
        rw [HSN.out]
        rintro e w7 ⟨rfl, hl7⟩
        have HL7 := Lib.hid (HL6.out.trans hl7); clear hl7
        go_wp2_with fail
        refine (sameTree_any p' B' p B t' t w7 (HT4'.out.later HL7.out) (HT4.out.later HL7.out) HSM'.out.lines HSM.out.lines).mono ?_
        rw [HSN'.out]
        rintro e w8 ⟨rfl, hl8⟩
        have HL8 := Lib.hid (HL7.out.trans hl8); clear hl8
        go_wp2_with fail
        refine (treeText_any p B t w8 (HT4.out.later HL8.out) (HTB.out.later (HL4.out.trans HL8.out)) (by omega) (by omega) (fun f hf => ⟨HSM.out.names f hf, HSM.out.lines f hf⟩)).mono ?_
        rintro e w9 ⟨rfl, hl9⟩
        have HL9 := Lib.hid (HL8.out.trans hl9); clear hl9
        go_wp2_with fail
        refine (treeText_any p' B' t' w9 (HT4'.out.later HL9.out) (HTB.out.later (HL4.out.trans HL9.out)) (by omega) (by omega) (fun f hf => ⟨HSM'.out.names f hf, HSM'.out.lines f hf⟩)).mono ?_
        rintro e w10 ⟨rfl, hl10⟩
        have HL10 := Lib.hid (HL9.out.trans hl10); clear hl10
        have hbx := HBX.out
        generalize txt (textT t) = tx at hbx ⊢
        generalize txt (textT t') = tx' at hbx ⊢
        clear HBX
        go_wp2_with fail
        refine (copy_any p B t w10 (HT4.out.later HL10.out) (by omega) HSM.out.lines).mono ?_
        rintro e w11 ⟨p5, B5, rfl, ht11, -, -, hl11⟩
        have HT11 := Lib.hid ht11; have HL11 := Lib.hid (HL10.out.trans hl11); clear ht11 hl11
        go_wp2_with fail
        refine (sameTree_any p B p5 B5 t t w11 (HT4.out.later HL11.out) HT11.out HSM.out.lines HSM.out.lines).mono ?_
        rw [sameT_self]
        rintro e w12 ⟨rfl, hl12⟩
        have HL12 := Lib.hid ((HL4.out.trans HL11.out).trans hl12); clear hl12
        go_wp2
        go_ret
        exact ⟨rfl, HL12.out⟩
    · have hd : decide (0 < fw') = true := by simp; omega
      go_enter Tryd.func5, Tryd.ntmps5
      go_wp2_with fail
      refine HF.out.mono ?_
      rintro e w1 ⟨rfl, hl1⟩
      have HL1 := Lib.hid hl1; clear hl1
      go_wp2_with fail
      refine (HF'.out w1 HL1.out).mono ?_
      rintro e w2 ⟨rfl, hl2⟩
      have HL2 := Lib.hid (HL1.out.trans hl2); clear hl2
      go_wp2_with fail
      refine (alive_any w2 (HTB.out.later HL2.out)).mono ?_
      rintro e w3 ⟨rfl, hl3⟩
      have HL3 := Lib.hid (HL2.out.trans hl3); clear hl3
      go_wp2
      go_ret
      exact ⟨rfl, HL3.out⟩
  · have hd : decide (0 < fw) = true := by simp; omega
    go_enter Tryd.func5, Tryd.ntmps5
    go_wp2_with fail
    refine HF.out.mono ?_
    rintro e w1 ⟨rfl, hl1⟩
    have HL1 := Lib.hid hl1; clear hl1
    go_wp2_with fail
    refine (alive_any w1 (HTB.out.later HL1.out)).mono ?_
    rintro e w2 ⟨rfl, hl2⟩
    have HL2 := Lib.hid (HL1.out.trans hl2); clear hl2
    go_wp2
    go_ret
    exact ⟨rfl, HL2.out⟩

end Go.Proofs.YtbjbimahmbapdaaDoor
