/-
  What the law TreeBack comes to, as a call.
-/
import Derived.Test.YtbjbimahmbapdaaDoorWNames
import Derived.Test.YtbjbimahmbapdaaDoorRfSame
namespace Go.Proofs.YtbjbimahmbapdaaDoor
open Go.RowKit Go.Maps

theorem add_cases (t : Tr) (n : ByteArray) : (hasT t n = false ∧ addT t n = (withT t n [], 0)) ∨ ∃ k : Int, k ≠ 0 ∧ addT t n = (t, k) := by
  unfold addT
  split
  · exact .inr ⟨20, by decide, rfl⟩
  · split
    · exact .inr ⟨21, by decide, rfl⟩
    · rename_i h; exact .inl ⟨by simpa using h, rfl⟩
theorem remove_back {t : Tr} (ht : Rising t) {n : ByteArray} (h : hasT t n = false) : removeT (withT t n []) n = (t, 0) := by
  unfold removeT
  rw [get_with_same ht]
  simp [without_with ht h]
theorem move_cases (t : Tr) (a b : ByteArray) : (∃ l, getT t a = some l ∧ hasT t b = false ∧ moveT t a b = (withT (withoutT t a) b l, 0)) ∨ ∃ k : Int, k ≠ 0 ∧ moveT t a b = (t, k) := by
  unfold moveT
  cases hg : getT t a with
  | none => exact .inr ⟨20, by decide, rfl⟩
  | some l =>
    simp only
    split
    · exact .inr ⟨20, by decide, rfl⟩
    · split
      · exact .inr ⟨21, by decide, rfl⟩
      · rename_i h; exact .inl ⟨l, rfl, by simpa using h, rfl⟩
theorem move_back {t : Tr} (ht : Rising t) {a b : ByteArray} {l : List ByteArray} (hn : namedB a = true) (hg : getT t a = some l) (hb : hasT t b = false) : moveT (withT (withoutT t a) b l) b a = (t, 0) := by
  have hu := rising_without ht a
  have hub := has_without_no hb a
  have hne : a ≠ b := by rintro rfl; rw [getT_has hg] at hb; cases hb
  unfold moveT
  rw [get_with_same hu, has_with_other l hne, has_without_same, without_with hu hub]
  simp [hn, with_without ht hg]
/-- The tree between. -/
theorem move_fits {k : Nat} {t : Tr} (h : Fits k t) {a b : ByteArray} {l : List ByteArray} (hm : moveT t a b = (withT (withoutT t a) b l, 0)) : Fits (k + 1) (withT (withoutT t a) b l) := by
  have := h.move a b
  rwa [hm] at this

set_option maxRecDepth 100000 in
set_option maxHeartbeats 1000000 in
theorem lawBack (A : Option Addr) (n c : Nat) (os : List OpC) (nm to : ByteArray) (w : World) (hx : CameS w A n os) (hnm : nm.size ≤ 1048576) (hto : to.size ≤ 1048576) (htab : Tab w) :
    Calls Tryd.prog 6 #[.slice A n c, .string nm, .string to] w (Says true w) := by
  have HF := Lib.hid (few_any A n c os w hx.script hx.many hx.weigh)
  have HX := Lib.hid hx; have HTB := Lib.hid htab
  have hbd : fewN n (weightL os) ≤ 4000000 := by have h1 := hx.many; have h2 := hx.weigh; unfold fewN; split <;> omega
  have hz := @few_zero n (weightL os)
  generalize fewN n (weightL os) = fw at HF hbd hz
  have HZ := Lib.hid hz
  clear hx htab hz
  by_cases hall : fw = 0 ∧ nm.size ≤ 200 ∧ to.size ≤ 200
  · obtain ⟨h0, hs1, hs2⟩ := hall
    obtain ⟨hn80, hW80⟩ := HZ.out.1 h0
    subst h0
    have hd : decide ((200 : Int) < nm.size) = false := by simp; omega
    have hd2 : decide ((200 : Int) < to.size) = false := by simp; omega
    have hfit := made_fits HX.out.script hW80
    have HFT := Lib.hid hfit
    have HML : Hid (nm.size ≤ maxLen) := by simp only [Hid, maxLen]; omega
    have HML2 : Hid (to.size ≤ maxLen) := by simp only [Hid, maxLen]; omega
    have HSM := Lib.hid (hfit.small (by omega))
    have hmany := HSM.out.many
    clear hfit
    go_enter Tryd.func6, Tryd.ntmps6
    go_wp2_with fail
    refine HF.out.mono ?_
    rintro e w1 ⟨rfl, hl1⟩
    have HL1 := Lib.hid hl1; clear hl1
    go_wp2_with fail
    refine (made_any A n c os w1 (HX.out.script.later HL1.out) hn80 hW80).mono ?_
    rintro e w2 ⟨p, B, v, rfl, ht2, hr2, hp, hB, hl2⟩
    have HT2 := Lib.hid ht2; have HR2 := Lib.hid hr2; have HL2 := Lib.hid (HL1.out.trans hl2)
    have hBw : w.heap.size ≤ B := Nat.le_trans HL1.out.le hB
    clear ht2 hr2 hl2 hp hB
    generalize madeT os = t at *
    have HRS := Lib.hid HT2.out.files.rise
    have HA := Lib.hid (add_any p B nm t w2 HT2.out HML.out (by omega))
    rcases add_cases t nm with ⟨hno, hadd⟩ | ⟨k1, hk1, hadd⟩
    · have HRB := Lib.hid (remove_back HRS.out hno)
      have HLN : Hid (∀ f ∈ withT t nm [], f.2.length ≤ 65536) := fun f hf => by
        rcases mem_with.1 hf with rfl | hf
        · simp
        · exact HSM.out.lines f hf.1
      rw [hadd] at HA
      clear hadd hno
      go_wp2_with fail
      refine HA.out.mono ?_
      rintro e w3 ⟨rfl, ht3, hg3⟩
      have HT3 := Lib.hid ht3; have HL3 := Lib.hid (HL2.out.turn hg3 hBw)
      have HR3 : Hid (RefAt w3 v t) := by
        obtain ⟨es, mc, hmm⟩ := HT2.out.files.map
        exact HR2.out.turned hg3 hmm
      clear ht3 hg3
      go_wp2_with fail
      refine (remove_any p B nm (withT t nm []) w3 HT3.out HML.out HLN.out).mono ?_
      rw [HRB.out]
      rintro e w4 ⟨rfl, ht4, hg4⟩
      have HTw4 := Lib.hid ht4; have HLw4 := Lib.hid (HL3.out.turn hg4 hBw)
      have HRw4 : Hid (RefAt w4 v t) := by
        obtain ⟨es, mc, hmm⟩ := HT3.out.files.map
        exact HR3.out.turned hg4 hmm
      clear ht4 hg4
      go_wp2_with fail
      refine (old_any p B t w4 HTw4.out HSM.out).mono ?_
      rintro e w5 ⟨v5, rfl, hr5, hl5⟩
      have HR5 := Lib.hid hr5; have HL5 := Lib.hid hl5
      clear hr5 hl5
      go_wp2_with fail
      refine (refSameAt_any v5 v t t w5 HR5.out (HRw4.out.later HL5.out) (by omega) (by omega) HSM.out.lines HSM.out.lines).mono ?_
      rw [sameT_self]
      rintro e w6 ⟨rfl, hd6⟩
      have hl6 := HL5.out.trans hd6.later
      have HTw6 := Lib.hid (HTw4.out.later hl6); have HRw6 := Lib.hid (HRw4.out.later hl6); have HLw6 := Lib.hid (HLw4.out.trans hl6)
      clear hd6 hl6
      have HM := Lib.hid (move_any p B nm to t w6 HTw6.out HML.out HML2.out (by omega))
      rcases move_cases t nm to with ⟨l, hg, hb, hm⟩ | ⟨k2, hk2, hm⟩
      · have HMB := Lib.hid (move_back HRS.out (hasT_named HFT.out (getT_has hg)) hg hb)
        have HMS := Lib.hid ((move_fits HFT.out hm).small (by omega))
        have hml := HMS.out.many
        rw [hm] at HM
        generalize withT (withoutT t nm) to l = t7 at HM HMB HMS hml
        clear hg hb hm
        go_wp2_with fail
        refine HM.out.mono ?_
        rintro e w7 ⟨rfl, ht7, hg7⟩
        have HT7 := Lib.hid ht7; have HL7 := Lib.hid (HLw6.out.turn hg7 hBw)
        have HR7 : Hid (RefAt w7 v t) := by
          obtain ⟨es, mc, hmm⟩ := HTw6.out.files.map
          exact HRw6.out.turned hg7 hmm
        clear ht7 hg7
        go_wp2_with fail
        refine (move_any p B to nm t7 w7 HT7.out HML2.out HML.out (by omega)).mono ?_
        rw [HMB.out]
        rintro e w8 ⟨rfl, ht8, hg8⟩
        have HTw8 := Lib.hid ht8; have HLw8 := Lib.hid (HL7.out.turn hg8 hBw)
        have HRw8 : Hid (RefAt w8 v t) := by
          obtain ⟨es, mc, hmm⟩ := HT7.out.files.map
          exact HR7.out.turned hg8 hmm
        clear ht8 hg8
        go_wp2_with fail
        refine (alive_any w8 (HTB.out.later HLw8.out)).mono ?_
        rintro e w20 ⟨rfl, hl20⟩
        have HL20 := Lib.hid hl20; clear hl20
        go_wp2_with fail
        refine (old_any p B t w20 (HTw8.out.later HL20.out) HSM.out).mono ?_
        rintro e w21 ⟨v21, rfl, hr21, hl21⟩
        have HR21 := Lib.hid hr21; have HL21 := Lib.hid (HL20.out.trans hl21)
        clear hr21 hl21
        go_wp2_with fail
        refine (refSameAt_any v21 v t t w21 HR21.out (HRw8.out.later HL21.out) (by omega) (by omega) HSM.out.lines HSM.out.lines).mono ?_
        rw [sameT_self]
        rintro e w22 ⟨rfl, hd22⟩
        have HL22 := Lib.hid ((HLw8.out.trans HL21.out).trans hd22.later); clear hd22
        go_wp2
        go_ret
        exact ⟨rfl, HL22.out⟩

      · rw [hm] at HM
        have hkb : (k2 == 0) = false := by simpa using hk2
        clear hm hk2
        go_wp2_with fail
        refine HM.out.mono ?_
        rintro e w7 ⟨rfl, ht7, hg7⟩
        have HTw7 := Lib.hid ht7; have HLw7 := Lib.hid (HLw6.out.turn hg7 hBw)
        have HRw7 : Hid (RefAt w7 v t) := by
          obtain ⟨es, mc, hmm⟩ := HTw6.out.files.map
          exact HRw6.out.turned hg7 hmm
        clear ht7 hg7
        go_wp2_with fail
        refine (alive_any w7 (HTB.out.later HLw7.out)).mono ?_
        rintro e w20 ⟨rfl, hl20⟩
        have HL20 := Lib.hid hl20; clear hl20
        go_wp2_with fail
        refine (old_any p B t w20 (HTw7.out.later HL20.out) HSM.out).mono ?_
        rintro e w21 ⟨v21, rfl, hr21, hl21⟩
        have HR21 := Lib.hid hr21; have HL21 := Lib.hid (HL20.out.trans hl21)
        clear hr21 hl21
        go_wp2_with fail
        refine (refSameAt_any v21 v t t w21 HR21.out (HRw7.out.later HL21.out) (by omega) (by omega) HSM.out.lines HSM.out.lines).mono ?_
        rw [sameT_self]
        rintro e w22 ⟨rfl, hd22⟩
        have HL22 := Lib.hid ((HLw7.out.trans HL21.out).trans hd22.later); clear hd22
        go_wp2
        go_ret
        exact ⟨rfl, HL22.out⟩

    · rw [hadd] at HA
      have hka : (k1 == 0) = false := by simpa using hk1
      clear hadd hk1
      go_wp2_with fail
      refine HA.out.mono ?_
      rintro e w4 ⟨rfl, ht4, hg4⟩
      have HTw4 := Lib.hid ht4; have HLw4 := Lib.hid (HL2.out.turn hg4 hBw)
      have HRw4 : Hid (RefAt w4 v t) := by
        obtain ⟨es, mc, hmm⟩ := HT2.out.files.map
        exact HR2.out.turned hg4 hmm
      clear ht4 hg4
      go_wp2_with fail
      refine (old_any p B t w4 HTw4.out HSM.out).mono ?_
      rintro e w5 ⟨v5, rfl, hr5, hl5⟩
      have HR5 := Lib.hid hr5; have HL5 := Lib.hid hl5
      clear hr5 hl5
      go_wp2_with fail
      refine (refSameAt_any v5 v t t w5 HR5.out (HRw4.out.later HL5.out) (by omega) (by omega) HSM.out.lines HSM.out.lines).mono ?_
      rw [sameT_self]
      rintro e w6 ⟨rfl, hd6⟩
      have hl6 := HL5.out.trans hd6.later
      have HTw6 := Lib.hid (HTw4.out.later hl6); have HRw6 := Lib.hid (HRw4.out.later hl6); have HLw6 := Lib.hid (HLw4.out.trans hl6)
      clear hd6 hl6
      have HM := Lib.hid (move_any p B nm to t w6 HTw6.out HML.out HML2.out (by omega))
      rcases move_cases t nm to with ⟨l, hg, hb, hm⟩ | ⟨k2, hk2, hm⟩
      · have HMB := Lib.hid (move_back HRS.out (hasT_named HFT.out (getT_has hg)) hg hb)
        have HMS := Lib.hid ((move_fits HFT.out hm).small (by omega))
        have hml := HMS.out.many
        rw [hm] at HM
        generalize withT (withoutT t nm) to l = t7 at HM HMB HMS hml
        clear hg hb hm
        go_wp2_with fail
        refine HM.out.mono ?_
        rintro e w7 ⟨rfl, ht7, hg7⟩
        have HT7 := Lib.hid ht7; have HL7 := Lib.hid (HLw6.out.turn hg7 hBw)
        have HR7 : Hid (RefAt w7 v t) := by
          obtain ⟨es, mc, hmm⟩ := HTw6.out.files.map
          exact HRw6.out.turned hg7 hmm
        clear ht7 hg7
        go_wp2_with fail
        refine (move_any p B to nm t7 w7 HT7.out HML2.out HML.out (by omega)).mono ?_
        rw [HMB.out]
        rintro e w8 ⟨rfl, ht8, hg8⟩
        have HTw8 := Lib.hid ht8; have HLw8 := Lib.hid (HL7.out.turn hg8 hBw)
        have HRw8 : Hid (RefAt w8 v t) := by
          obtain ⟨es, mc, hmm⟩ := HT7.out.files.map
          exact HR7.out.turned hg8 hmm
        clear ht8 hg8
        go_wp2_with fail
        refine (alive_any w8 (HTB.out.later HLw8.out)).mono ?_
        rintro e w20 ⟨rfl, hl20⟩
        have HL20 := Lib.hid hl20; clear hl20
        go_wp2_with fail
        refine (old_any p B t w20 (HTw8.out.later HL20.out) HSM.out).mono ?_
        rintro e w21 ⟨v21, rfl, hr21, hl21⟩
        have HR21 := Lib.hid hr21; have HL21 := Lib.hid (HL20.out.trans hl21)
        clear hr21 hl21
        go_wp2_with fail
        refine (refSameAt_any v21 v t t w21 HR21.out (HRw8.out.later HL21.out) (by omega) (by omega) HSM.out.lines HSM.out.lines).mono ?_
        rw [sameT_self]
        rintro e w22 ⟨rfl, hd22⟩
        have HL22 := Lib.hid ((HLw8.out.trans HL21.out).trans hd22.later); clear hd22
        go_wp2
        go_ret
        exact ⟨rfl, HL22.out⟩

      · rw [hm] at HM
        have hkb : (k2 == 0) = false := by simpa using hk2
        clear hm hk2
        go_wp2_with fail
        refine HM.out.mono ?_
        rintro e w7 ⟨rfl, ht7, hg7⟩
        have HTw7 := Lib.hid ht7; have HLw7 := Lib.hid (HLw6.out.turn hg7 hBw)
        have HRw7 : Hid (RefAt w7 v t) := by
          obtain ⟨es, mc, hmm⟩ := HTw6.out.files.map
          exact HRw6.out.turned hg7 hmm
        clear ht7 hg7
        go_wp2_with fail
        refine (alive_any w7 (HTB.out.later HLw7.out)).mono ?_
        rintro e w20 ⟨rfl, hl20⟩
        have HL20 := Lib.hid hl20; clear hl20
        go_wp2_with fail
        refine (old_any p B t w20 (HTw7.out.later HL20.out) HSM.out).mono ?_
        rintro e w21 ⟨v21, rfl, hr21, hl21⟩
        have HR21 := Lib.hid hr21; have HL21 := Lib.hid (HL20.out.trans hl21)
        clear hr21 hl21
        go_wp2_with fail
        refine (refSameAt_any v21 v t t w21 HR21.out (HRw7.out.later HL21.out) (by omega) (by omega) HSM.out.lines HSM.out.lines).mono ?_
        rw [sameT_self]
        rintro e w22 ⟨rfl, hd22⟩
        have HL22 := Lib.hid ((HLw7.out.trans HL21.out).trans hd22.later); clear hd22
        go_wp2
        go_ret
        exact ⟨rfl, HL22.out⟩

  · by_cases h0 : fw = 0
    · subst h0
      by_cases h1 : 200 < nm.size
      · have hd : decide ((200 : Int) < nm.size) = true := by simp; omega
        go_enter Tryd.func6, Tryd.ntmps6
        go_wp2_with fail
        refine HF.out.mono ?_
        rintro e w1 ⟨rfl, hl1⟩
        have HL1 := Lib.hid hl1; clear hl1
        go_wp2_with fail
        refine (alive_any w1 (HTB.out.later HL1.out)).mono ?_
        rintro e w2 ⟨rfl, hl2⟩
        have HL2 := Lib.hid (HL1.out.trans hl2); clear hl2
        go_wp2
        go_ret
        exact ⟨rfl, HL2.out⟩
      · have hd : decide ((200 : Int) < nm.size) = false := by simp; omega
        have hd2 : decide ((200 : Int) < to.size) = true := by simp; omega
        go_enter Tryd.func6, Tryd.ntmps6
        go_wp2_with fail
        refine HF.out.mono ?_
        rintro e w1 ⟨rfl, hl1⟩
        have HL1 := Lib.hid hl1; clear hl1
        go_wp2_with fail
        refine (alive_any w1 (HTB.out.later HL1.out)).mono ?_
        rintro e w2 ⟨rfl, hl2⟩
        have HL2 := Lib.hid (HL1.out.trans hl2); clear hl2
        go_wp2
        go_ret
        exact ⟨rfl, HL2.out⟩
    · have hd : decide (0 < fw) = true := by simp; omega
      go_enter Tryd.func6, Tryd.ntmps6
      go_wp2_with fail
      refine HF.out.mono ?_
      rintro e w1 ⟨rfl, hl1⟩
      have HL1 := Lib.hid hl1; clear hl1
      go_wp2_with fail
      refine (alive_any w1 (HTB.out.later HL1.out)).mono ?_
      rintro e w2 ⟨rfl, hl2⟩
      have HL2 := Lib.hid (HL1.out.trans hl2); clear hl2
      go_wp2
      go_ret
      exact ⟨rfl, HL2.out⟩

end Go.Proofs.YtbjbimahmbapdaaDoor
