/-
  What the law TreeMoves comes to, as a call.
-/
import Derived.Test.YtbjbimahmbapdaaDoorWBack
namespace Go.Proofs.YtbjbimahmbapdaaDoor
open Go.RowKit Go.Maps

/-- A tree of the document's, of new memory. -/
def GivesAt (t : Tr) (w : World) (e : Ending) (w' : World) : Prop := ∃ v, e = .returned v ∧ RefAt w' v t ∧ Later w w'

theorem refWithoutAt_any (v : Value) (t : Tr) (nm : ByteArray) (w : World) (ht : RefAt w v t) (hl : t.length ≤ 65536) : Calls Tryd.prog 34 #[v, .string nm] w (GivesAt (withoutT t nm) w) := by
  obtain ⟨A, n, c, z, rfl, hc, hr, rfl⟩ := ht
  rw [mapT_length, hr.len] at hl
  refine (refWithout_any A n c z nm w hr hl).mono ?_
  rintro e w' ⟨A1, n1, c1, rfl, hc1, hr1, hl1⟩
  exact ⟨_, rfl, ⟨A1, n1, c1, _, rfl, hc1, hr1, (withoutT_map (fun x : Held => x.2) z nm).symm⟩, hl1⟩

theorem small_without {t : Tr} (h : Small t) (n : ByteArray) : Small (withoutT t n) :=
  ⟨Nat.le_trans (without_length t n) h.many, fun f hf => h.names f (mem_without.1 hf).1, fun f hf => h.lines f (mem_without.1 hf).1⟩

theorem moved {t : Tr} (ht : Rising t) {a b : ByteArray} {l : List ByteArray} (hg : getT t a = some l) (hb : hasT t b = false) :
    getT (withT (withoutT t a) b l) b = some l ∧ getT (withT (withoutT t a) b l) a = none ∧ withoutT (withT (withoutT t a) b l) b = withoutT t a := by
  have hu := rising_without ht a
  have hub := has_without_no hb a
  have hne : a ≠ b := by rintro rfl; rw [getT_has hg] at hb; cases hb
  refine ⟨get_with_same hu b l, ?_, without_with hu hub l⟩
  have h1 : hasT (withT (withoutT t a) b l) a = false := by rw [has_with_other l hne, has_without_same]
  exact getT_none.2 (hasT_no.1 h1)

set_option maxRecDepth 100000 in
set_option maxHeartbeats 1000000 in
theorem lawMoves (A : Option Addr) (n c : Nat) (os : List OpC) (nm to : ByteArray) (w : World) (hx : CameS w A n os) (hnm : nm.size ≤ 1048576) (hto : to.size ≤ 1048576) (htab : Tab w) :
    Calls Tryd.prog 8 #[.slice A n c, .string nm, .string to] w (Says true w) := by
  have HF := Lib.hid (few_any A n c os w hx.script hx.many hx.weigh)
  have HX := Lib.hid hx; have HTB := Lib.hid htab
  have hbd : fewN n (weightL os) ≤ 4000000 := by have h1 := hx.many; have h2 := hx.weigh; unfold fewN; split <;> omega
  have hz := @few_zero n (weightL os)
  generalize fewN n (weightL os) = fw at HF hbd hz
  have HZ := Lib.hid hz
  clear hx htab hz
  by_cases hall : fw = 0 ∧ nm.size ≤ 200 ∧ to.size ≤ 200
  · obtain ⟨h0, hs1, hs2⟩ := hall
    obtain ⟨hn80, hW80⟩ := HZ.out.1 h0
    subst h0
    have hd : decide ((200 : Int) < nm.size) = false := by simp; omega
    have hd2 : decide ((200 : Int) < to.size) = false := by simp; omega
    have hfit := made_fits HX.out.script hW80
    have HFT := Lib.hid hfit
    have HML : Hid (nm.size ≤ maxLen) := by simp only [Hid, maxLen]; omega
    have HML2 : Hid (to.size ≤ maxLen) := by simp only [Hid, maxLen]; omega
    have HSM := Lib.hid (hfit.small (by omega))
    have hmany := HSM.out.many
    clear hfit
    go_enter Tryd.func8, Tryd.ntmps8
    go_wp2_with fail
    refine HF.out.mono ?_
    rintro e w1 ⟨rfl, hl1⟩
    have HL1 := Lib.hid hl1; clear hl1
    go_wp2_with fail
    refine (made_any A n c os w1 (HX.out.script.later HL1.out) hn80 hW80).mono ?_
    rintro e w2 ⟨p, B, v, rfl, ht2, hr2, hp, hB, hl2⟩
    have HT2 := Lib.hid ht2; have HR2 := Lib.hid hr2; have HL2 := Lib.hid (HL1.out.trans hl2)
    have hBw : w.heap.size ≤ B := Nat.le_trans HL1.out.le hB
    clear ht2 hr2 hl2 hp hB
    generalize madeT os = t at *
    have HRS := Lib.hid HT2.out.files.rise
    go_wp2_with fail
    refine (copy_any p B t w2 HT2.out (by omega) HSM.out.lines).mono ?_
    rintro e w3 ⟨p3, B3, rfl, ht3, hp3, hB3, hl3⟩
    have HC3 := Lib.hid ht3; have HL3 := Lib.hid hl3
    have hBlt := HT2.out.files.lt
    have hne : B3 ≠ B := by omega
    clear ht3 hl3 hp3 hB3
    go_wp2_with fail
    refine (get_any p B nm t w3 (HT2.out.later HL3.out) HML.out HSM.out.lines).mono ?_
    rintro e w4 ⟨v4, rfl, hown4⟩
    obtain ⟨A4, c4, hv4, hcc4, hr4⟩ := hown4.row
    subst hv4
    have HRW4 := Lib.hid hr4
    have hl24 := HL3.out.trans hown4.later
    have HT4 := Lib.hid (HT2.out.later hl24); have HR4 := Lib.hid (HR2.out.later hl24); have HC4 := Lib.hid (HC3.out.later hown4.later); have HL4 := Lib.hid (HL2.out.trans hl24)
    clear hown4 hr4 hl24
    have HM := Lib.hid (move_any p B nm to t w4 HT4.out HML.out HML2.out (by omega))
    rcases move_cases t nm to with ⟨l, hg, hb, hm⟩ | ⟨k2, hk2, hm⟩
    · have HMV := Lib.hid (moved HRS.out hg hb)
      have HMS := Lib.hid ((move_fits HFT.out hm).small (by omega))
      have hml := HMS.out.many
      rw [hm] at HM
      rw [hg] at HRW4 hcc4 ⊢
      simp only [Option.getD_some, Option.isSome_some] at HRW4 hcc4 ⊢
      have hll : l.length ≤ 65536 := HSM.out.lines _ (getT_mem hg)
      generalize withT (withoutT t nm) to l = t7 at HM HMV HMS hml
      clear hg hb hm
      go_wp2_with fail
      refine HM.out.mono ?_
      rintro e w5 ⟨rfl, ht5, hg5⟩
      have HT5 := Lib.hid ht5; have HL5 := Lib.hid (HL4.out.turn hg5 hBw)
      obtain ⟨es, mc, hmm⟩ := HT4.out.files.map
      have HR5 := Lib.hid (HR4.out.turned hg5 hmm)
      have HC5 := Lib.hid (HC4.out.other hg5 hne hmm)
      have HRW5 := Lib.hid (HRW4.out.turned hg5 hmm)
      clear ht5 hg5 hmm
      go_wp2_with fail
      refine (get_any p B to t7 w5 HT5.out HML2.out HMS.out.lines).mono ?_
      rw [HMV.out.1]
      rintro e w6 ⟨v6, rfl, hown6⟩
      obtain ⟨A6, c6, hv6, hcc6, hr6⟩ := hown6.row
      subst hv6
      simp only [Option.getD_some, Option.isSome_some] at hr6 hcc6 ⊢
      have HRW6 := Lib.hid hr6; have HL6 := Lib.hid hown6.later
      clear hown6 hr6
      go_wp2_with fail
      refine (get_any p B nm t7 w6 (HT5.out.later HL6.out) HML.out HMS.out.lines).mono ?_
      rw [HMV.out.2.1]
      rintro e w7 ⟨v7, rfl, hown7⟩
      simp only [Option.isSome_none] at ⊢
      have HL7 := Lib.hid (HL6.out.trans hown7.later); have HRW7 := Lib.hid (HRW6.out.later hown7.later)
      clear hown7
      go_wp2_with fail
      refine (alive_any w7 (HTB.out.later (HL5.out.trans HL7.out))).mono ?_
      rintro e w8 ⟨rfl, hl8⟩
      have HL8 := Lib.hid (HL7.out.trans hl8); have HRW8 := Lib.hid (HRW7.out.later hl8)
      clear hl8
      go_wp2_with fail
      refine (same_any A6 A4 l.length c6 l.length c4 l l w8 HRW8.out (HRW5.out.later HL8.out) hll hll).mono ?_
      rw [sameB_self]
      rintro e w9 ⟨rfl, q9, rfl⟩
      have HL9 := Lib.hid (HL8.out.drewN q9)
      generalize w8.drewN q9 = w9 at HL9 ⊢
      go_wp2_with fail
      refine (old_any p B t7 w9 (HT5.out.later HL9.out) HMS.out).mono ?_
      rintro e w10 ⟨v10, rfl, hr10, hl10⟩
      have HR10 := Lib.hid hr10; have HL10 := Lib.hid (HL9.out.trans hl10)
      clear hr10 hl10
      go_wp2_with fail
      refine (refWithoutAt_any v10 t7 to w10 HR10.out (by omega)).mono ?_
      rw [HMV.out.2.2]
      rintro e w11 ⟨v11, rfl, hr11, hl11⟩
      have HR11 := Lib.hid hr11; have HL11 := Lib.hid (HL10.out.trans hl11)
      clear hr11 hl11
      go_wp2_with fail
      refine (refWithoutAt_any v t nm w11 (HR5.out.later HL11.out) (by omega)).mono ?_
      rintro e w12 ⟨v12, rfl, hr12, hl12⟩
      have HR12 := Lib.hid hr12; have HL12 := Lib.hid (HL11.out.trans hl12); have HR11b := Lib.hid (HR11.out.later hl12)
      clear hr12 hl12
      have HSW := Lib.hid (small_without HSM.out nm)
      have hsw := HSW.out.many
      go_wp2_with fail
      refine (refSameAt_any v11 v12 (withoutT t nm) (withoutT t nm) w12 HR11b.out HR12.out (by omega) (by omega) HSW.out.lines HSW.out.lines).mono ?_
      rw [sameT_self]
      rintro e w13 ⟨rfl, hd13⟩
      have HL13 := Lib.hid (HL12.out.trans hd13.later); clear hd13
      go_wp2_with fail
      refine (old_any p3 B3 t w13 (HC5.out.later HL13.out) HSM.out).mono ?_
      rintro e w14 ⟨v14, rfl, hr14, hl14⟩
      have HR14 := Lib.hid hr14; have HL14 := Lib.hid (HL13.out.trans hl14)
      clear hr14 hl14
      go_wp2_with fail
      refine (refSameAt_any v14 v t t w14 HR14.out (HR5.out.later HL14.out) (by omega) (by omega) HSM.out.lines HSM.out.lines).mono ?_
      rw [sameT_self]
      rintro e w15 ⟨rfl, hd15⟩
      have HL15 := Lib.hid ((HL5.out.trans HL14.out).trans hd15.later); clear hd15
      go_wp2
      go_ret
      exact ⟨rfl, HL15.out⟩
    · rw [hm] at HM
      have hkb : (k2 != 0) = true := by simpa using hk2
      generalize (getT t nm).isSome = ib
      clear hm hk2
      go_wp2_with fail
      refine HM.out.mono ?_
      rintro e w5 ⟨rfl, ht5, hg5⟩
      have HT5 := Lib.hid ht5; have HL5 := Lib.hid (HL4.out.turn hg5 hBw)
      obtain ⟨es, mc, hmm⟩ := HT4.out.files.map
      have HC5 := Lib.hid (HC4.out.other hg5 hne hmm)
      clear ht5 hg5 hmm
      go_wp2_with fail
      refine (alive_any w5 (HTB.out.later HL5.out)).mono ?_
      rintro e w6 ⟨rfl, hl6⟩
      have HL6 := Lib.hid hl6; clear hl6
      go_wp2_with fail
      refine (sameTree_any p B p3 B3 t t w6 (HT5.out.later HL6.out) (HC5.out.later HL6.out) HSM.out.lines HSM.out.lines).mono ?_
      rw [sameT_self]
      rintro e w7 ⟨rfl, hl7⟩
      have HL7 := Lib.hid ((HL5.out.trans HL6.out).trans hl7); clear hl7
      go_wp2
      go_ret
      exact ⟨rfl, HL7.out⟩
  · by_cases h0 : fw = 0
    · subst h0
      by_cases h1 : 200 < nm.size
      · have hd : decide ((200 : Int) < nm.size) = true := by simp; omega
        go_enter Tryd.func8, Tryd.ntmps8
        go_wp2_with fail
        refine HF.out.mono ?_
        rintro e w1 ⟨rfl, hl1⟩
        have HL1 := Lib.hid hl1; clear hl1
        go_wp2_with fail
        refine (alive_any w1 (HTB.out.later HL1.out)).mono ?_
        rintro e w2 ⟨rfl, hl2⟩
        have HL2 := Lib.hid (HL1.out.trans hl2); clear hl2
        go_wp2
        go_ret
        exact ⟨rfl, HL2.out⟩
      · have hd : decide ((200 : Int) < nm.size) = false := by simp; omega
        have hd2 : decide ((200 : Int) < to.size) = true := by simp; omega
        go_enter Tryd.func8, Tryd.ntmps8
        go_wp2_with fail
        refine HF.out.mono ?_
        rintro e w1 ⟨rfl, hl1⟩
        have HL1 := Lib.hid hl1; clear hl1
        go_wp2_with fail
        refine (alive_any w1 (HTB.out.later HL1.out)).mono ?_
        rintro e w2 ⟨rfl, hl2⟩
        have HL2 := Lib.hid (HL1.out.trans hl2); clear hl2
        go_wp2
        go_ret
        exact ⟨rfl, HL2.out⟩
    · have hd : decide (0 < fw) = true := by simp; omega
      go_enter Tryd.func8, Tryd.ntmps8
      go_wp2_with fail
      refine HF.out.mono ?_
      rintro e w1 ⟨rfl, hl1⟩
      have HL1 := Lib.hid hl1; clear hl1
      go_wp2_with fail
      refine (alive_any w1 (HTB.out.later HL1.out)).mono ?_
      rintro e w2 ⟨rfl, hl2⟩
      have HL2 := Lib.hid (HL1.out.trans hl2); clear hl2
      go_wp2
      go_ret
      exact ⟨rfl, HL2.out⟩

end Go.Proofs.YtbjbimahmbapdaaDoor
