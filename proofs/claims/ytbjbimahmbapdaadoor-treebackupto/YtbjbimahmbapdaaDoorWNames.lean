/-
  What the law TreeNames comes to, as a call.
-/
import Derived.Test.YtbjbimahmbapdaaDoorLwAlive
import Derived.Test.YtbjbimahmbapdaaDoorLSame
namespace Go.Proofs.YtbjbimahmbapdaaDoor
open Go.RowKit Go.Maps

/-- The trees behind few calls fit. -/
theorem made_fits {w : World} {A : Option Addr} {n : Nat} {os : List OpC} (h : Script w A n os) (hW : weightL os ≤ 8000) : Fits n (madeT os) := by
  have key : ∀ k, k ≤ os.length → Fits k (madeT (os.take k)) := fun k => by
    induction k with
    | zero => intro _; simpa [madeT] using Fits.nil
    | succ k ih =>
      intro hk
      have hz : os[k]? = some os[k] := List.getElem?_eq_getElem (by omega)
      rw [made_next hz]
      exact (ih (by omega)).step (Nat.le_trans (weight_mem (List.mem_of_getElem? hz)) hW)
  have := key os.length (Nat.le_refl _)
  rwa [List.take_length, h.len] at this

/-- What the document's Get tells: a row that reads as these lines, and a flag. -/
def GivesGet (o : Option (List ByteArray)) (w : World) (e : Ending) (w' : World) : Prop := ∃ A n c, e = .returned (.tuple #[.slice A n c, .bool o.isSome]) ∧ Row w A n (o.getD []) ∧ w = w'

theorem refGetAt_any (v : Value) (t : Tr) (nm : ByteArray) (w : World) (ht : RefAt w v t) (hl : t.length ≤ 65536) : Calls Tryd.prog 21 #[v, .string nm] w (GivesGet (getT t nm) w) := by
  obtain ⟨A, n, c, z, rfl, hc, hr, rfl⟩ := ht
  rw [mapT_length, hr.len] at hl
  refine (refGet_any A n c z nm w hr hl).mono ?_
  rintro e w' ⟨rfl, rfl⟩
  rw [getT_map]
  cases hg : getT z nm with
  | none =>
    have h2 : hasT z nm = false := hasT_no.2 (getT_none.1 hg)
    exact ⟨none, 0, 0, by rw [h2]; rfl, Row.none, rfl⟩
  | some x =>
    obtain ⟨A2, n2, c2, hv2, -, hr2⟩ := hr.reads _ (getT_mem hg)
    exact ⟨A2, n2, c2, by rw [getT_has hg, show got (some x) = x.1 from rfl, show x.1 = _ from hv2]; rfl, hr2, rfl⟩

theorem made_get {t : Tr} (hs : Small t) (nm : ByteArray) : ((getT t nm).getD []).length ≤ 65536 := by
  cases hg : getT t nm with
  | none => simp
  | some l => exact hs.lines _ (getT_mem hg)

set_option maxRecDepth 100000 in
set_option maxHeartbeats 800000 in
theorem lawNames (A : Option Addr) (n c : Nat) (os : List OpC) (nm : ByteArray) (w : World) (hx : CameS w A n os) (hnm : nm.size ≤ 1048576) (htab : Tab w) :
    Calls Tryd.prog 4 #[.slice A n c, .string nm] w (Says true w) := by
  have HF := Lib.hid (few_any A n c os w hx.script hx.many hx.weigh)
  have HX := Lib.hid hx; have HTB := Lib.hid htab
  have hbd : fewN n (weightL os) ≤ 4000000 := by have h1 := hx.many; have h2 := hx.weigh; unfold fewN; split <;> omega
  have hz := @few_zero n (weightL os)
  generalize fewN n (weightL os) = fw at HF hbd hz
  have HZ := Lib.hid hz
  clear hx htab hz
  by_cases h0 : fw = 0
  · obtain ⟨hn80, hW80⟩ := HZ.out.1 h0
    subst h0
    by_cases hbig : 200 < nm.size
    · have hd : decide ((200 : Int) < nm.size) = true := by simp; omega
      go_enter Tryd.func4, Tryd.ntmps4
      go_wp2_with fail
      refine HF.out.mono ?_
      rintro e w1 ⟨rfl, hl1⟩
      have HL1 := Lib.hid hl1; clear hl1
      go_wp2_with fail
      refine (alive_any w1 (HTB.out.later HL1.out)).mono ?_
      rintro e w2 ⟨rfl, hl2⟩
      have HL2 := Lib.hid (HL1.out.trans hl2); clear hl2
      go_wp2
      go_ret
      exact ⟨rfl, HL2.out⟩
    · have hd : decide ((200 : Int) < nm.size) = false := by simp; omega
      have hfit := made_fits HX.out.script hW80
      have HSM := Lib.hid (hfit.small (by omega))
      have hml : nm.size ≤ maxLen := by simp only [maxLen]; omega
      have HML := Lib.hid hml
      have HMN := Lib.hid (fun w1 => named_any nm w1 hml)
      have HMR := Lib.hid (fun w1 => refNamed_any nm w1 hml)
      clear hfit hml
      generalize namedB nm = nb at HMN HMR
      have hnb : (nb == nb) = true := by simp
      go_enter Tryd.func4, Tryd.ntmps4
      go_wp2_with fail
      refine HF.out.mono ?_
      rintro e w1 ⟨rfl, hl1⟩
      have HL1 := Lib.hid hl1; clear hl1
      go_wp2_with fail
      refine (made_any A n c os w1 (HX.out.script.later HL1.out) hn80 hW80).mono ?_
      rintro e w2 ⟨p, B, v, rfl, ht2, hr2, hp, hB, hl2⟩
      have HT2 := Lib.hid ht2; have HR2 := Lib.hid hr2; have HL2 := Lib.hid (HL1.out.trans hl2)
      have hmany := HSM.out.many
      clear ht2 hr2 hl2 hp hB
      generalize madeT os = t at *
      go_wp2_with fail
      refine (get_any p B nm t w2 HT2.out HML.out HSM.out.lines).mono ?_
      rintro e w3 ⟨v3, rfl, hown3⟩
      obtain ⟨A3, c3, hv3, hcc3, hr3⟩ := hown3.row
      subst hv3
      have HR3 := Lib.hid hr3; have HL3 := Lib.hid hown3.later
      clear hown3 hr3
      go_wp2_with fail
      refine (refGetAt_any v t nm w3 (HR2.out.later HL3.out) (by omega)).mono ?_
      rintro e w4 ⟨A4, n4, c4, rfl, hr4, rfl⟩
      have HR4 := Lib.hid hr4
      have hll := made_get HSM.out nm
      have hn4 : n4 ≤ 65536 := by rw [← hr4.len]; exact hll
      clear hr4
      have hib : ((getT t nm).isSome == (getT t nm).isSome) = true := by simp
      generalize (getT t nm).isSome = ib at *
      generalize (getT t nm).getD [] = lx at *
      have HLW := Lib.hid (HL2.out.trans HL3.out)
      go_wp2_with fail
      refine (alive_any w3 (HTB.out.later HLW.out)).mono ?_
      rintro e w5 ⟨rfl, hl5⟩
      have HL5 := Lib.hid hl5; clear hl5
      go_wp2_with fail
      refine (HMN.out w5).mono ?_
      rintro e w6 ⟨rfl, rfl⟩
      go_wp2_with fail
      refine (HMR.out w5).mono ?_
      rintro e w7 ⟨rfl, rfl⟩
      go_wp2_with fail
      refine (same_any A3 A4 lx.length c3 n4 c4 lx lx w5 (HR3.out.later HL5.out) (HR4.out.later HL5.out) hll hn4).mono ?_
      rw [sameB_self]
      rintro e w8 ⟨rfl, q, rfl⟩
      go_wp2
      go_ret
      exact ⟨rfl, (HLW.out.trans HL5.out).drewN q⟩
  · have hd : decide (0 < fw) = true := by simp; omega
    go_enter Tryd.func4, Tryd.ntmps4
    go_wp2_with fail
    refine HF.out.mono ?_
    rintro e w1 ⟨rfl, hl1⟩
    have HL1 := Lib.hid hl1; clear hl1
    go_wp2_with fail
    refine (alive_any w1 (HTB.out.later HL1.out)).mono ?_
    rintro e w2 ⟨rfl, hl2⟩
    have HL2 := Lib.hid (HL1.out.trans hl2); clear hl2
    go_wp2
    go_ret
    exact ⟨rfl, HL2.out⟩

end Go.Proofs.YtbjbimahmbapdaaDoor
