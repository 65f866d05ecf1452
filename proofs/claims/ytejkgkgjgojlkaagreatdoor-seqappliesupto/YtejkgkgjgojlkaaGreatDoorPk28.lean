import Derived.Test.YtejkgkgjgojlkaaGreatDoorPk26
import Derived.Test.YtejkgkgjgojlkaaGreatDoorPk27

/-
  What the law SeqApplies comes to, as a call.
-/
namespace Go.Proofs.YtejkgkgjgojlkaaGreatDoor
open Go.RowKit Go.Maps

theorem Sized.mid5 {k h : Nat} {t : Tr} (hs : Sized k h t) (hk : k ≤ 60000) (hh : h ≤ 65536) : Mid t :=
  ⟨Nat.le_trans hs.many hk, fun f hf => by
    have h1 := (hs.each f hf).1
    simp only [namedB, Bool.and_eq_true, decide_eq_true_eq] at h1
    simp only [maxLen]
    omega, hs.lines5 hh⟩
set_option maxRecDepth 100000 in
set_option maxHeartbeats 6400000 in
theorem seqApplies_walk (A : Option Addr) (n c : Nat) (os : List OpC) (A1 : Option Addr) (n1 c1 : Nat) (xs : List PrC) (w : World) (hs : CameS w A n os) (hx : CamePs w A1 n1 xs) (htab : Tab w) : Calls Tryz.prog 4 #[.slice A n c, .slice A1 n1 c1] w (Says true w) := by
  have HTB := Lib.hid htab
  clear htab
  have hlx := hx.length; have hwx := linesS_weight xs
  have HX := Lib.hid hx
  clear hx
  have HF := Lib.hid (few_any A n c os w hs.script hs.many hs.weigh)
  have hbd : fewN n (weightL os) ≤ 4000000 := by have h1 := hs.many; have h2 := hs.weigh; unfold fewN; split <;> omega
  have hz := @few_zero n (weightL os)
  generalize fewN n (weightL os) = fw at HF hbd hz
  by_cases h0 : fw = 0
  case neg =>
    have hpos : (0 : Int) < fw := by omega
    have hd : decide ((0 : Int) < fw) = true := by simp; omega
    go_enter Tryz.func4, Tryz.ntmps4
    go_wp2_with fail
    refine HF.out.mono ?_
    clear HF
    rintro e m1 ⟨rfl, hl⟩
    have L0 := Lib.hid hl
    clear hl
    have HC := Lib.hid (alive5_any m1 (HTB.out.later L0.out))
    go_wp2_with fail
    refine HC.out.mono ?_
    clear HC
    rintro e m2 ⟨rfl, hl⟩
    replace L0 := Lib.hid (L0.out.trans hl)
    clear hl
    go_wp2
    go_ret
    exact ⟨rfl, L0.out⟩
  obtain ⟨hn80, hW80⟩ := hz.1 h0
  subst h0
  have HS := Lib.hid hs
  clear hs hz
  go_enter Tryz.func4, Tryz.ntmps4
  go_wp2_with fail
  refine HF.out.mono ?_
  clear HF
  rintro e m1 ⟨rfl, hl⟩
  have L0 := Lib.hid hl
  clear hl
  have HC := Lib.hid (few_one (c1 := c1) HX.out L0.out)
  have hlb : Later m1 (m1.alloc (.cells #[.slice A1 n1 c1] 22)) := (Later.refl _).alloc _
  replace L0 := Lib.hid (L0.out.trans hlb)
  clear hlb
  cases hfb : fewB [fr A1 n1 c1 xs]
  case false =>
    rw [hfb] at HC
    clear hfb
    go_wp2_with fail
    refine HC.out.mono ?_
    clear HC
    rintro e m2 ⟨rfl, hl⟩
    replace L0 := Lib.hid (L0.out.trans hl)
    clear hl
    have HC := Lib.hid (alive5_any m2 (HTB.out.later L0.out))
    go_wp2_with fail
    refine HC.out.mono ?_
    clear HC
    rintro e m3 ⟨rfl, hl⟩
    replace L0 := Lib.hid (L0.out.trans hl)
    clear hl
    go_wp2
    go_ret
    exact ⟨rfl, L0.out⟩
  obtain ⟨hn40, hw6⟩ := fewB_one hfb
  rw [hfb] at HC
  clear hfb
  go_wp2_with fail
  refine HC.out.mono ?_
  clear HC
  rintro e m2 ⟨rfl, hl⟩
  replace L0 := Lib.hid (L0.out.trans hl)
  clear hl
  have HC := Lib.hid (made_any A n c os m2 (HS.out.script.later L0.out) hn80 hW80)
  have hfit := (made_fits HS.out.script hW80).sizedS.mono hn80 (Nat.le_refl 8000)
  generalize madeT os = tr at HC hfit
  have HFIT := Lib.hid hfit
  clear hfit
  go_wp2_with fail
  refine HC.out.mono ?_
  clear HC
  rintro e m3 ⟨pt, Bt, v, rfl, ht, hr, -, hBt0, hl⟩
  have hBt : w.heap.size ≤ Bt := Nat.le_trans L0.out.le hBt0
  clear hBt0
  replace L0 := Lib.hid (L0.out.trans hl)
  have Tt := Lib.hid ht
  have HRISE := Lib.hid ht.files.rise
  clear hl ht
  have Rs := Lib.hid hr
  clear hr
  obtain ⟨t1, e1, ha⟩ : ∃ u e, applyS tr (valsP xs) = (u, e) := ⟨_, _, rfl⟩
  have HA := Lib.hid ha
  have hd : (e1 != e1) = false := by simp
  clear ha
  have HNEW := Lib.hid (fun m (hl : Later w m) => new_r (c := c1) (m := m) HX.out hl (by omega) (by omega))
  have HOKX := Lib.hid (HX.out.prims.ok (by omega))
  generalize hlv : valsP xs = lx at *
  have HLV := Lib.hid hlv
  clear hlv
  by_cases he : e1 = 0
  case neg =>
    have HS1 : Hid (Sized 80 8000 t1) := by
      have := applyS_no (t := tr) (l := lx) (by rw [HA.out]; exact he)
      rw [HA.out] at this
      dsimp only at this
      rw [this]
      exact HFIT.out
    have hd2 : (e1 != 0) = true := by rw [bne_iff_ne]; exact he
    clear he
    have HC : Hid (Calls Tryz.prog 28 #[v, .slice A1 n1 c1] m3 (GivesDo (t1, e1) m3)) := by
      have := refApply5_any v tr 80 8000 A1 n1 c1 xs m3 Rs.out (HOKX.out.later L0.out) HFIT.out (by omega) (by rw [HLV.out]; omega)
      rw [HLV.out, HA.out] at this
      exact this
    go_wp2_with fail
    refine HC.out.mono ?_
    clear HC
    rintro e m4 ⟨vw, rfl, hr, hl⟩
    dsimp only at hr ⊢
    replace Tt := Lib.hid (Tt.out.later hl)
    replace Rs := Lib.hid (Rs.out.later hl)
    replace L0 := Lib.hid (L0.out.trans hl)
    have Rw := Lib.hid hr
    clear hr hl
    have HC := Lib.hid (HNEW.out _ L0.out)
    go_wp2_with fail
    refine HC.out.mono ?_
    clear HC
    rintro e m5 ⟨vx, rfl, hv, hl⟩
    replace Tt := Lib.hid (Tt.out.later hl)
    replace Rs := Lib.hid (Rs.out.later hl)
    replace Rw := Lib.hid (Rw.out.later hl)
    replace L0 := Lib.hid (L0.out.trans hl)
    have Px := Lib.hid hv
    clear hl hv
    have HC : Hid (Calls Tryz.prog 29 #[.pointer (some ⟨pt, 0, none⟩), vx] m5 (Does (t1, e1) pt Bt m5)) := by
      have := apply_s Tt.out Px.out HFIT.out (by omega) (by omega)
      rw [HA.out] at this
      exact this
    go_wp2_with fail
    refine HC.out.mono ?_
    clear HC
    rintro e m6 ⟨rfl, ht, hg⟩
    dsimp only at ht ⊢
    obtain ⟨es, cc, hm⟩ := Tt.out.files.map
    replace Px := Lib.hid (Px.out.turnS hg hm)
    replace Rs := Lib.hid (Rs.out.turned hg hm)
    replace Rw := Lib.hid (Rw.out.turned hg hm)
    replace L0 := Lib.hid (L0.out.turn hg hBt)
    replace Tt := Lib.hid ht
    clear hm hg ht
    have HC := Lib.hid (oldM_any pt Bt t1 m6 Tt.out (HS1.out.mid5 (by omega) (by omega)))
    go_wp2_with fail
    refine HC.out.mono ?_
    clear HC
    rintro e m7 ⟨vo, rfl, hr, hl⟩
    replace Px := Lib.hid (Px.out.later hl)
    replace Tt := Lib.hid (Tt.out.later hl)
    replace Rs := Lib.hid (Rs.out.later hl)
    replace Rw := Lib.hid (Rw.out.later hl)
    replace L0 := Lib.hid (L0.out.trans hl)
    have Ro := Lib.hid hr
    clear hr hl
    have HC : Hid (Calls Tryz.prog 30 #[vo, vw] m7 fun e w' => e = .returned (.bool true) ∧ Drew m7 w') := by
      have := refSameAt_any vo vw t1 t1 m7 Ro.out Rw.out (by have := HS1.out.many; omega) (by have := HS1.out.many; omega) (HS1.out.lines5 (by omega)) (HS1.out.lines5 (by omega))
      rw [sameT_self] at this
      exact this
    go_wp2_with fail
    refine HC.out.mono ?_
    clear HC
    rintro e m8 ⟨rfl, hdr⟩
    obtain ⟨q, rfl⟩ := hdr
    have hl : Later m7 (m7.drewN q) := (Later.refl _).drewN q
    generalize m7.drewN q = m8 at hl ⊢
    replace Px := Lib.hid (Px.out.later hl)
    replace Tt := Lib.hid (Tt.out.later hl)
    replace Rs := Lib.hid (Rs.out.later hl)
    replace Rw := Lib.hid (Rw.out.later hl)
    replace Ro := Lib.hid (Ro.out.later hl)
    replace L0 := Lib.hid (L0.out.trans hl)
    clear hl
    have HC := Lib.hid (alive5_any m8 (HTB.out.later L0.out))
    go_wp2_with fail
    refine HC.out.mono ?_
    clear HC
    rintro e m9 ⟨rfl, hl⟩
    replace Px := Lib.hid (Px.out.later hl)
    replace Tt := Lib.hid (Tt.out.later hl)
    replace Rs := Lib.hid (Rs.out.later hl)
    replace Rw := Lib.hid (Rw.out.later hl)
    replace Ro := Lib.hid (Ro.out.later hl)
    replace L0 := Lib.hid (L0.out.trans hl)
    clear hl
    go_wp2
    go_ret
    exact ⟨rfl, L0.out⟩
  subst he
  have HS1 := Lib.hid (applyS_sized HFIT.out HA.out (by omega) (by omega))
  clear hd
  have HC : Hid (Calls Tryz.prog 28 #[v, .slice A1 n1 c1] m3 (GivesDo (t1, 0) m3)) := by
    have := refApply5_any v tr 80 8000 A1 n1 c1 xs m3 Rs.out (HOKX.out.later L0.out) HFIT.out (by omega) (by rw [HLV.out]; omega)
    rw [HLV.out, HA.out] at this
    exact this
  go_wp2_with fail
  refine HC.out.mono ?_
  clear HC
  rintro e m4 ⟨vw, rfl, hr, hl⟩
  dsimp only at hr ⊢
  replace Tt := Lib.hid (Tt.out.later hl)
  replace Rs := Lib.hid (Rs.out.later hl)
  replace L0 := Lib.hid (L0.out.trans hl)
  have Rw := Lib.hid hr
  clear hr hl
  have HC := Lib.hid (HNEW.out _ L0.out)
  go_wp2_with fail
  refine HC.out.mono ?_
  clear HC
  rintro e m5 ⟨vx, rfl, hv, hl⟩
  replace Tt := Lib.hid (Tt.out.later hl)
  replace Rs := Lib.hid (Rs.out.later hl)
  replace Rw := Lib.hid (Rw.out.later hl)
  replace L0 := Lib.hid (L0.out.trans hl)
  have Px := Lib.hid hv
  clear hl hv
  have HC : Hid (Calls Tryz.prog 29 #[.pointer (some ⟨pt, 0, none⟩), vx] m5 (Does (t1, 0) pt Bt m5)) := by
    have := apply_s Tt.out Px.out HFIT.out (by omega) (by omega)
    rw [HA.out] at this
    exact this
  go_wp2_with fail
  refine HC.out.mono ?_
  clear HC
  rintro e m6 ⟨rfl, ht, hg⟩
  dsimp only at ht ⊢
  obtain ⟨es, cc, hm⟩ := Tt.out.files.map
  replace Px := Lib.hid (Px.out.turnS hg hm)
  replace Rs := Lib.hid (Rs.out.turned hg hm)
  replace Rw := Lib.hid (Rw.out.turned hg hm)
  replace L0 := Lib.hid (L0.out.turn hg hBt)
  replace Tt := Lib.hid ht
  clear hm hg ht
  have HC := Lib.hid (oldM_any pt Bt t1 m6 Tt.out (HS1.out.mid5 (by omega) (by omega)))
  go_wp2_with fail
  refine HC.out.mono ?_
  clear HC
  rintro e m7 ⟨vo, rfl, hr, hl⟩
  replace Px := Lib.hid (Px.out.later hl)
  replace Tt := Lib.hid (Tt.out.later hl)
  replace Rs := Lib.hid (Rs.out.later hl)
  replace Rw := Lib.hid (Rw.out.later hl)
  replace L0 := Lib.hid (L0.out.trans hl)
  have Ro := Lib.hid hr
  clear hr hl
  have HC : Hid (Calls Tryz.prog 30 #[vo, vw] m7 fun e w' => e = .returned (.bool true) ∧ Drew m7 w') := by
    have := refSameAt_any vo vw t1 t1 m7 Ro.out Rw.out (by have := HS1.out.many; omega) (by have := HS1.out.many; omega) (HS1.out.lines5 (by omega)) (HS1.out.lines5 (by omega))
    rw [sameT_self] at this
    exact this
  go_wp2_with fail
  refine HC.out.mono ?_
  clear HC
  rintro e m8 ⟨rfl, hdr⟩
  obtain ⟨q, rfl⟩ := hdr
  have hl : Later m7 (m7.drewN q) := (Later.refl _).drewN q
  generalize m7.drewN q = m8 at hl ⊢
  replace Px := Lib.hid (Px.out.later hl)
  replace Tt := Lib.hid (Tt.out.later hl)
  replace Rs := Lib.hid (Rs.out.later hl)
  replace Rw := Lib.hid (Rw.out.later hl)
  replace Ro := Lib.hid (Ro.out.later hl)
  replace L0 := Lib.hid (L0.out.trans hl)
  clear hl
  have HC := Lib.hid (alive5_any m8 (HTB.out.later L0.out))
  go_wp2_with fail
  refine HC.out.mono ?_
  clear HC
  rintro e m9 ⟨rfl, hl⟩
  replace Px := Lib.hid (Px.out.later hl)
  replace Tt := Lib.hid (Tt.out.later hl)
  replace Rs := Lib.hid (Rs.out.later hl)
  replace Rw := Lib.hid (Rw.out.later hl)
  replace Ro := Lib.hid (Ro.out.later hl)
  replace L0 := Lib.hid (L0.out.trans hl)
  clear hl
  have HC := Lib.hid (HNEW.out _ L0.out)
  go_wp2_with fail
  refine HC.out.mono ?_
  clear HC
  rintro e m10 ⟨vy, rfl, hv, hl⟩
  replace Px := Lib.hid (Px.out.later hl)
  replace Tt := Lib.hid (Tt.out.later hl)
  replace Rs := Lib.hid (Rs.out.later hl)
  replace Rw := Lib.hid (Rw.out.later hl)
  replace Ro := Lib.hid (Ro.out.later hl)
  replace L0 := Lib.hid (L0.out.trans hl)
  have Py := Lib.hid hv
  clear hl hv
  have HC := Lib.hid (invert_s Py.out (by omega))
  go_wp2_with fail
  refine HC.out.mono ?_
  clear HC
  rintro e m11 ⟨vz, rfl, hv, hl⟩
  replace Px := Lib.hid (Px.out.later hl)
  replace Py := Lib.hid (Py.out.later hl)
  replace Tt := Lib.hid (Tt.out.later hl)
  replace Rs := Lib.hid (Rs.out.later hl)
  replace Rw := Lib.hid (Rw.out.later hl)
  replace Ro := Lib.hid (Ro.out.later hl)
  replace L0 := Lib.hid (L0.out.trans hl)
  have Pz := Lib.hid hv
  clear hl hv
  have HBK := Lib.hid (applyS_ok.2 (runS_back HRISE.out (applyS_ok.1 HA.out)))
  have hil := invertS_length lx; have hll := linesS_invert lx
  have HC : Hid (Calls Tryz.prog 29 #[.pointer (some ⟨pt, 0, none⟩), vz] m11 (Does (tr, 0) pt Bt m11)) := by
    have := apply_s Tt.out Pz.out HS1.out (by omega) (by omega)
    rw [HBK.out] at this
    exact this
  go_wp2_with fail
  refine HC.out.mono ?_
  clear HC
  rintro e m12 ⟨rfl, ht, hg⟩
  dsimp only at ht ⊢
  obtain ⟨es, cc, hm⟩ := Tt.out.files.map
  replace Px := Lib.hid (Px.out.turnS hg hm)
  replace Py := Lib.hid (Py.out.turnS hg hm)
  replace Pz := Lib.hid (Pz.out.turnS hg hm)
  replace Rs := Lib.hid (Rs.out.turned hg hm)
  replace Rw := Lib.hid (Rw.out.turned hg hm)
  replace Ro := Lib.hid (Ro.out.turned hg hm)
  replace L0 := Lib.hid (L0.out.turn hg hBt)
  replace Tt := Lib.hid ht
  clear hm hg ht
  clear Ro
  have HC := Lib.hid (oldM_any pt Bt tr m12 Tt.out (HFIT.out.mid5 (by omega) (by omega)))
  go_wp2_with fail
  refine HC.out.mono ?_
  clear HC
  rintro e m13 ⟨vo, rfl, hr, hl⟩
  replace Px := Lib.hid (Px.out.later hl)
  replace Py := Lib.hid (Py.out.later hl)
  replace Pz := Lib.hid (Pz.out.later hl)
  replace Tt := Lib.hid (Tt.out.later hl)
  replace Rs := Lib.hid (Rs.out.later hl)
  replace Rw := Lib.hid (Rw.out.later hl)
  replace L0 := Lib.hid (L0.out.trans hl)
  have Ro := Lib.hid hr
  clear hr hl
  have HC : Hid (Calls Tryz.prog 30 #[vo, v] m13 fun e w' => e = .returned (.bool true) ∧ Drew m13 w') := by
    have := refSameAt_any vo v tr tr m13 Ro.out Rs.out (by have := HFIT.out.many; omega) (by have := HFIT.out.many; omega) (HFIT.out.lines5 (by omega)) (HFIT.out.lines5 (by omega))
    rw [sameT_self] at this
    exact this
  go_wp2_with fail
  refine HC.out.mono ?_
  clear HC
  rintro e m14 ⟨rfl, hdr⟩
  obtain ⟨q, rfl⟩ := hdr
  have hl : Later m13 (m13.drewN q) := (Later.refl _).drewN q
  generalize m13.drewN q = m14 at hl ⊢
  replace Px := Lib.hid (Px.out.later hl)
  replace Py := Lib.hid (Py.out.later hl)
  replace Pz := Lib.hid (Pz.out.later hl)
  replace Tt := Lib.hid (Tt.out.later hl)
  replace Rs := Lib.hid (Rs.out.later hl)
  replace Rw := Lib.hid (Rw.out.later hl)
  replace Ro := Lib.hid (Ro.out.later hl)
  replace L0 := Lib.hid (L0.out.trans hl)
  clear hl
  go_wp2
  go_ret
  exact ⟨rfl, L0.out⟩

end Go.Proofs.YtejkgkgjgojlkaaGreatDoor
