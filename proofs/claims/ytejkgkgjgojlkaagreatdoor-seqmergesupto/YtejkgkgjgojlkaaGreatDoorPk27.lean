import Derived.Test.YtejkgkgjgojlkaaGreatDoorPk26

/-
  What the law SeqMerges comes to, as a call.
-/
namespace Go.Proofs.YtejkgkgjgojlkaaGreatDoor
open Go.RowKit Go.Maps

theorem rebaseS_sizes {m l a : List Pr} (h : rebaseS m l = some a) : a.length = m.length ∧ linesS a = linesS m := by
  obtain ⟨b, hb⟩ := rebase_iff.1 h
  exact ⟨(swapS_length hb).1, (swapS_lines hb).1⟩
set_option maxRecDepth 100000 in
set_option maxHeartbeats 6400000 in
theorem seqMerges_walk (A : Option Addr) (n c : Nat) (os : List OpC) (A1 : Option Addr) (n1 c1 : Nat) (xs : List PrC) (A2 : Option Addr) (n2 c2 : Nat) (ys : List PrC) (w : World) (hs : CameS w A n os) (hx : CamePs w A1 n1 xs) (hy : CamePs w A2 n2 ys) (htab : Tab w) : Calls Tryz.prog 8 #[.slice A n c, .slice A1 n1 c1, .slice A2 n2 c2] w (Says true w) := by
  have HTB := Lib.hid htab
  clear htab
  have hlx := hx.length; have hly := hy.length; have hwx := linesS_weight xs; have hwy := linesS_weight ys
  have HX := Lib.hid hx; have HY := Lib.hid hy
  clear hx hy
  have HF := Lib.hid (few_any A n c os w hs.script hs.many hs.weigh)
  have hbd : fewN n (weightL os) ≤ 4000000 := by have h1 := hs.many; have h2 := hs.weigh; unfold fewN; split <;> omega
  have hz := @few_zero n (weightL os)
  generalize fewN n (weightL os) = fw at HF hbd hz
  by_cases h0 : fw = 0
  case neg =>
    have hpos : (0 : Int) < fw := by omega
    have hd : decide ((0 : Int) < fw) = true := by simp; omega
    go_enter Tryz.func8, Tryz.ntmps8
    go_wp2_with fail
    refine HF.out.mono ?_
    clear HF
    rintro e m1 ⟨rfl, hl⟩
    have L0 := Lib.hid hl
    clear hl
    have HC := Lib.hid (alive5_any m1 (HTB.out.later L0.out))
    go_wp2_with fail
    refine HC.out.mono ?_
    clear HC
    rintro e m2 ⟨rfl, hl⟩
    replace L0 := Lib.hid (L0.out.trans hl)
    clear hl
    go_wp2
    go_ret
    exact ⟨rfl, L0.out⟩
  obtain ⟨hn80, hW80⟩ := hz.1 h0
  subst h0
  have HS := Lib.hid hs
  clear hs hz
  go_enter Tryz.func8, Tryz.ntmps8
  go_wp2_with fail
  refine HF.out.mono ?_
  clear HF
  rintro e m1 ⟨rfl, hl⟩
  have L0 := Lib.hid hl
  clear hl
  have HC := Lib.hid (few_two (c1 := c1) (c2 := c2) HX.out HY.out L0.out)
  have hlb : Later m1 (m1.alloc (.cells #[.slice A1 n1 c1, .slice A2 n2 c2] 22)) := (Later.refl _).alloc _
  replace L0 := Lib.hid (L0.out.trans hlb)
  clear hlb
  cases hfb : fewB [fr A1 n1 c1 xs, fr A2 n2 c2 ys]
  case false =>
    rw [hfb] at HC
    clear hfb
    go_wp2_with fail
    refine HC.out.mono ?_
    clear HC
    rintro e m2 ⟨rfl, hl⟩
    replace L0 := Lib.hid (L0.out.trans hl)
    clear hl
    have HC := Lib.hid (alive5_any m2 (HTB.out.later L0.out))
    go_wp2_with fail
    refine HC.out.mono ?_
    clear HC
    rintro e m3 ⟨rfl, hl⟩
    replace L0 := Lib.hid (L0.out.trans hl)
    clear hl
    go_wp2
    go_ret
    exact ⟨rfl, L0.out⟩
  obtain ⟨hn40, hw6⟩ := fewB_two hfb
  rw [hfb] at HC
  clear hfb
  go_wp2_with fail
  refine HC.out.mono ?_
  clear HC
  rintro e m2 ⟨rfl, hl⟩
  replace L0 := Lib.hid (L0.out.trans hl)
  clear hl
  have HC := Lib.hid (made_any A n c os m2 (HS.out.script.later L0.out) hn80 hW80)
  have hfit := (made_fits HS.out.script hW80).sizedS.mono hn80 (Nat.le_refl 8000)
  generalize madeT os = tr at HC hfit
  have HFIT := Lib.hid hfit
  clear hfit
  go_wp2_with fail
  refine HC.out.mono ?_
  clear HC
  rintro e m3 ⟨pt, Bt, v, rfl, ht, -, -, hBt0, hl⟩
  have hBt : w.heap.size ≤ Bt := Nat.le_trans L0.out.le hBt0
  clear hBt0
  replace L0 := Lib.hid (L0.out.trans hl)
  have Tt := Lib.hid ht
  have HRISE := Lib.hid ht.files.rise
  clear hl ht
  have HC := Lib.hid (copy_any pt Bt tr m3 Tt.out (by have := HFIT.out.many; omega) (HFIT.out.lines (by omega)))
  go_wp2_with fail
  refine HC.out.mono ?_
  clear HC
  rintro e m4 ⟨pu, Bu, rfl, ht, -, hBu0, hl⟩
  have hBu : w.heap.size ≤ Bu := Nat.le_trans L0.out.le hBu0
  have hne : Bt ≠ Bu := by have := Tt.out.files.lt; omega
  clear hBu0
  replace Tt := Lib.hid (Tt.out.later hl)
  replace L0 := Lib.hid (L0.out.trans hl)
  have Tu := Lib.hid ht
  clear hl ht
  have HC := Lib.hid (new_r (c := c1) HX.out L0.out (by omega) (by omega))
  go_wp2_with fail
  refine HC.out.mono ?_
  clear HC
  rintro e m5 ⟨vx, rfl, hv, hl⟩
  replace Tt := Lib.hid (Tt.out.later hl)
  replace Tu := Lib.hid (Tu.out.later hl)
  replace L0 := Lib.hid (L0.out.trans hl)
  have Px := Lib.hid hv
  clear hl hv
  have HC := Lib.hid (new_r (c := c2) HY.out L0.out (by omega) (by omega))
  go_wp2_with fail
  refine HC.out.mono ?_
  clear HC
  rintro e m6 ⟨vy, rfl, hv, hl⟩
  replace Px := Lib.hid (Px.out.later hl)
  replace Tt := Lib.hid (Tt.out.later hl)
  replace Tu := Lib.hid (Tu.out.later hl)
  replace L0 := Lib.hid (L0.out.trans hl)
  have Py := Lib.hid hv
  clear hl hv
  generalize valsP xs = lx at *
  generalize valsP ys = ly at *
  have hsome := rebase_some lx ly
  cases hrb : rebaseS ly lx with
  | none =>
    rw [hrb] at hsome
    have hrc : rebaseS lx ly = none := Option.isNone_iff_eq_none.1 (by simp [← Option.not_isSome, ← hsome])
    clear hsome
    have HC : Hid (Calls Tryz.prog 36 #[vy, vx] m6 (Gives1 none m6)) := by
      have := rebase_s Py.out Px.out (by omega) (by omega)
      rw [hrb] at this
      exact this
    go_wp2_with fail
    refine HC.out.mono ?_
    clear HC
    rintro e m7 ⟨va, rfl, h1, hl⟩
    dsimp only [Option.isSome, oneS] at h1 ⊢
    replace Px := Lib.hid (Px.out.later hl)
    replace Py := Lib.hid (Py.out.later hl)
    replace Tt := Lib.hid (Tt.out.later hl)
    replace Tu := Lib.hid (Tu.out.later hl)
    replace L0 := Lib.hid (L0.out.trans hl)
    have Pa := Lib.hid h1
    clear hl h1
    have HC : Hid (Calls Tryz.prog 36 #[vx, vy] m7 (Gives1 none m7)) := by
      have := rebase_s Px.out Py.out (by omega) (by omega)
      rw [hrc] at this
      exact this
    go_wp2_with fail
    refine HC.out.mono ?_
    clear HC
    rintro e m8 ⟨vb, rfl, h1, hl⟩
    dsimp only [Option.isSome, oneS] at h1 ⊢
    replace Px := Lib.hid (Px.out.later hl)
    replace Py := Lib.hid (Py.out.later hl)
    replace Pa := Lib.hid (Pa.out.later hl)
    replace Tt := Lib.hid (Tt.out.later hl)
    replace Tu := Lib.hid (Tu.out.later hl)
    replace L0 := Lib.hid (L0.out.trans hl)
    have Pb := Lib.hid h1
    clear hl h1
    clear hrb hrc
    obtain ⟨t1, et1, ht1⟩ : ∃ u e, applyS tr lx = (u, e) := ⟨_, _, rfl⟩
    have Ht1 := Lib.hid ht1
    clear ht1
    by_cases he : et1 = 0
    case neg =>
      have hd : (et1 != 0) = true := by rw [bne_iff_ne]; exact he
      have HC : Hid (Calls Tryz.prog 29 #[.pointer (some ⟨pt, 0, none⟩), vx] m8 (Does (t1, et1) pt Bt m8)) := by
        have := apply_s Tt.out Px.out HFIT.out (by omega) (by omega)
        rw [Ht1.out] at this
        exact this
      go_wp2_with fail
      refine HC.out.mono ?_
      clear HC
      rintro e m9 ⟨rfl, ht, hg⟩
      dsimp only at ht ⊢
      obtain ⟨es, cc, hm⟩ := Tt.out.files.map
      replace Px := Lib.hid (Px.out.turnS hg hm)
      replace Py := Lib.hid (Py.out.turnS hg hm)
      replace Pa := Lib.hid (Pa.out.turnS hg hm)
      replace Pb := Lib.hid (Pb.out.turnS hg hm)
      replace Tu := Lib.hid (Tu.out.other hg (Ne.symm hne) hm)
      replace L0 := Lib.hid (L0.out.turn hg hBt)
      replace Tt := Lib.hid ht
      clear hm hg ht
      have HC := Lib.hid (alive5_any m9 (HTB.out.later L0.out))
      go_wp2_with fail
      refine HC.out.mono ?_
      clear HC
      rintro e m10 ⟨rfl, hl⟩
      replace Px := Lib.hid (Px.out.later hl)
      replace Py := Lib.hid (Py.out.later hl)
      replace Pa := Lib.hid (Pa.out.later hl)
      replace Pb := Lib.hid (Pb.out.later hl)
      replace Tt := Lib.hid (Tt.out.later hl)
      replace Tu := Lib.hid (Tu.out.later hl)
      replace L0 := Lib.hid (L0.out.trans hl)
      clear hl
      go_wp2
      go_ret
      exact ⟨rfl, L0.out⟩
    subst he
    have HC : Hid (Calls Tryz.prog 29 #[.pointer (some ⟨pt, 0, none⟩), vx] m8 (Does (t1, 0) pt Bt m8)) := by
      have := apply_s Tt.out Px.out HFIT.out (by omega) (by omega)
      rw [Ht1.out] at this
      exact this
    go_wp2_with fail
    refine HC.out.mono ?_
    clear HC
    rintro e m9 ⟨rfl, ht, hg⟩
    dsimp only at ht ⊢
    obtain ⟨es, cc, hm⟩ := Tt.out.files.map
    replace Px := Lib.hid (Px.out.turnS hg hm)
    replace Py := Lib.hid (Py.out.turnS hg hm)
    replace Pa := Lib.hid (Pa.out.turnS hg hm)
    replace Pb := Lib.hid (Pb.out.turnS hg hm)
    replace Tu := Lib.hid (Tu.out.other hg (Ne.symm hne) hm)
    replace L0 := Lib.hid (L0.out.turn hg hBt)
    replace Tt := Lib.hid ht
    clear hm hg ht
    obtain ⟨u1, eu1, hu1⟩ : ∃ u e, applyS tr ly = (u, e) := ⟨_, _, rfl⟩
    have Hu1 := Lib.hid hu1
    clear hu1
    by_cases he : eu1 = 0
    case neg =>
      have hd : (eu1 != 0) = true := by rw [bne_iff_ne]; exact he
      have HC : Hid (Calls Tryz.prog 29 #[.pointer (some ⟨pu, 0, none⟩), vy] m9 (Does (u1, eu1) pu Bu m9)) := by
        have := apply_s Tu.out Py.out HFIT.out (by omega) (by omega)
        rw [Hu1.out] at this
        exact this
      go_wp2_with fail
      refine HC.out.mono ?_
      clear HC
      rintro e m10 ⟨rfl, ht, hg⟩
      dsimp only at ht ⊢
      obtain ⟨es, cc, hm⟩ := Tu.out.files.map
      replace Px := Lib.hid (Px.out.turnS hg hm)
      replace Py := Lib.hid (Py.out.turnS hg hm)
      replace Pa := Lib.hid (Pa.out.turnS hg hm)
      replace Pb := Lib.hid (Pb.out.turnS hg hm)
      replace Tt := Lib.hid (Tt.out.other hg (hne) hm)
      replace L0 := Lib.hid (L0.out.turn hg hBu)
      replace Tu := Lib.hid ht
      clear hm hg ht
      have HC := Lib.hid (alive5_any m10 (HTB.out.later L0.out))
      go_wp2_with fail
      refine HC.out.mono ?_
      clear HC
      rintro e m11 ⟨rfl, hl⟩
      replace Px := Lib.hid (Px.out.later hl)
      replace Py := Lib.hid (Py.out.later hl)
      replace Pa := Lib.hid (Pa.out.later hl)
      replace Pb := Lib.hid (Pb.out.later hl)
      replace Tt := Lib.hid (Tt.out.later hl)
      replace Tu := Lib.hid (Tu.out.later hl)
      replace L0 := Lib.hid (L0.out.trans hl)
      clear hl
      go_wp2
      go_ret
      exact ⟨rfl, L0.out⟩
    subst he
    have HC : Hid (Calls Tryz.prog 29 #[.pointer (some ⟨pu, 0, none⟩), vy] m9 (Does (u1, 0) pu Bu m9)) := by
      have := apply_s Tu.out Py.out HFIT.out (by omega) (by omega)
      rw [Hu1.out] at this
      exact this
    go_wp2_with fail
    refine HC.out.mono ?_
    clear HC
    rintro e m10 ⟨rfl, ht, hg⟩
    dsimp only at ht ⊢
    obtain ⟨es, cc, hm⟩ := Tu.out.files.map
    replace Px := Lib.hid (Px.out.turnS hg hm)
    replace Py := Lib.hid (Py.out.turnS hg hm)
    replace Pa := Lib.hid (Pa.out.turnS hg hm)
    replace Pb := Lib.hid (Pb.out.turnS hg hm)
    replace Tt := Lib.hid (Tt.out.other hg (hne) hm)
    replace L0 := Lib.hid (L0.out.turn hg hBu)
    replace Tu := Lib.hid ht
    clear hm hg ht
    have HC := Lib.hid (alive5_any m10 (HTB.out.later L0.out))
    go_wp2_with fail
    refine HC.out.mono ?_
    clear HC
    rintro e m11 ⟨rfl, hl⟩
    replace Px := Lib.hid (Px.out.later hl)
    replace Py := Lib.hid (Py.out.later hl)
    replace Pa := Lib.hid (Pa.out.later hl)
    replace Pb := Lib.hid (Pb.out.later hl)
    replace Tt := Lib.hid (Tt.out.later hl)
    replace Tu := Lib.hid (Tu.out.later hl)
    replace L0 := Lib.hid (L0.out.trans hl)
    clear hl
    go_wp2
    go_ret
    exact ⟨rfl, L0.out⟩
  | some la =>
    rw [hrb] at hsome
    obtain ⟨lb, hrc⟩ := Option.isSome_iff_exists.1 hsome.symm
    clear hsome
    have hla := rebaseS_sizes hrb; have hlb := rebaseS_sizes hrc
    have HMG := Lib.hid (fun t1 u1 (h1 : runS tr lx = (t1, 0)) (h2 : runS tr ly = (u1, 0)) => merges HRISE.out h1 h2 hrb hrc)
    have HC : Hid (Calls Tryz.prog 36 #[vy, vx] m6 (Gives1 (some la) m6)) := by
      have := rebase_s Py.out Px.out (by omega) (by omega)
      rw [hrb] at this
      exact this
    go_wp2_with fail
    refine HC.out.mono ?_
    clear HC
    rintro e m7 ⟨va, rfl, h1, hl⟩
    dsimp only [Option.isSome, oneS] at h1 ⊢
    replace Px := Lib.hid (Px.out.later hl)
    replace Py := Lib.hid (Py.out.later hl)
    replace Tt := Lib.hid (Tt.out.later hl)
    replace Tu := Lib.hid (Tu.out.later hl)
    replace L0 := Lib.hid (L0.out.trans hl)
    have Pa := Lib.hid h1
    clear hl h1
    have HC : Hid (Calls Tryz.prog 36 #[vx, vy] m7 (Gives1 (some lb) m7)) := by
      have := rebase_s Px.out Py.out (by omega) (by omega)
      rw [hrc] at this
      exact this
    go_wp2_with fail
    refine HC.out.mono ?_
    clear HC
    rintro e m8 ⟨vb, rfl, h1, hl⟩
    dsimp only [Option.isSome, oneS] at h1 ⊢
    replace Px := Lib.hid (Px.out.later hl)
    replace Py := Lib.hid (Py.out.later hl)
    replace Pa := Lib.hid (Pa.out.later hl)
    replace Tt := Lib.hid (Tt.out.later hl)
    replace Tu := Lib.hid (Tu.out.later hl)
    replace L0 := Lib.hid (L0.out.trans hl)
    have Pb := Lib.hid h1
    clear hl h1
    clear hrb hrc
    obtain ⟨t1, et1, ht1⟩ : ∃ u e, applyS tr lx = (u, e) := ⟨_, _, rfl⟩
    have Ht1 := Lib.hid ht1
    clear ht1
    by_cases he : et1 = 0
    case neg =>
      have hd : (et1 != 0) = true := by rw [bne_iff_ne]; exact he
      have HC : Hid (Calls Tryz.prog 29 #[.pointer (some ⟨pt, 0, none⟩), vx] m8 (Does (t1, et1) pt Bt m8)) := by
        have := apply_s Tt.out Px.out HFIT.out (by omega) (by omega)
        rw [Ht1.out] at this
        exact this
      go_wp2_with fail
      refine HC.out.mono ?_
      clear HC
      rintro e m9 ⟨rfl, ht, hg⟩
      dsimp only at ht ⊢
      obtain ⟨es, cc, hm⟩ := Tt.out.files.map
      replace Px := Lib.hid (Px.out.turnS hg hm)
      replace Py := Lib.hid (Py.out.turnS hg hm)
      replace Pa := Lib.hid (Pa.out.turnS hg hm)
      replace Pb := Lib.hid (Pb.out.turnS hg hm)
      replace Tu := Lib.hid (Tu.out.other hg (Ne.symm hne) hm)
      replace L0 := Lib.hid (L0.out.turn hg hBt)
      replace Tt := Lib.hid ht
      clear hm hg ht
      have HC := Lib.hid (alive5_any m9 (HTB.out.later L0.out))
      go_wp2_with fail
      refine HC.out.mono ?_
      clear HC
      rintro e m10 ⟨rfl, hl⟩
      replace Px := Lib.hid (Px.out.later hl)
      replace Py := Lib.hid (Py.out.later hl)
      replace Pa := Lib.hid (Pa.out.later hl)
      replace Pb := Lib.hid (Pb.out.later hl)
      replace Tt := Lib.hid (Tt.out.later hl)
      replace Tu := Lib.hid (Tu.out.later hl)
      replace L0 := Lib.hid (L0.out.trans hl)
      clear hl
      go_wp2
      go_ret
      exact ⟨rfl, L0.out⟩
    subst he
    have HC : Hid (Calls Tryz.prog 29 #[.pointer (some ⟨pt, 0, none⟩), vx] m8 (Does (t1, 0) pt Bt m8)) := by
      have := apply_s Tt.out Px.out HFIT.out (by omega) (by omega)
      rw [Ht1.out] at this
      exact this
    go_wp2_with fail
    refine HC.out.mono ?_
    clear HC
    rintro e m9 ⟨rfl, ht, hg⟩
    dsimp only at ht ⊢
    obtain ⟨es, cc, hm⟩ := Tt.out.files.map
    replace Px := Lib.hid (Px.out.turnS hg hm)
    replace Py := Lib.hid (Py.out.turnS hg hm)
    replace Pa := Lib.hid (Pa.out.turnS hg hm)
    replace Pb := Lib.hid (Pb.out.turnS hg hm)
    replace Tu := Lib.hid (Tu.out.other hg (Ne.symm hne) hm)
    replace L0 := Lib.hid (L0.out.turn hg hBt)
    replace Tt := Lib.hid ht
    clear hm hg ht
    obtain ⟨u1, eu1, hu1⟩ : ∃ u e, applyS tr ly = (u, e) := ⟨_, _, rfl⟩
    have Hu1 := Lib.hid hu1
    clear hu1
    by_cases he : eu1 = 0
    case neg =>
      have hd : (eu1 != 0) = true := by rw [bne_iff_ne]; exact he
      have HC : Hid (Calls Tryz.prog 29 #[.pointer (some ⟨pu, 0, none⟩), vy] m9 (Does (u1, eu1) pu Bu m9)) := by
        have := apply_s Tu.out Py.out HFIT.out (by omega) (by omega)
        rw [Hu1.out] at this
        exact this
      go_wp2_with fail
      refine HC.out.mono ?_
      clear HC
      rintro e m10 ⟨rfl, ht, hg⟩
      dsimp only at ht ⊢
      obtain ⟨es, cc, hm⟩ := Tu.out.files.map
      replace Px := Lib.hid (Px.out.turnS hg hm)
      replace Py := Lib.hid (Py.out.turnS hg hm)
      replace Pa := Lib.hid (Pa.out.turnS hg hm)
      replace Pb := Lib.hid (Pb.out.turnS hg hm)
      replace Tt := Lib.hid (Tt.out.other hg (hne) hm)
      replace L0 := Lib.hid (L0.out.turn hg hBu)
      replace Tu := Lib.hid ht
      clear hm hg ht
      have HC := Lib.hid (alive5_any m10 (HTB.out.later L0.out))
      go_wp2_with fail
      refine HC.out.mono ?_
      clear HC
      rintro e m11 ⟨rfl, hl⟩
      replace Px := Lib.hid (Px.out.later hl)
      replace Py := Lib.hid (Py.out.later hl)
      replace Pa := Lib.hid (Pa.out.later hl)
      replace Pb := Lib.hid (Pb.out.later hl)
      replace Tt := Lib.hid (Tt.out.later hl)
      replace Tu := Lib.hid (Tu.out.later hl)
      replace L0 := Lib.hid (L0.out.trans hl)
      clear hl
      go_wp2
      go_ret
      exact ⟨rfl, L0.out⟩
    subst he
    have HC : Hid (Calls Tryz.prog 29 #[.pointer (some ⟨pu, 0, none⟩), vy] m9 (Does (u1, 0) pu Bu m9)) := by
      have := apply_s Tu.out Py.out HFIT.out (by omega) (by omega)
      rw [Hu1.out] at this
      exact this
    go_wp2_with fail
    refine HC.out.mono ?_
    clear HC
    rintro e m10 ⟨rfl, ht, hg⟩
    dsimp only at ht ⊢
    obtain ⟨es, cc, hm⟩ := Tu.out.files.map
    replace Px := Lib.hid (Px.out.turnS hg hm)
    replace Py := Lib.hid (Py.out.turnS hg hm)
    replace Pa := Lib.hid (Pa.out.turnS hg hm)
    replace Pb := Lib.hid (Pb.out.turnS hg hm)
    replace Tt := Lib.hid (Tt.out.other hg (hne) hm)
    replace L0 := Lib.hid (L0.out.turn hg hBu)
    replace Tu := Lib.hid ht
    clear hm hg ht
    obtain ⟨t2, ha, hb⟩ := HMG.out t1 u1 (applyS_ok.1 Ht1.out) (applyS_ok.1 Hu1.out)
    have HA := Lib.hid (applyS_ok.2 ha); have HB := Lib.hid (applyS_ok.2 hb)
    clear ha hb
    have HS1 := Lib.hid (applyS_sized HFIT.out Ht1.out (by omega) (by omega)); have HS2 := Lib.hid (applyS_sized HFIT.out Hu1.out (by omega) (by omega))
    have HS3 := Lib.hid (runS_sized (l := la) HS1.out)
    rw [applyS_ok.1 HA.out] at HS3
    have HLN := Lib.hid (HS3.out.lines (by omega))
    have HC := Lib.hid (alive5_any m10 (HTB.out.later L0.out))
    go_wp2_with fail
    refine HC.out.mono ?_
    clear HC
    rintro e m11 ⟨rfl, hl⟩
    replace Px := Lib.hid (Px.out.later hl)
    replace Py := Lib.hid (Py.out.later hl)
    replace Pa := Lib.hid (Pa.out.later hl)
    replace Pb := Lib.hid (Pb.out.later hl)
    replace Tt := Lib.hid (Tt.out.later hl)
    replace Tu := Lib.hid (Tu.out.later hl)
    replace L0 := Lib.hid (L0.out.trans hl)
    clear hl
    have HC : Hid (Calls Tryz.prog 29 #[.pointer (some ⟨pt, 0, none⟩), va] m11 (Does (t2, 0) pt Bt m11)) := by
      have := apply_s Tt.out Pa.out HS1.out (by omega) (by omega)
      rw [HA.out] at this
      exact this
    go_wp2_with fail
    refine HC.out.mono ?_
    clear HC
    rintro e m12 ⟨rfl, ht, hg⟩
    dsimp only at ht ⊢
    obtain ⟨es, cc, hm⟩ := Tt.out.files.map
    replace Px := Lib.hid (Px.out.turnS hg hm)
    replace Py := Lib.hid (Py.out.turnS hg hm)
    replace Pa := Lib.hid (Pa.out.turnS hg hm)
    replace Pb := Lib.hid (Pb.out.turnS hg hm)
    replace Tu := Lib.hid (Tu.out.other hg (Ne.symm hne) hm)
    replace L0 := Lib.hid (L0.out.turn hg hBt)
    replace Tt := Lib.hid ht
    clear hm hg ht
    have HC : Hid (Calls Tryz.prog 29 #[.pointer (some ⟨pu, 0, none⟩), vb] m12 (Does (t2, 0) pu Bu m12)) := by
      have := apply_s Tu.out Pb.out HS2.out (by omega) (by omega)
      rw [HB.out] at this
      exact this
    go_wp2_with fail
    refine HC.out.mono ?_
    clear HC
    rintro e m13 ⟨rfl, ht, hg⟩
    dsimp only at ht ⊢
    obtain ⟨es, cc, hm⟩ := Tu.out.files.map
    replace Px := Lib.hid (Px.out.turnS hg hm)
    replace Py := Lib.hid (Py.out.turnS hg hm)
    replace Pa := Lib.hid (Pa.out.turnS hg hm)
    replace Pb := Lib.hid (Pb.out.turnS hg hm)
    replace Tt := Lib.hid (Tt.out.other hg (hne) hm)
    replace L0 := Lib.hid (L0.out.turn hg hBu)
    replace Tu := Lib.hid ht
    clear hm hg ht
    have HC : Hid (Calls Tryz.prog 35 #[.pointer (some ⟨pt, 0, none⟩), .pointer (some ⟨pu, 0, none⟩)] m13 (Says true m13)) := by
      have := sameTree_any pt Bt pu Bu t2 t2 m13 Tt.out Tu.out HLN.out HLN.out
      rw [sameT_self] at this
      exact this
    go_wp2_with fail
    refine HC.out.mono ?_
    clear HC
    rintro e m14 ⟨rfl, hl⟩
    replace Px := Lib.hid (Px.out.later hl)
    replace Py := Lib.hid (Py.out.later hl)
    replace Pa := Lib.hid (Pa.out.later hl)
    replace Pb := Lib.hid (Pb.out.later hl)
    replace Tt := Lib.hid (Tt.out.later hl)
    replace Tu := Lib.hid (Tu.out.later hl)
    replace L0 := Lib.hid (L0.out.trans hl)
    clear hl
    go_wp2
    go_ret
    exact ⟨rfl, L0.out⟩

end Go.Proofs.YtejkgkgjgojlkaaGreatDoor
