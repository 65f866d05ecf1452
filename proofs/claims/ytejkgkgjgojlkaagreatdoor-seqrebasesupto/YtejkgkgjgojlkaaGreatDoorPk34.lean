import Derived.Test.YtejkgkgjgojlkaaGreatDoorPk26
import Derived.Test.YtejkgkgjgojlkaaGreatDoorPk33

/-
  What the law SeqRebases comes to, as a call.
-/
namespace Go.Proofs.YtejkgkgjgojlkaaGreatDoor
open Go.RowKit Go.Maps

set_option maxRecDepth 100000 in
set_option maxHeartbeats 6400000 in
theorem seqRebases_walk (A1 : Option Addr) (n1 c1 : Nat) (xs : List PrC) (A2 : Option Addr) (n2 c2 : Nat) (ys : List PrC) (w : World) (hx : CamePs w A1 n1 xs) (hy : CamePs w A2 n2 ys) (htab : Tab w) : Calls Tryz.prog 7 #[.slice A1 n1 c1, .slice A2 n2 c2] w (Says true w) := by
  have HTB := Lib.hid htab
  clear htab
  have hlx := hx.length; have hly := hy.length
  have HX := Lib.hid hx; have HY := Lib.hid hy
  clear hx hy
  have L0 := Lib.hid (Later.refl w)
  go_enter Tryz.func7, Tryz.ntmps7
  have HC := Lib.hid (few_two (c1 := c2) (c2 := c1) HY.out HX.out L0.out)
  have hlb : Later w (w.alloc (.cells #[.slice A2 n2 c2, .slice A1 n1 c1] 22)) := (Later.refl _).alloc _
  replace L0 := Lib.hid (L0.out.trans hlb)
  clear hlb
  cases hfb : fewB [fr A2 n2 c2 ys, fr A1 n1 c1 xs]
  case false =>
    rw [hfb] at HC
    clear hfb
    go_wp2_with fail
    refine HC.out.mono ?_
    clear HC
    rintro e m1 ⟨rfl, hl⟩
    replace L0 := Lib.hid (L0.out.trans hl)
    clear hl
    have HC := Lib.hid (alive5_any m1 (HTB.out.later L0.out))
    go_wp2_with fail
    refine HC.out.mono ?_
    clear HC
    rintro e m2 ⟨rfl, hl⟩
    replace L0 := Lib.hid (L0.out.trans hl)
    clear hl
    go_wp2
    go_ret
    exact ⟨rfl, L0.out⟩
  obtain ⟨hn40, hw6⟩ := fewB_two hfb
  rw [hfb] at HC
  clear hfb
  go_wp2_with fail
  refine HC.out.mono ?_
  clear HC
  rintro e m1 ⟨rfl, hl⟩
  replace L0 := Lib.hid (L0.out.trans hl)
  clear hl
  have OX := Lib.hid (HX.out.prims.ok (by omega)); have OY := Lib.hid (HY.out.prims.ok (by omega))
  have HC := Lib.hid (new_r (c := c1) HX.out L0.out (by omega) (by omega))
  go_wp2_with fail
  refine HC.out.mono ?_
  clear HC
  rintro e m2 ⟨vx, rfl, hv, hl⟩
  replace L0 := Lib.hid (L0.out.trans hl)
  have Px := Lib.hid hv
  clear hl hv
  have HC := Lib.hid (new_r (c := c2) HY.out L0.out (by omega) (by omega))
  go_wp2_with fail
  refine HC.out.mono ?_
  clear HC
  rintro e m3 ⟨vy, rfl, hv, hl⟩
  replace Px := Lib.hid (Px.out.later hl)
  replace L0 := Lib.hid (L0.out.trans hl)
  have Py := Lib.hid hv
  clear hl hv
  cases hrb : rebaseS (valsP xs) (valsP ys) with
  | none =>
    have hl0 : ([] : List Pr).length ≤ 0 := Nat.le_refl _
    have HC : Hid (Calls Tryz.prog 36 #[vx, vy] m3 (Gives1 none m3)) := by
      have := rebase_s Px.out Py.out (by omega) (by omega)
      rw [hrb] at this
      exact this
    go_wp2_with fail
    refine HC.out.mono ?_
    clear HC
    rintro e m4 ⟨va, rfl, h1, hl⟩
    dsimp only [Option.isSome, oneS] at h1 ⊢
    replace Px := Lib.hid (Px.out.later hl)
    replace Py := Lib.hid (Py.out.later hl)
    replace L0 := Lib.hid (L0.out.trans hl)
    have Pa := Lib.hid h1
    clear hl h1
    have HC : Hid (Calls Tryz.prog 37 #[.slice A1 n1 c1, .slice A2 n2 c2] m4 (Gives1 none m4)) := by
      have := refRebase5_any A1 A2 n1 c1 n2 c2 xs ys m4 (OX.out.later L0.out) (OY.out.later L0.out) (by omega) (by omega)
      rw [hrb] at this
      exact this
    clear hrb
    go_wp2_with fail
    refine HC.out.mono ?_
    clear HC
    rintro e m5 ⟨vb, rfl, h1, hl⟩
    dsimp only [Option.isSome, oneS] at h1 ⊢
    replace Px := Lib.hid (Px.out.later hl)
    replace Py := Lib.hid (Py.out.later hl)
    replace Pa := Lib.hid (Pa.out.later hl)
    replace L0 := Lib.hid (L0.out.trans hl)
    have Pb := Lib.hid h1
    clear hl h1
    have HC := Lib.hid (alive5_any m5 (HTB.out.later L0.out))
    go_wp2_with fail
    refine HC.out.mono ?_
    clear HC
    rintro e m6 ⟨rfl, hl⟩
    replace Px := Lib.hid (Px.out.later hl)
    replace Py := Lib.hid (Py.out.later hl)
    replace Pa := Lib.hid (Pa.out.later hl)
    replace Pb := Lib.hid (Pb.out.later hl)
    replace L0 := Lib.hid (L0.out.trans hl)
    clear hl
    have HC := Lib.hid (old_s Pa.out (by omega))
    go_wp2_with fail
    refine HC.out.mono ?_
    clear HC
    rintro e m7 ⟨vo, rfl, hv, hl⟩
    replace Px := Lib.hid (Px.out.later hl)
    replace Py := Lib.hid (Py.out.later hl)
    replace Pa := Lib.hid (Pa.out.later hl)
    replace Pb := Lib.hid (Pb.out.later hl)
    replace L0 := Lib.hid (L0.out.trans hl)
    have Po := Lib.hid hv
    clear hl hv
    have HC : Hid (Calls Tryz.prog 17 #[vo, vb] m7 (Says true m7)) := by
      have := all_s Po.out Pb.out (by omega) (by omega)
      rw [sameS_self] at this
      exact this
    go_wp2_with fail
    refine HC.out.mono ?_
    clear HC
    rintro e m8 ⟨rfl, hl⟩
    replace Px := Lib.hid (Px.out.later hl)
    replace Py := Lib.hid (Py.out.later hl)
    replace Pa := Lib.hid (Pa.out.later hl)
    replace Pb := Lib.hid (Pb.out.later hl)
    replace Po := Lib.hid (Po.out.later hl)
    replace L0 := Lib.hid (L0.out.trans hl)
    clear hl
    go_wp2
    go_ret
    exact ⟨rfl, L0.out⟩
  | some la =>
    have hla := rebaseS_sizes hrb
    have HC : Hid (Calls Tryz.prog 36 #[vx, vy] m3 (Gives1 (some la) m3)) := by
      have := rebase_s Px.out Py.out (by omega) (by omega)
      rw [hrb] at this
      exact this
    go_wp2_with fail
    refine HC.out.mono ?_
    clear HC
    rintro e m4 ⟨va, rfl, h1, hl⟩
    dsimp only [Option.isSome, oneS] at h1 ⊢
    replace Px := Lib.hid (Px.out.later hl)
    replace Py := Lib.hid (Py.out.later hl)
    replace L0 := Lib.hid (L0.out.trans hl)
    have Pa := Lib.hid h1
    clear hl h1
    have HC : Hid (Calls Tryz.prog 37 #[.slice A1 n1 c1, .slice A2 n2 c2] m4 (Gives1 (some la) m4)) := by
      have := refRebase5_any A1 A2 n1 c1 n2 c2 xs ys m4 (OX.out.later L0.out) (OY.out.later L0.out) (by omega) (by omega)
      rw [hrb] at this
      exact this
    clear hrb
    go_wp2_with fail
    refine HC.out.mono ?_
    clear HC
    rintro e m5 ⟨vb, rfl, h1, hl⟩
    dsimp only [Option.isSome, oneS] at h1 ⊢
    replace Px := Lib.hid (Px.out.later hl)
    replace Py := Lib.hid (Py.out.later hl)
    replace Pa := Lib.hid (Pa.out.later hl)
    replace L0 := Lib.hid (L0.out.trans hl)
    have Pb := Lib.hid h1
    clear hl h1
    have HC := Lib.hid (alive5_any m5 (HTB.out.later L0.out))
    go_wp2_with fail
    refine HC.out.mono ?_
    clear HC
    rintro e m6 ⟨rfl, hl⟩
    replace Px := Lib.hid (Px.out.later hl)
    replace Py := Lib.hid (Py.out.later hl)
    replace Pa := Lib.hid (Pa.out.later hl)
    replace Pb := Lib.hid (Pb.out.later hl)
    replace L0 := Lib.hid (L0.out.trans hl)
    clear hl
    have HC := Lib.hid (old_s Pa.out (by omega))
    go_wp2_with fail
    refine HC.out.mono ?_
    clear HC
    rintro e m7 ⟨vo, rfl, hv, hl⟩
    replace Px := Lib.hid (Px.out.later hl)
    replace Py := Lib.hid (Py.out.later hl)
    replace Pa := Lib.hid (Pa.out.later hl)
    replace Pb := Lib.hid (Pb.out.later hl)
    replace L0 := Lib.hid (L0.out.trans hl)
    have Po := Lib.hid hv
    clear hl hv
    have HC : Hid (Calls Tryz.prog 17 #[vo, vb] m7 (Says true m7)) := by
      have := all_s Po.out Pb.out (by omega) (by omega)
      rw [sameS_self] at this
      exact this
    go_wp2_with fail
    refine HC.out.mono ?_
    clear HC
    rintro e m8 ⟨rfl, hl⟩
    replace Px := Lib.hid (Px.out.later hl)
    replace Py := Lib.hid (Py.out.later hl)
    replace Pa := Lib.hid (Pa.out.later hl)
    replace Pb := Lib.hid (Pb.out.later hl)
    replace Po := Lib.hid (Po.out.later hl)
    replace L0 := Lib.hid (L0.out.trans hl)
    clear hl
    go_wp2
    go_ret
    exact ⟨rfl, L0.out⟩

end Go.Proofs.YtejkgkgjgojlkaaGreatDoor
