import Derived.Test.YtbhnbkcokhfopaaGreatPk14
import Derived.Test.YtbhnbkcokhfopaaGreatPk10
import Derived.Deep.LoopGhost
import Derived.Deep.QuietTactic
import Derived.BigQuiet
import Derived.Lib.Hide

/-
  Layer 6's own example comes out true, as a call.
-/
namespace Go.Proofs.YtbhnbkcokhfopaaGreat
open Go.RowKit Go.Maps

theorem add_tN : addT [] tN = ([(tN, [])], 0) := by decide
theorem row_get1 {w : World} {A : Option Addr} {n : Nat} {s : ByteArray} (h : Row w A n [s]) : n = 1 ∧ ∃ b o, A = some ⟨b, o, none⟩ ∧ w.cell? ⟨b, o, none⟩ = some (.string s) := by
  have h1 : n = 1 := h.1.symm
  subst h1
  obtain ⟨b, o, e, hc⟩ := h.get (k := 0) (by omega)
  exact ⟨rfl, b, o, e, by simpa using hc⟩

set_option maxRecDepth 100000 in
set_option maxHeartbeats 3200000 in
theorem alive6_any (w : World) : Calls Tryz.prog 5 #[] w (Says true w) := by
  have hl0 : Later w ((w.alloc (.cells #[.string tX, .string tY, .string tZ] 9)).alloc (.cells #[.string tX, .string tQ, .string tZ] 9)) := ((Later.refl w).alloc _).alloc _
  have r1 : Row ((w.alloc (.cells #[.string tX, .string tY, .string tZ] 9)).alloc (.cells #[.string tX, .string tQ, .string tZ] 9)) (some ⟨w.heap.size, 0, none⟩) 3 [tX, tY, tZ] := (Row.lit w [tX, tY, tZ] 9).later ((Later.refl _).alloc _)
  have r2 : Row ((w.alloc (.cells #[.string tX, .string tY, .string tZ] 9)).alloc (.cells #[.string tX, .string tQ, .string tZ] 9)) (some ⟨w.heap.size + 1, 0, none⟩) 3 [tX, tQ, tZ] := by
    have := Row.lit (w.alloc (.cells #[.string tX, .string tY, .string tZ] 9)) [tX, tQ, tZ] 9
    rw [World.size_alloc] at this
    exact this
  have hsm : ∀ s ∈ [tX, tY, tZ], s.size ≤ maxLen := by decide
  have hsn : ∀ s ∈ [tX, tQ, tZ], s.size ≤ maxLen := by decide
  have HLN := Lib.hid (lines_any tA _ _ 3 3 3 3 _ _ _ r1 r2 (Nat.le_refl _) (Nat.le_refl _) (by decide) (by decide) (by decide) hsm hsn)
  rw [ex_lines] at HLN
  have HCM := Lib.hid (fun w' (h : Later ((w.alloc (.cells #[.string tX, .string tY, .string tZ] 9)).alloc (.cells #[.string tX, .string tQ, .string tZ] 9)) w') => common_any _ _ 3 3 3 3 _ _ w' (r1.later h) (r2.later h) (by decide) (by decide))
  rw [ex_common] at HCM
  have HL0 := Lib.hid hl0
  clear r1 r2 hl0 hsm hsn
  go_enter Tryz.func5, Tryz.ntmps5
  go_wp2_with fail
  refine HLN.out.mono ?_
  rintro e w1 ⟨v3, xs, rfl, ho3, hv3, hf3⟩
  obtain ⟨A3, c3, hs3, hcc3, hp3⟩ := ho3.row
  have HC1 := Lib.hid (HCM.out w1 ho3.later)
  have HL1 := Lib.hid (HL0.out.trans ho3.later)
  obtain ⟨x0, rfl⟩ : ∃ x0, xs = [x0] := by
    have h1 : xs.length = 1 := by have := congrArg List.length hv3; rw [valsP_length] at this; simpa using this
    exact List.length_eq_one_iff.1 h1
  have hx0 : x0.v = hunkP tA 1 [tY] [tQ] := by simpa [valsP] using hv3
  replace hs3 : v3 = .slice A3 1 c3 := hs3
  subst hs3
  obtain ⟨b3, o3, x0', hA3, hz, hok, -, -, -, p3, p4, p5⟩ := hp3.get (j := 0) (by simp)
  cases hz
  subst hA3
  obtain ⟨hn1, bo, oo, hao, q4⟩ := row_get1 (w := w1) (A := x0.A) (n := x0.n) (s := tY) (by have := hok.old; rw [hx0] at this; exact this)
  obtain ⟨hn2, bn, on_, han, q5⟩ := row_get1 (w := w1) (A := x0.B) (n := x0.m) (s := tQ) (by have := hok.new; rw [hx0] at this; exact this)
  rw [hao, hn1] at p4
  rw [han, hn2] at p5
  rw [hx0] at p3
  have HP3 := Lib.hid hp3; have HX0 := Lib.hid hx0
  simp only [Nat.zero_mul, Nat.add_zero] at p3 p4 p5
  clear ho3 hv3 hf3 hok hp3 hx0 hao han HLN HCM HL0 hcc3
  go_wp2_with fail
  refine HC1.out.mono ?_
  rintro e w2 ⟨v4, rfl, ho4⟩
  obtain ⟨A4, c4, hs4, hcc4, hr4⟩ := ho4.row
  replace hs4 : v4 = .slice A4 2 c4 := hs4
  subst hs4
  obtain ⟨b4, o4, hA4, hcell4⟩ := hr4.2.2 (by decide)
  subst hA4
  have e4 := hcell4 1 0 [.int .i64 (2 : Nat), .int .i64 (2 : Nat)] _ rfl rfl
  have e5 := hcell4 1 1 [.int .i64 (2 : Nat), .int .i64 (2 : Nat)] _ rfl rfl
  have hl4 := ho4.later
  replace p3 := hl4.cell p3; replace p4 := hl4.cell p4; replace p5 := hl4.cell p5; replace q4 := hl4.cell q4; replace q5 := hl4.cell q5
  replace HP3 := Lib.hid (HP3.out.later hl4); replace HL1 := Lib.hid (HL1.out.trans hl4)
  clear ho4 hr4 hcell4 hl4 HC1 hcc4
  have HN := Lib.hid (new_any w2)
  go_wp2_with fail
  refine HN.out.mono ?_
  rintro e w3 ⟨p, B, rfl, ht, hp0, hB0, hl3⟩
  have HAD := Lib.hid (add_any p B tN [] w3 ht (by decide) (by simp))
  rw [add_tN] at HAD
  have HL3 := Lib.hid hl3; have HB0 := Lib.hid hB0
  clear ht hp0 hB0 hl3 HN
  go_wp2_with fail
  refine HAD.out.mono ?_
  rintro e w4 ⟨rfl, ht, hg⟩
  dsimp only at ht
  have hl5 : Later w2 w4 := HL3.out.turn hg HB0.out
  have HTR := Lib.hid (trees_any (.pointer none) (.pointer (some ⟨p, 0, none⟩)) [] [(tN, [])] w4 (.inl ⟨rfl, rfl⟩) (.inr ⟨p, B, rfl, ht⟩) (by simp) (by simp) (fun f hf => by cases hf) (fun f hf => by simp at hf; subst hf; exact ⟨by decide, fun s hs => by cases hs⟩) rfl rfl)
  rw [ex_trees] at HTR
  have HL5 := Lib.hid hl5
  clear ht hg hl5 HAD HL3 HB0
  go_wp2_with fail
  refine HTR.out.mono ?_
  rintro e w6 ⟨v6, ys, rfl, ho6, hv6⟩
  obtain ⟨A6, c6, hs6, hcc6, hp6⟩ := ho6.row
  obtain ⟨y0, rfl⟩ : ∃ y0, ys = [y0] := by
    have h1 : ys.length = 1 := by have := congrArg List.length hv6; rw [valsP_length] at this; simpa using this
    exact List.length_eq_one_iff.1 h1
  have hy0 : y0.v = ⟨1, tN, ByteArray.empty, 0, [], []⟩ := by simpa [valsP] using hv6
  replace hs6 : v6 = .slice A6 1 c6 := hs6
  subst hs6
  obtain ⟨b6, o6, y0', hA6, hz6, hok6, m0, m1, -⟩ := hp6.get (j := 0) (by simp)
  cases hz6
  subst hA6
  rw [hy0] at m0 m1
  simp only [Nat.zero_mul, Nat.add_zero] at m0 m1
  have hl6 := HL5.out.trans ho6.later
  replace p3 := hl6.cell p3; replace p4 := hl6.cell p4; replace p5 := hl6.cell p5; replace q4 := hl6.cell q4; replace q5 := hl6.cell q5; replace e4 := hl6.cell e4; replace e5 := hl6.cell e5
  have HCO := Lib.hid (cost_any (some ⟨b3, o3, none⟩) _ c3 [x0] w6 (HP3.out.later hl6) (by simp) (by simp [valsP, HX0.out, costP, hunkP]))
  rw [show costP (valsP [x0]) = 2 from by simp [valsP, HX0.out, costP, hunkP]] at HCO
  have HL6 := Lib.hid (HL1.out.trans hl6)
  clear ho6 hv6 hok6 hp6 hy0 hl6 HTR HP3 HX0 HL1 HL5 hcc6
  replace p3 : w6.cell? ⟨b3, o3 + 3, none⟩ = some (.int .i64 1) := p3
  replace e4 : w6.cell? ⟨b4, o4 + 2, none⟩ = some (.int .i64 2) := e4
  replace e5 : w6.cell? ⟨b4, o4 + 2 + 1, none⟩ = some (.int .i64 2) := e5
  replace q4 : w6.cell? ⟨bo, oo, none⟩ = some (.string ⟨#[121]⟩) := q4
  replace q5 : w6.cell? ⟨bn, on_, none⟩ = some (.string ⟨#[113]⟩) := q5
  replace m0 : w6.cell? ⟨b6, o6, none⟩ = some (.int .i64 1) := m0
  replace m1 : w6.cell? ⟨b6, o6 + 1, none⟩ = some (.string ⟨#[110]⟩) := m1
  go_wp2_with (go_at_call 22; refine HCO.out.mono ?_; rintro e w7 ⟨rfl, hl7⟩; have n0 := hl7.cell m0; have n1 := hl7.cell m1; replace hl7 := Lib.hid hl7)
  go_ret
  exact ⟨rfl, HL6.out.trans hl7.out⟩

end Go.Proofs.YtbhnbkcokhfopaaGreat
