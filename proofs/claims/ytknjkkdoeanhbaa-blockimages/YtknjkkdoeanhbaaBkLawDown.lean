/-
  What the law BlockDown comes to, as a call.
-/
import Derived.Test.YtknjkkdoeanhbaaBkFew
import Derived.Test.YtknjkkdoeanhbaaBkLawOwn
import Derived.Test.YtknjkkdoeanhbaaBkOps2
import Derived.Test.YtknjkkdoeanhbaaBkCrash
namespace Go.Proofs.Ytknjkkdoeanhbaa
open Go.RowKit

theorem image_pos {W w : World} {S : Nat → Prop} {g : Nat} {d : DvP} (h : DevAt W w S g d) : 0 < (imageP d).length := by
  unfold imageP
  rw [flat64 h.ok.size]
  have := h.ok.one
  omega
theorem crash_flush (d : DvP) (fs : List Int) : (flushP (crashP d fs)).2 = 0 := by
  unfold flushP
  rw [if_neg (by show ¬ (false = true); decide), if_neg (by show ¬ (false = true ∧ _); simp)]
/-- What the law's loop keeps. -/
structure DownLp (W w : World) (S : Nat → Prop) (g : Nat) (n : Int) (k : Nat) (d : DvP) : Prop where
  dev : DevAt W w S g d
  inv : DownI n d
  ops : d.ops ≤ k
  row : d.row.length ≤ k

set_option maxRecDepth 100000 in
set_option maxHeartbeats 6400000 in
theorem blockDown_walk (cnt n : Int) (A : Option Addr) (m c : Nat) (xs : List OpC) (w : World) (hc0 : -9223372036854775808 ≤ cnt) (hc1 : cnt ≤ 9223372036854775807) (hn0 : -9223372036854775808 ≤ n) (hn1 : n ≤ 9223372036854775807) (hx : Script w A m xs) :
    Calls Try.prog 7 #[.int .i64 cnt, .int .i64 n, .slice A m c] w fun e w' => e = .returned (.bool true) ∧ Later w w' := by
  have HX := Lib.hid hx
  obtain ⟨z, hz⟩ : ∃ z, z = fewZ m (weighO xs) := ⟨_, rfl⟩
  have HC := Lib.hid (few10_any A m c xs w hx)
  rw [← hz] at HC
  have HZ : Hid (z ≤ 0 → m ≤ 80) := by
    show _ → _
    intro h0
    rw [hz] at h0
    unfold fewZ at h0
    split at h0
    · omega
    · omega
  have HCN := Lib.hid (And.intro hc0 hc1); have HN := Lib.hid (And.intro hn0 hn1)
  clear hx hz hc0 hc1 hn0 hn1
  generalize hRR : (fun (e : Ending) (w' : World) => e = .returned (.bool true) ∧ Later w w') = RR
  have HRR : Hid (∀ e w', (e = .returned (.bool true) ∧ Later w w') → RR e w') := fun e w' h => by rw [← hRR]; exact h
  clear hRR
  go_enter Try.func7, Try.ntmps7
  go_wp2_with fail
  refine HC.out.mono ?_
  rintro e w1 ⟨rfl, hl1⟩
  have HL1 := Lib.hid hl1
  have HA := Lib.hid (alive10_any w1)
  clear hl1 HC
  by_cases h1 : 0 < z
  · go_wp2_with fail
    refine HA.out.mono ?_
    rintro e w2 ⟨rfl, hl2⟩
    go_wp2
    exact HRR.out _ _ ⟨rfl, HL1.out.trans hl2⟩
  · by_cases h2 : 20 < cnt
    · go_wp2_with fail
      refine HA.out.mono ?_
      rintro e w2 ⟨rfl, hl2⟩
      go_wp2
      exact HRR.out _ _ ⟨rfl, HL1.out.trans hl2⟩
    · by_cases h3 : 1000 < n
      · go_wp2_with fail
        refine HA.out.mono ?_
        rintro e w2 ⟨rfl, hl2⟩
        go_wp2
        exact HRR.out _ _ ⟨rfl, HL1.out.trans hl2⟩
      · have hm80 := HZ.out (by omega)
        have HC := Lib.hid (newDev_any (w := w1) (W := w) cnt HCN.out.1 HCN.out.2 HL1.out)
        clear HA HZ HL1
        go_wp2_with fail
        refine HC.out.mono ?_
        rintro e w2 ⟨g, S0, rfl, hd2, _, -⟩
        have HC := Lib.hid (armDev_any hd2 n HN.out.1 HN.out.2)
        clear hd2
        go_wp2_with fail
        refine HC.out.mono ?_
        rintro e w3 ⟨rfl, hd3, -⟩
        have HLP : Hid (DownLp w w3 S0 g n 0 (armP (newP (countN cnt)) n)) := ⟨hd3, DownI.first _ _, Nat.le_refl _, Nat.le_refl _⟩
        clear hd3 HC
        go_wp2
        go_loopg [36] (m + 1) (fun g0 s36 wr => ∃ (k : Nat) (d : DvP) (S : Nat → Prop), k ≤ m ∧ m - k ≤ g0 ∧ s36 = .int .i64 (k : Nat) ∧ Hid (DownLp w wr S g n k d))
        case atStart => exact ⟨0, _, S0, Nat.zero_le _, by omega, rfl, HLP⟩
        case round =>
          clear HLP
          obtain ⟨k, d, S, hk, hg, rfl, hlp⟩ := hrel
          by_cases hlt : k < m
          · obtain ⟨b, o, ⟨kd, k0, A1, n1, c1, bs, F, m1, e1, fs⟩, rfl, -, hok, g0, g1, g2, g3⟩ := (HX.out.later hlp.out.dev.base).get hlt
            dsimp only at g0 g1 g2 g3
            have HOK := Lib.hid hok
            clear hok
            by_cases hk0 : kd = 0
            · subst hk0
              by_cases hdn : d.down = true
              · go_wp2_with fail
                refine (downDev_any (hlp.out.dev.later ((Later.refl wr).alloc _))).mono ?_
                rintro e w5 ⟨he, e9⟩
                rw [hdn] at he
                subst he
                have HD5 : Hid (DevAt w w5 S g d) := by show DevAt _ _ _ _ _; rw [e9]; exact hlp.out.dev.later ((Later.refl wr).alloc _)
                have hl5 : Later wr w5 := by rw [e9]; exact (Later.refl wr).alloc _
                have hcl5 : CellsAt w5 wr.heap.size #[.int .i64 0, .int .i64 k0, .slice A1 n1 c1, .slice F m1 e1] 36 := by rw [e9]; exact CellsAt.made _ _ _
                have HL5 := Lib.hid hl5; have HCL5 := Lib.hid hcl5
                clear e9 hl5 hcl5
                have HC := Lib.hid (opsDev_any HD5.out)
                go_wp2_with fail
                refine HC.out.mono ?_
                rintro e w99 ⟨rfl, e9⟩
                obtain rfl := e9.symm
                clear e9 HC
                have HC := Lib.hid (imageDev_any HD5.out)
                go_wp2_with fail
                refine HC.out.mono ?_
                rintro e w6 ⟨v, rfl, hv, hl6⟩
                obtain ⟨b1, cb1, rfl, _, hb1, hbs1⟩ := own_bs_at hv (image_pos HD5.out)
                have hnS : ¬ S b1 := fun h => by have := (HD5.out.low b1 h).2; omega
                have HD6 := Lib.hid (HD5.out.later hl6)
                have HB1 := Lib.hid hbs1
                have hcl6 := HCL5.out.later hl6
                have q0 : w6.cell? ⟨wr.heap.size, 0, none⟩ = some (.int .i64 0) := hcl6.cell rfl
                have q1 : w6.cell? ⟨wr.heap.size, 1, none⟩ = some (.int .i64 k0) := hcl6.cell rfl
                have q2 : w6.cell? ⟨wr.heap.size, 2, none⟩ = some (.slice A1 n1 c1) := hcl6.cell rfl
                have q3 : w6.cell? ⟨wr.heap.size, 3, none⟩ = some (.slice F m1 e1) := hcl6.cell rfl
                have HSTEP : Hid (StepI n d (doP d ⟨0, k0, A1, n1, c1, bs, F, m1, e1, fs⟩)) := hlp.out.inv.write k0 bs
                have HC := Lib.hid (does10_any HD6.out (by have := hlp.out.ops; omega) (by have := hlp.out.row; omega) ⟨0, k0, A1, n1, c1, bs, F, m1, e1, fs⟩ (HOK.out.later (HL5.out.trans hl6)) (.inl rfl))
                obtain ⟨r, hr⟩ : ∃ r, r = doP d ⟨0, k0, A1, n1, c1, bs, F, m1, e1, fs⟩ := ⟨_, rfl⟩
                rw [← hr] at HC HSTEP
                obtain ⟨d', er⟩ := r
                dsimp only at HC
                clear hr hv hbs1 hl6 hcl6 HD5 HCL5 HL5 HOK
                go_wp2_with fail
                refine HC.out.mono ?_
                rintro e w7 ⟨S7, rfl, hd7, _, hc7⟩
                have HD7 := Lib.hid hd7
                have HB7 := Lib.hid (HB1.out.chg hc7 hnS)
                clear hd7 hc7 HC HB1 HD6 hnS q0 q1 q2 q3
                have hst := HSTEP.out.stay hdn
                obtain ⟨rfl, rfl⟩ := Prod.mk.inj hst
                have hT := HSTEP.out.inv.down
                rw [hdn] at hT
                obtain ⟨hn0, hnd⟩ := of_decide_eq_true hT.symm
                clear hst hT
                have HC := Lib.hid (opsDev_any HD7.out)
                go_wp2_with fail
                refine HC.out.mono ?_
                rintro e w99 ⟨rfl, e9⟩
                obtain rfl := e9.symm
                clear e9 HC
                have HC := Lib.hid (imageDev_any HD7.out)
                go_wp2_with fail
                refine HC.out.mono ?_
                rintro e w8 ⟨v2, rfl, hv2, hl8⟩
                obtain ⟨b2, c2, rfl, _, _, hbs2⟩ := own_bs_at hv2 (image_pos HD7.out)
                have HD8 := Lib.hid (HD7.out.later hl8)
                have HC := Lib.hid (bytesEqual_any (c := cb1) (e := c2) (HB7.out.later hl8) hbs2)
                rw [show decide (imageP d' = imageP d') = true by simp] at HC
                clear hv2 hl8 hbs2 HB7 HD7
                go_wp2_with fail
                refine HC.out.mono ?_
                rintro e w99 ⟨rfl, e9⟩
                obtain rfl := e9.symm
                clear e9 HC
                have HC := Lib.hid (downDev_any HD8.out)
                rw [hdn] at HC
                go_wp2_with fail
                refine HC.out.mono ?_
                rintro e w99 ⟨rfl, e9⟩
                obtain rfl := e9.symm
                clear e9 HC
                have HC := Lib.hid (opsDev_any HD8.out)
                go_wp2_with fail
                refine HC.out.mono ?_
                rintro e w99 ⟨rfl, e9⟩
                obtain rfl := e9.symm
                clear e9 HC
                have HEND : Hid (DownLp w w8 S7 g n (k + 1) d') := ⟨HD8.out, HSTEP.out.inv, by have := hlp.out.ops; omega, by have := hlp.out.row; omega⟩
                clear HD8 HSTEP hlp
                go_wp2
                go_roundg (m - (k + 1))
                case measure => omega
                case rel => exact ⟨k + 1, d', S7, by omega, by omega, by go_num, HEND⟩
              · have hdn : d.down = false := by simpa using hdn
                go_wp2_with fail
                refine (downDev_any (hlp.out.dev.later ((Later.refl wr).alloc _))).mono ?_
                rintro e w5 ⟨he, e9⟩
                rw [hdn] at he
                subst he
                have HD5 : Hid (DevAt w w5 S g d) := by show DevAt _ _ _ _ _; rw [e9]; exact hlp.out.dev.later ((Later.refl wr).alloc _)
                have hl5 : Later wr w5 := by rw [e9]; exact (Later.refl wr).alloc _
                have hcl5 : CellsAt w5 wr.heap.size #[.int .i64 0, .int .i64 k0, .slice A1 n1 c1, .slice F m1 e1] 36 := by rw [e9]; exact CellsAt.made _ _ _
                have HL5 := Lib.hid hl5; have HCL5 := Lib.hid hcl5
                clear e9 hl5 hcl5
                have HC := Lib.hid (opsDev_any HD5.out)
                go_wp2_with fail
                refine HC.out.mono ?_
                rintro e w99 ⟨rfl, e9⟩
                obtain rfl := e9.symm
                clear e9 HC
                have HC := Lib.hid (imageDev_any HD5.out)
                go_wp2_with fail
                refine HC.out.mono ?_
                rintro e w6 ⟨v, rfl, hv, hl6⟩
                obtain ⟨b1, cb1, rfl, _, hb1, hbs1⟩ := own_bs_at hv (image_pos HD5.out)
                have hnS : ¬ S b1 := fun h => by have := (HD5.out.low b1 h).2; omega
                have HD6 := Lib.hid (HD5.out.later hl6)
                have HB1 := Lib.hid hbs1
                have hcl6 := HCL5.out.later hl6
                have q0 : w6.cell? ⟨wr.heap.size, 0, none⟩ = some (.int .i64 0) := hcl6.cell rfl
                have q1 : w6.cell? ⟨wr.heap.size, 1, none⟩ = some (.int .i64 k0) := hcl6.cell rfl
                have q2 : w6.cell? ⟨wr.heap.size, 2, none⟩ = some (.slice A1 n1 c1) := hcl6.cell rfl
                have q3 : w6.cell? ⟨wr.heap.size, 3, none⟩ = some (.slice F m1 e1) := hcl6.cell rfl
                have HSTEP : Hid (StepI n d (doP d ⟨0, k0, A1, n1, c1, bs, F, m1, e1, fs⟩)) := hlp.out.inv.write k0 bs
                have HC := Lib.hid (does10_any HD6.out (by have := hlp.out.ops; omega) (by have := hlp.out.row; omega) ⟨0, k0, A1, n1, c1, bs, F, m1, e1, fs⟩ (HOK.out.later (HL5.out.trans hl6)) (.inl rfl))
                obtain ⟨r, hr⟩ : ∃ r, r = doP d ⟨0, k0, A1, n1, c1, bs, F, m1, e1, fs⟩ := ⟨_, rfl⟩
                rw [← hr] at HC HSTEP
                obtain ⟨d', er⟩ := r
                dsimp only at HC
                clear hr hv hbs1 hl6 hcl6 HD5 HCL5 HL5 HOK
                go_wp2_with fail
                refine HC.out.mono ?_
                rintro e w7 ⟨S7, rfl, hd7, _, hc7⟩
                have HD7 := Lib.hid hd7
                have HB7 := Lib.hid (HB1.out.chg hc7 hnS)
                clear hd7 hc7 HC HB1 HD6 hnS q0 q1 q2 q3
                have htold := HSTEP.out.told hdn
                dsimp only at htold
                by_cases hdn1 : d'.down = true
                · obtain rfl := htold.1 hdn1
                  have hT := HSTEP.out.inv.down
                  dsimp only at hT
                  rw [hdn1] at hT
                  obtain ⟨hn0, hnd⟩ := of_decide_eq_true hT.symm
                  clear htold hT
                  have HC := Lib.hid (downDev_any HD7.out)
                  rw [hdn1] at HC
                  go_wp2_with fail
                  refine HC.out.mono ?_
                  rintro e w99 ⟨rfl, e9⟩
                  obtain rfl := e9.symm
                  clear e9 HC
                  have HC := Lib.hid (opsDev_any HD7.out)
                  go_wp2_with fail
                  refine HC.out.mono ?_
                  rintro e w99 ⟨rfl, e9⟩
                  obtain rfl := e9.symm
                  clear e9 HC
                  have HC := Lib.hid (downDev_any HD7.out)
                  rw [hdn1] at HC
                  go_wp2_with fail
                  refine HC.out.mono ?_
                  rintro e w99 ⟨rfl, e9⟩
                  obtain rfl := e9.symm
                  clear e9 HC
                  have HEND : Hid (DownLp w w7 S7 g n (k + 1) d') := ⟨HD7.out, HSTEP.out.inv, by have := hlp.out.ops; have := HSTEP.out.ops; dsimp only at this; omega, by have := hlp.out.row; have := HSTEP.out.row; dsimp only at this; omega⟩
                  clear HD7 HSTEP hlp HB7
                  go_wp2
                  go_roundg (m - (k + 1))
                  case measure => omega
                  case rel => exact ⟨k + 1, d', S7, by omega, by omega, by go_num, HEND⟩
                · have hne : ¬ er = 100 := fun e => hdn1 (htold.2 e)
                  have hdn2 : d'.down = false := by simpa using hdn1
                  have hT := HSTEP.out.inv.down
                  dsimp only at hT
                  rw [hdn2] at hT
                  have hT2 := of_decide_eq_false hT.symm
                  clear htold hT hdn1
                  by_cases hn0 : 0 ≤ n
                  · have hnd : ¬ (n < (d'.ops : Int)) := fun h => hT2 ⟨hn0, h⟩
                    clear hT2
                    have HC := Lib.hid (downDev_any HD7.out)
                    rw [hdn2] at HC
                    go_wp2_with fail
                    refine HC.out.mono ?_
                    rintro e w99 ⟨rfl, e9⟩
                    obtain rfl := e9.symm
                    clear e9 HC
                    have HC := Lib.hid (opsDev_any HD7.out)
                    go_wp2_with fail
                    refine HC.out.mono ?_
                    rintro e w99 ⟨rfl, e9⟩
                    obtain rfl := e9.symm
                    clear e9 HC
                    have HC := Lib.hid (downDev_any HD7.out)
                    rw [hdn2] at HC
                    go_wp2_with fail
                    refine HC.out.mono ?_
                    rintro e w99 ⟨rfl, e9⟩
                    obtain rfl := e9.symm
                    clear e9 HC
                    have HEND : Hid (DownLp w w7 S7 g n (k + 1) d') := ⟨HD7.out, HSTEP.out.inv, by have := hlp.out.ops; have := HSTEP.out.ops; dsimp only at this; omega, by have := hlp.out.row; have := HSTEP.out.row; dsimp only at this; omega⟩
                    clear HD7 HSTEP hlp HB7
                    go_wp2
                    · rename_i hh
                      rcases hh with hh | hh
                      · omega
                      · exact absurd (by simpa using hh) hne
                    go_roundg (m - (k + 1))
                    case measure => omega
                    case rel => exact ⟨k + 1, d', S7, by omega, by omega, by go_num, HEND⟩
                  · clear hT2
                    have HC := Lib.hid (downDev_any HD7.out)
                    rw [hdn2] at HC
                    go_wp2_with fail
                    refine HC.out.mono ?_
                    rintro e w99 ⟨rfl, e9⟩
                    obtain rfl := e9.symm
                    clear e9 HC
                    have HC := Lib.hid (downDev_any HD7.out)
                    rw [hdn2] at HC
                    go_wp2_with fail
                    refine HC.out.mono ?_
                    rintro e w99 ⟨rfl, e9⟩
                    obtain rfl := e9.symm
                    clear e9 HC
                    have HEND : Hid (DownLp w w7 S7 g n (k + 1) d') := ⟨HD7.out, HSTEP.out.inv, by have := hlp.out.ops; have := HSTEP.out.ops; dsimp only at this; omega, by have := hlp.out.row; have := HSTEP.out.row; dsimp only at this; omega⟩
                    clear HD7 HSTEP hlp HB7
                    go_wp2
                    go_roundg (m - (k + 1))
                    case measure => omega
                    case rel => exact ⟨k + 1, d', S7, by omega, by omega, by go_num, HEND⟩
            · by_cases hk1 : kd = 1
              · subst hk1
                clear hk0
                by_cases hdn : d.down = true
                · go_wp2_with fail
                  refine (downDev_any (hlp.out.dev.later ((Later.refl wr).alloc _))).mono ?_
                  rintro e w5 ⟨he, e9⟩
                  rw [hdn] at he
                  subst he
                  have HD5 : Hid (DevAt w w5 S g d) := by show DevAt _ _ _ _ _; rw [e9]; exact hlp.out.dev.later ((Later.refl wr).alloc _)
                  have hl5 : Later wr w5 := by rw [e9]; exact (Later.refl wr).alloc _
                  have hcl5 : CellsAt w5 wr.heap.size #[.int .i64 1, .int .i64 k0, .slice A1 n1 c1, .slice F m1 e1] 36 := by rw [e9]; exact CellsAt.made _ _ _
                  have HL5 := Lib.hid hl5; have HCL5 := Lib.hid hcl5
                  clear e9 hl5 hcl5
                  have HC := Lib.hid (opsDev_any HD5.out)
                  go_wp2_with fail
                  refine HC.out.mono ?_
                  rintro e w99 ⟨rfl, e9⟩
                  obtain rfl := e9.symm
                  clear e9 HC
                  have HC := Lib.hid (imageDev_any HD5.out)
                  go_wp2_with fail
                  refine HC.out.mono ?_
                  rintro e w6 ⟨v, rfl, hv, hl6⟩
                  obtain ⟨b1, cb1, rfl, _, hb1, hbs1⟩ := own_bs_at hv (image_pos HD5.out)
                  have hnS : ¬ S b1 := fun h => by have := (HD5.out.low b1 h).2; omega
                  have HD6 := Lib.hid (HD5.out.later hl6)
                  have HB1 := Lib.hid hbs1
                  have hcl6 := HCL5.out.later hl6
                  have q0 : w6.cell? ⟨wr.heap.size, 0, none⟩ = some (.int .i64 1) := hcl6.cell rfl
                  have q1 : w6.cell? ⟨wr.heap.size, 1, none⟩ = some (.int .i64 k0) := hcl6.cell rfl
                  have q2 : w6.cell? ⟨wr.heap.size, 2, none⟩ = some (.slice A1 n1 c1) := hcl6.cell rfl
                  have q3 : w6.cell? ⟨wr.heap.size, 3, none⟩ = some (.slice F m1 e1) := hcl6.cell rfl
                  have HSTEP : Hid (StepI n d (doP d ⟨1, k0, A1, n1, c1, bs, F, m1, e1, fs⟩)) := hlp.out.inv.flush
                  have HC := Lib.hid (does10_any HD6.out (by have := hlp.out.ops; omega) (by have := hlp.out.row; omega) ⟨1, k0, A1, n1, c1, bs, F, m1, e1, fs⟩ (HOK.out.later (HL5.out.trans hl6)) (.inr rfl))
                  obtain ⟨r, hr⟩ : ∃ r, r = doP d ⟨1, k0, A1, n1, c1, bs, F, m1, e1, fs⟩ := ⟨_, rfl⟩
                  rw [← hr] at HC HSTEP
                  obtain ⟨d', er⟩ := r
                  dsimp only at HC
                  clear hr hv hbs1 hl6 hcl6 HD5 HCL5 HL5 HOK
                  go_wp2_with fail
                  refine HC.out.mono ?_
                  rintro e w7 ⟨S7, rfl, hd7, _, hc7⟩
                  have HD7 := Lib.hid hd7
                  have HB7 := Lib.hid (HB1.out.chg hc7 hnS)
                  clear hd7 hc7 HC HB1 HD6 hnS q0 q1 q2 q3
                  have hst := HSTEP.out.stay hdn
                  obtain ⟨rfl, rfl⟩ := Prod.mk.inj hst
                  have hT := HSTEP.out.inv.down
                  rw [hdn] at hT
                  obtain ⟨hn0, hnd⟩ := of_decide_eq_true hT.symm
                  clear hst hT
                  have HC := Lib.hid (opsDev_any HD7.out)
                  go_wp2_with fail
                  refine HC.out.mono ?_
                  rintro e w99 ⟨rfl, e9⟩
                  obtain rfl := e9.symm
                  clear e9 HC
                  have HC := Lib.hid (imageDev_any HD7.out)
                  go_wp2_with fail
                  refine HC.out.mono ?_
                  rintro e w8 ⟨v2, rfl, hv2, hl8⟩
                  obtain ⟨b2, c2, rfl, _, _, hbs2⟩ := own_bs_at hv2 (image_pos HD7.out)
                  have HD8 := Lib.hid (HD7.out.later hl8)
                  have HC := Lib.hid (bytesEqual_any (c := cb1) (e := c2) (HB7.out.later hl8) hbs2)
                  rw [show decide (imageP d' = imageP d') = true by simp] at HC
                  clear hv2 hl8 hbs2 HB7 HD7
                  go_wp2_with fail
                  refine HC.out.mono ?_
                  rintro e w99 ⟨rfl, e9⟩
                  obtain rfl := e9.symm
                  clear e9 HC
                  have HC := Lib.hid (downDev_any HD8.out)
                  rw [hdn] at HC
                  go_wp2_with fail
                  refine HC.out.mono ?_
                  rintro e w99 ⟨rfl, e9⟩
                  obtain rfl := e9.symm
                  clear e9 HC
                  have HC := Lib.hid (opsDev_any HD8.out)
                  go_wp2_with fail
                  refine HC.out.mono ?_
                  rintro e w99 ⟨rfl, e9⟩
                  obtain rfl := e9.symm
                  clear e9 HC
                  have HEND : Hid (DownLp w w8 S7 g n (k + 1) d') := ⟨HD8.out, HSTEP.out.inv, by have := hlp.out.ops; omega, by have := hlp.out.row; omega⟩
                  clear HD8 HSTEP hlp
                  go_wp2
                  go_roundg (m - (k + 1))
                  case measure => omega
                  case rel => exact ⟨k + 1, d', S7, by omega, by omega, by go_num, HEND⟩
                · have hdn : d.down = false := by simpa using hdn
                  go_wp2_with fail
                  refine (downDev_any (hlp.out.dev.later ((Later.refl wr).alloc _))).mono ?_
                  rintro e w5 ⟨he, e9⟩
                  rw [hdn] at he
                  subst he
                  have HD5 : Hid (DevAt w w5 S g d) := by show DevAt _ _ _ _ _; rw [e9]; exact hlp.out.dev.later ((Later.refl wr).alloc _)
                  have hl5 : Later wr w5 := by rw [e9]; exact (Later.refl wr).alloc _
                  have hcl5 : CellsAt w5 wr.heap.size #[.int .i64 1, .int .i64 k0, .slice A1 n1 c1, .slice F m1 e1] 36 := by rw [e9]; exact CellsAt.made _ _ _
                  have HL5 := Lib.hid hl5; have HCL5 := Lib.hid hcl5
                  clear e9 hl5 hcl5
                  have HC := Lib.hid (opsDev_any HD5.out)
                  go_wp2_with fail
                  refine HC.out.mono ?_
                  rintro e w99 ⟨rfl, e9⟩
                  obtain rfl := e9.symm
                  clear e9 HC
                  have HC := Lib.hid (imageDev_any HD5.out)
                  go_wp2_with fail
                  refine HC.out.mono ?_
                  rintro e w6 ⟨v, rfl, hv, hl6⟩
                  obtain ⟨b1, cb1, rfl, _, hb1, hbs1⟩ := own_bs_at hv (image_pos HD5.out)
                  have hnS : ¬ S b1 := fun h => by have := (HD5.out.low b1 h).2; omega
                  have HD6 := Lib.hid (HD5.out.later hl6)
                  have HB1 := Lib.hid hbs1
                  have hcl6 := HCL5.out.later hl6
                  have q0 : w6.cell? ⟨wr.heap.size, 0, none⟩ = some (.int .i64 1) := hcl6.cell rfl
                  have q1 : w6.cell? ⟨wr.heap.size, 1, none⟩ = some (.int .i64 k0) := hcl6.cell rfl
                  have q2 : w6.cell? ⟨wr.heap.size, 2, none⟩ = some (.slice A1 n1 c1) := hcl6.cell rfl
                  have q3 : w6.cell? ⟨wr.heap.size, 3, none⟩ = some (.slice F m1 e1) := hcl6.cell rfl
                  have HSTEP : Hid (StepI n d (doP d ⟨1, k0, A1, n1, c1, bs, F, m1, e1, fs⟩)) := hlp.out.inv.flush
                  have HC := Lib.hid (does10_any HD6.out (by have := hlp.out.ops; omega) (by have := hlp.out.row; omega) ⟨1, k0, A1, n1, c1, bs, F, m1, e1, fs⟩ (HOK.out.later (HL5.out.trans hl6)) (.inr rfl))
                  obtain ⟨r, hr⟩ : ∃ r, r = doP d ⟨1, k0, A1, n1, c1, bs, F, m1, e1, fs⟩ := ⟨_, rfl⟩
                  rw [← hr] at HC HSTEP
                  obtain ⟨d', er⟩ := r
                  dsimp only at HC
                  clear hr hv hbs1 hl6 hcl6 HD5 HCL5 HL5 HOK
                  go_wp2_with fail
                  refine HC.out.mono ?_
                  rintro e w7 ⟨S7, rfl, hd7, _, hc7⟩
                  have HD7 := Lib.hid hd7
                  have HB7 := Lib.hid (HB1.out.chg hc7 hnS)
                  clear hd7 hc7 HC HB1 HD6 hnS q0 q1 q2 q3
                  have htold := HSTEP.out.told hdn
                  dsimp only at htold
                  by_cases hdn1 : d'.down = true
                  · obtain rfl := htold.1 hdn1
                    have hT := HSTEP.out.inv.down
                    dsimp only at hT
                    rw [hdn1] at hT
                    obtain ⟨hn0, hnd⟩ := of_decide_eq_true hT.symm
                    clear htold hT
                    have HC := Lib.hid (downDev_any HD7.out)
                    rw [hdn1] at HC
                    go_wp2_with fail
                    refine HC.out.mono ?_
                    rintro e w99 ⟨rfl, e9⟩
                    obtain rfl := e9.symm
                    clear e9 HC
                    have HC := Lib.hid (opsDev_any HD7.out)
                    go_wp2_with fail
                    refine HC.out.mono ?_
                    rintro e w99 ⟨rfl, e9⟩
                    obtain rfl := e9.symm
                    clear e9 HC
                    have HC := Lib.hid (downDev_any HD7.out)
                    rw [hdn1] at HC
                    go_wp2_with fail
                    refine HC.out.mono ?_
                    rintro e w99 ⟨rfl, e9⟩
                    obtain rfl := e9.symm
                    clear e9 HC
                    have HEND : Hid (DownLp w w7 S7 g n (k + 1) d') := ⟨HD7.out, HSTEP.out.inv, by have := hlp.out.ops; have := HSTEP.out.ops; dsimp only at this; omega, by have := hlp.out.row; have := HSTEP.out.row; dsimp only at this; omega⟩
                    clear HD7 HSTEP hlp HB7
                    go_wp2
                    go_roundg (m - (k + 1))
                    case measure => omega
                    case rel => exact ⟨k + 1, d', S7, by omega, by omega, by go_num, HEND⟩
                  · have hne : ¬ er = 100 := fun e => hdn1 (htold.2 e)
                    have hdn2 : d'.down = false := by simpa using hdn1
                    have hT := HSTEP.out.inv.down
                    dsimp only at hT
                    rw [hdn2] at hT
                    have hT2 := of_decide_eq_false hT.symm
                    clear htold hT hdn1
                    by_cases hn0 : 0 ≤ n
                    · have hnd : ¬ (n < (d'.ops : Int)) := fun h => hT2 ⟨hn0, h⟩
                      clear hT2
                      have HC := Lib.hid (downDev_any HD7.out)
                      rw [hdn2] at HC
                      go_wp2_with fail
                      refine HC.out.mono ?_
                      rintro e w99 ⟨rfl, e9⟩
                      obtain rfl := e9.symm
                      clear e9 HC
                      have HC := Lib.hid (opsDev_any HD7.out)
                      go_wp2_with fail
                      refine HC.out.mono ?_
                      rintro e w99 ⟨rfl, e9⟩
                      obtain rfl := e9.symm
                      clear e9 HC
                      have HC := Lib.hid (downDev_any HD7.out)
                      rw [hdn2] at HC
                      go_wp2_with fail
                      refine HC.out.mono ?_
                      rintro e w99 ⟨rfl, e9⟩
                      obtain rfl := e9.symm
                      clear e9 HC
                      have HEND : Hid (DownLp w w7 S7 g n (k + 1) d') := ⟨HD7.out, HSTEP.out.inv, by have := hlp.out.ops; have := HSTEP.out.ops; dsimp only at this; omega, by have := hlp.out.row; have := HSTEP.out.row; dsimp only at this; omega⟩
                      clear HD7 HSTEP hlp HB7
                      go_wp2
                      · rename_i hh
                        rcases hh with hh | hh
                        · omega
                        · exact absurd (by simpa using hh) hne
                      go_roundg (m - (k + 1))
                      case measure => omega
                      case rel => exact ⟨k + 1, d', S7, by omega, by omega, by go_num, HEND⟩
                    · clear hT2
                      have HC := Lib.hid (downDev_any HD7.out)
                      rw [hdn2] at HC
                      go_wp2_with fail
                      refine HC.out.mono ?_
                      rintro e w99 ⟨rfl, e9⟩
                      obtain rfl := e9.symm
                      clear e9 HC
                      have HC := Lib.hid (downDev_any HD7.out)
                      rw [hdn2] at HC
                      go_wp2_with fail
                      refine HC.out.mono ?_
                      rintro e w99 ⟨rfl, e9⟩
                      obtain rfl := e9.symm
                      clear e9 HC
                      have HEND : Hid (DownLp w w7 S7 g n (k + 1) d') := ⟨HD7.out, HSTEP.out.inv, by have := hlp.out.ops; have := HSTEP.out.ops; dsimp only at this; omega, by have := hlp.out.row; have := HSTEP.out.row; dsimp only at this; omega⟩
                      clear HD7 HSTEP hlp HB7
                      go_wp2
                      go_roundg (m - (k + 1))
                      case measure => omega
                      case rel => exact ⟨k + 1, d', S7, by omega, by omega, by go_num, HEND⟩
              · have HEND : Hid (∀ v, DownLp w (wr.alloc v) S g n (k + 1) d) := fun v => ⟨hlp.out.dev.later ((Later.refl wr).alloc _), hlp.out.inv, by have := hlp.out.ops; omega, by have := hlp.out.row; omega⟩
                clear hlp HOK
                go_wp2_with fail
                go_roundg (m - (k + 1))
                case measure => omega
                case rel => exact ⟨k + 1, d, S, by omega, by omega, by go_num, HEND.out _⟩
                exfalso
                have hh : (kd != 0) = false ∨ (kd != 1) = false := by assumption
                rcases hh with hh | hh
                · exact hk0 (by simpa using hh)
                · exact hk1 (by simpa using hh)
          · obtain rfl : k = m := by omega
            have HC := Lib.hid (crashDev_any hlp.out.dev (by have := hlp.out.row; omega) 0 (A := none) (n := 0) (xs := []) ⟨rfl, fun h => absurd h (by omega)⟩ (by decide) (fun x hx => by cases hx) (fun _ a e => by cases e))
            go_wp2_with fail
            refine HC.out.mono ?_
            rintro e w5 ⟨rfl, hd5, -⟩
            have HD5 := Lib.hid hd5
            have HC := Lib.hid (alive10_any w5)
            clear hd5
            go_wp2_with fail
            refine HC.out.mono ?_
            rintro e w6 ⟨rfl, hl6⟩
            have HD6 := Lib.hid (HD5.out.later hl6)
            clear HC HD5 hl6
            have HC := Lib.hid (downDev_any HD6.out)
            rw [show (crashP d []).down = false from rfl] at HC
            go_wp2_with fail
            refine HC.out.mono ?_
            rintro e w99 ⟨rfl, e9⟩
            obtain rfl := e9.symm
            clear e9 HC
            have HC := Lib.hid (pendingDev_any HD6.out)
            rw [show (crashP d []).row.length = 0 from rfl] at HC
            go_wp2_with fail
            refine HC.out.mono ?_
            rintro e w99 ⟨rfl, e9⟩
            obtain rfl := e9.symm
            clear e9 HC
            have HC := Lib.hid (flushDev_any HD6.out (by show d.ops ≤ _; have := hlp.out.ops; omega))
            rw [crash_flush] at HC
            go_wp2_with fail
            refine HC.out.mono ?_
            rintro e w7 ⟨rfl, hd7, -⟩
            have HL7 := Lib.hid hd7.base
            clear hd7 HC HD6
            go_wp2
            exact HRR.out _ _ ⟨rfl, HL7.out⟩

end Go.Proofs.Ytknjkkdoeanhbaa
