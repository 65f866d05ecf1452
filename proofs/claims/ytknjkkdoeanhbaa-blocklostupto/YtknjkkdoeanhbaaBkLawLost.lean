/-
  What the law BlockLost comes to, as a call.
-/
import Derived.Test.YtknjkkdoeanhbaaBkLawDown
import Derived.Test.YtknjkkdoeanhbaaBkCopy
namespace Go.Proofs.Ytknjkkdoeanhbaa
open Go.RowKit

/-- What the law's loop keeps. -/
structure LostLp (W w : World) (S : Nat → Prop) (g k : Nat) (d : DvP) (f : List Bs) (lb ln : Nat) : Prop where
  dev : DevAt W w S g d
  inv : LostI d f
  arm : DownI (-1) d
  last : BsAt w (some ⟨lb, 0, none⟩) ln f.flatten
  lt : lb < w.heap.size
  out : ¬ S lb
  ops : d.ops ≤ k
  row : d.row.length ≤ k
theorem downI_new (n : Nat) : DownI (-1) (newP n) := by
  refine ⟨?_, rfl, fun h => absurd h (by decide)⟩
  show false = decide (0 ≤ (-1 : Int) ∧ (-1 : Int) < ((0 : Nat) : Int))
  decide
theorem ints_made (w : World) (z : Int) : IntsAt (w.alloc (.cells #[.int .i64 z] 3)) (some ⟨w.heap.size, 0, none⟩) 1 [z] := ⟨rfl, fun _ => ⟨_, _, rfl, fun j x hx => by
  match j, hx with
  | 0, hx =>
    simp at hx; subst hx
    exact (CellsAt.made w #[.int .i64 z] 3).cell (i := 0) rfl
  | j + 1, hx => simp at hx⟩⟩

set_option maxRecDepth 100000 in
set_option maxHeartbeats 6400000 in
theorem blockLost_walk (cnt : Int) (A : Option Addr) (m c : Nat) (xs : List OpC) (w : World) (hc0 : -9223372036854775808 ≤ cnt) (hc1 : cnt ≤ 9223372036854775807) (hx : Script w A m xs) :
    Calls Try.prog 9 #[.int .i64 cnt, .slice A m c] w fun e w' => e = .returned (.bool true) ∧ Later w w' := by
  have HX := Lib.hid hx
  obtain ⟨z, hz⟩ : ∃ z, z = fewZ m (weighO xs) := ⟨_, rfl⟩
  have HC := Lib.hid (few10_any A m c xs w hx)
  rw [← hz] at HC
  have HZ : Hid (z ≤ 0 → m ≤ 80) := by
    show _ → _
    intro h0
    rw [hz] at h0
    unfold fewZ at h0
    split at h0
    · omega
    · omega
  have HCN := Lib.hid (And.intro hc0 hc1)
  clear hx hz hc0 hc1
  generalize hRR : (fun (e : Ending) (w' : World) => e = .returned (.bool true) ∧ Later w w') = RR
  have HRR : Hid (∀ e w', (e = .returned (.bool true) ∧ Later w w') → RR e w') := fun e w' h => by rw [← hRR]; exact h
  clear hRR
  go_enter Try.func9, Try.ntmps9
  go_wp2_with fail
  refine HC.out.mono ?_
  rintro e w1 ⟨rfl, hl1⟩
  have HL1 := Lib.hid hl1
  have HA := Lib.hid (alive10_any w1)
  clear hl1 HC
  by_cases h1 : 0 < z
  · go_wp2_with fail
    refine HA.out.mono ?_
    rintro e w2 ⟨rfl, hl2⟩
    go_wp2
    exact HRR.out _ _ ⟨rfl, HL1.out.trans hl2⟩
  · by_cases h2 : 20 < cnt
    · go_wp2_with fail
      refine HA.out.mono ?_
      rintro e w2 ⟨rfl, hl2⟩
      go_wp2
      exact HRR.out _ _ ⟨rfl, HL1.out.trans hl2⟩
    · have hm80 := HZ.out (by omega)
      have HC := Lib.hid (newDev_any (w := w1) (W := w) cnt HCN.out.1 HCN.out.2 HL1.out)
      clear HA HZ HL1
      go_wp2_with fail
      refine HC.out.mono ?_
      rintro e w2 ⟨g, S0, rfl, hd2, _, -⟩
      have HD2 := Lib.hid hd2
      have HC := Lib.hid (imageDev_any hd2)
      clear hd2
      go_wp2_with fail
      refine HC.out.mono ?_
      rintro e w3 ⟨v, rfl, hv, hl3⟩
      obtain ⟨b0, cb0, rfl, _, hb0, hbs0⟩ := own_bs_at hv (image_pos HD2.out)
      have HLP : Hid (LostLp w w3 S0 g 0 (newP (countN cnt)) (newP (countN cnt)).bl b0 (imageP (newP (countN cnt))).length) := ⟨HD2.out.later hl3, LostI.first _, downI_new _, hbs0, hbs0.lt (image_pos HD2.out), (fun h => by have := (HD2.out.low b0 h).2; omega), Nat.le_refl _, Nat.le_refl _⟩
      clear hv hl3 hb0 hbs0 HD2 HC
      go_wp2
      go_loopg [6, 30] (m + 1) (fun g0 s6 s30 wr => ∃ (k : Nat) (d : DvP) (S : Nat → Prop) (f : List Bs) (lb ln lc : Nat), k ≤ m ∧ m - k ≤ g0 ∧ s30 = .int .i64 (k : Nat) ∧ s6 = .slice (some ⟨lb, 0, none⟩) ln lc ∧ Hid (LostLp w wr S g k d f lb ln))
      case atStart => exact ⟨0, _, S0, _, b0, _, cb0, Nat.zero_le _, by omega, rfl, rfl, HLP⟩
      case round =>
        clear HLP
        obtain ⟨k, d, S, f, lb, ln, lc, hk, hg, rfl, rfl, hlp⟩ := hrel
        by_cases hlt : k < m
        · obtain ⟨b, o, ⟨kd, k0, A1, n1, c1, bs, F, m1, e1, fs⟩, rfl, -, hok, g0, g1, g2, g3⟩ := (HX.out.later hlp.out.dev.base).get hlt
          dsimp only at g0 g1 g2 g3
          have HOK := Lib.hid hok
          clear hok
          by_cases hk0 : kd = 0
          · subst hk0
            have HSTEP : Hid (StepI (-1) d (doP d ⟨0, k0, A1, n1, c1, bs, F, m1, e1, fs⟩)) := hlp.out.arm.write k0 bs
            have HLS : Hid (LostI (doP d ⟨0, k0, A1, n1, c1, bs, F, m1, e1, fs⟩).1 f) := hlp.out.inv.write k0 bs
            go_wp2_with fail
            refine (does10_any (hlp.out.dev.later ((Later.refl wr).alloc _)) (by have := hlp.out.ops; omega) (by have := hlp.out.row; omega) ⟨0, k0, A1, n1, c1, bs, F, m1, e1, fs⟩ (HOK.out.later ((Later.refl wr).alloc _)) (.inl rfl)).mono ?_
            rintro e w7 ⟨S7, he, hd7, hup, hc7⟩
            have hle := ((Later.refl wr).alloc (.cells #[.int .i64 0, .int .i64 k0, .slice A1 n1 c1, .slice F m1 e1] 36)).le
            have q0 : w7.cell? ⟨wr.heap.size, 0, none⟩ = some (.int .i64 0) := hc7.cell ((CellsAt.made wr #[.int .i64 0, .int .i64 k0, .slice A1 n1 c1, .slice F m1 e1] 36).cell rfl) (fun h => by have := (hlp.out.dev.low _ h).2; dsimp only at this; omega)
            have HB7 := Lib.hid ((hlp.out.last.later ((Later.refl wr).alloc _)).chg hc7 hlp.out.out)
            have hlt7 : lb < w7.heap.size := by have h1 := hc7.size; have h2 := hlp.out.lt; omega
            have hout7 : ¬ S7 lb := fun h => (hup lb h).elim hlp.out.out fun h2 => by have h3 := hlp.out.lt; omega
            obtain ⟨r, hr⟩ : ∃ r, r = doP d ⟨0, k0, A1, n1, c1, bs, F, m1, e1, fs⟩ := ⟨_, rfl⟩
            rw [← hr] at he hd7 HSTEP HLS
            obtain ⟨d', er⟩ := r
            dsimp only at he hd7 HLS
            subst he
            have HD7 := Lib.hid hd7
            clear hr hd7 hup hc7 HOK hle
            have HEND : Hid (LostLp w w7 S7 g (k + 1) d' f lb ln) := ⟨HD7.out, HLS.out, HSTEP.out.inv, HB7.out, hlt7, hout7, by have := hlp.out.ops; have := HSTEP.out.ops; dsimp only at this; omega, by have := hlp.out.row; have := HSTEP.out.row; dsimp only at this; omega⟩
            clear HD7 HSTEP hlp HB7 HLS hlt7 hout7
            go_wp2
            go_roundg (m - (k + 1))
            case measure => omega
            case rel => exact ⟨k + 1, d', S7, f, lb, ln, lc, by omega, by omega, by go_num, rfl, HEND⟩
          · by_cases hk1 : kd = 1
            · subst hk1
              clear hk0
              have HSTEP : Hid (StepI (-1) d (doP d ⟨1, k0, A1, n1, c1, bs, F, m1, e1, fs⟩)) := hlp.out.arm.flush
              have HLS : Hid ((doP d ⟨1, k0, A1, n1, c1, bs, F, m1, e1, fs⟩).2 ≠ 0 ∧ LostI (doP d ⟨1, k0, A1, n1, c1, bs, F, m1, e1, fs⟩).1 f ∨ (doP d ⟨1, k0, A1, n1, c1, bs, F, m1, e1, fs⟩).2 = 0 ∧ LostI (doP d ⟨1, k0, A1, n1, c1, bs, F, m1, e1, fs⟩).1 (doP d ⟨1, k0, A1, n1, c1, bs, F, m1, e1, fs⟩).1.bl) := hlp.out.inv.flush
              go_wp2_with fail
              refine (does10_any (hlp.out.dev.later ((Later.refl wr).alloc _)) (by have := hlp.out.ops; omega) (by have := hlp.out.row; omega) ⟨1, k0, A1, n1, c1, bs, F, m1, e1, fs⟩ (HOK.out.later ((Later.refl wr).alloc _)) (.inr rfl)).mono ?_
              rintro e w7 ⟨S7, he, hd7, hup, hc7⟩
              have hle := ((Later.refl wr).alloc (.cells #[.int .i64 1, .int .i64 k0, .slice A1 n1 c1, .slice F m1 e1] 36)).le
              have q0 : w7.cell? ⟨wr.heap.size, 0, none⟩ = some (.int .i64 1) := hc7.cell ((CellsAt.made wr #[.int .i64 1, .int .i64 k0, .slice A1 n1 c1, .slice F m1 e1] 36).cell rfl) (fun h => by have := (hlp.out.dev.low _ h).2; dsimp only at this; omega)
              have HB7 := Lib.hid ((hlp.out.last.later ((Later.refl wr).alloc _)).chg hc7 hlp.out.out)
              have hlt7 : lb < w7.heap.size := by have h1 := hc7.size; have h2 := hlp.out.lt; omega
              have hout7 : ¬ S7 lb := fun h => (hup lb h).elim hlp.out.out fun h2 => by have h3 := hlp.out.lt; omega
              obtain ⟨r, hr⟩ : ∃ r, r = doP d ⟨1, k0, A1, n1, c1, bs, F, m1, e1, fs⟩ := ⟨_, rfl⟩
              rw [← hr] at he hd7 HSTEP HLS
              obtain ⟨d', er⟩ := r
              dsimp only at he hd7 HLS
              subst he
              have HD7 := Lib.hid hd7
              clear hr hd7 hup hc7 HOK hle
              rcases HLS.out with ⟨hne, hls⟩ | ⟨rfl, hls⟩
              · clear HLS
                have HEND : Hid (LostLp w w7 S7 g (k + 1) d' f lb ln) := ⟨HD7.out, hls, HSTEP.out.inv, HB7.out, hlt7, hout7, by have := hlp.out.ops; have := HSTEP.out.ops; dsimp only at this; omega, by have := hlp.out.row; have := HSTEP.out.row; dsimp only at this; omega⟩
                clear HD7 HSTEP hlp HB7 hls hlt7 hout7
                go_wp2
                go_roundg (m - (k + 1))
                case measure => omega
                case rel => exact ⟨k + 1, d', S7, f, lb, ln, lc, by omega, by omega, by go_num, rfl, HEND⟩
              · clear HLS
                have HC := Lib.hid (imageDev_any HD7.out)
                have HLS := Lib.hid hls
                clear hls
                go_wp2_with fail
                refine HC.out.mono ?_
                rintro e w8 ⟨v, rfl, hv, hl8⟩
                obtain ⟨b2, c2, rfl, _, hb2, hbs2⟩ := own_bs_at hv (image_pos HD7.out)
                have HEND : Hid (LostLp w w8 S7 g (k + 1) d' d'.bl b2 (imageP d').length) := ⟨HD7.out.later hl8, HLS.out, HSTEP.out.inv, hbs2, hbs2.lt (image_pos HD7.out), (fun h => by have := (HD7.out.low b2 h).2; omega), by have := hlp.out.ops; have := HSTEP.out.ops; dsimp only at this; omega, by have := hlp.out.row; have := HSTEP.out.row; dsimp only at this; omega⟩
                clear HD7 HSTEP hlp HB7 HLS hlt7 hout7 hv hl8 hb2 hbs2 HC
                go_wp2
                go_roundg (m - (k + 1))
                case measure => omega
                case rel => exact ⟨k + 1, d', S7, d'.bl, b2, (imageP d').length, c2, by omega, by omega, by go_num, rfl, HEND⟩
            · have HEND0 : Hid (∀ v, LostLp w (wr.alloc v) S g (k + 1) d f lb ln) := fun v => ⟨hlp.out.dev.later ((Later.refl wr).alloc _), hlp.out.inv, hlp.out.arm, hlp.out.last.later ((Later.refl wr).alloc _), Nat.lt_of_lt_of_le hlp.out.lt ((Later.refl wr).alloc v).le, hlp.out.out, by have := hlp.out.ops; omega, by have := hlp.out.row; omega⟩
              clear hlp HOK
              go_wp2_with fail
              go_roundg (m - (k + 1))
              case measure => omega
              case rel => exact ⟨k + 1, d, S, f, lb, ln, lc, by omega, by omega, by go_num, rfl, HEND0.out _⟩
              exfalso
              have hh : (kd != 0) = false ∨ (kd != 1) = false := by assumption
              rcases hh with hh | hh
              · exact hk0 (by simpa using hh)
              · exact hk1 (by simpa using hh)
        · obtain rfl : k = m := by omega
          have HC := Lib.hid (imageDev_any hlp.out.dev)
          go_wp2_with fail
          refine HC.out.mono ?_
          rintro e w5 ⟨v, rfl, hv, hl5⟩
          obtain ⟨ab, ac, rfl, _, hab, hbsa⟩ := own_bs_at hv (image_pos hlp.out.dev)
          have HAL := Lib.hid hbsa
          have HLA := Lib.hid (hlp.out.last.later hl5)
          have HD := Lib.hid (hlp.out.dev.later hl5)
          have hablt : ab < w5.heap.size := hbsa.lt (image_pos hlp.out.dev)
          have hlblt : lb < w5.heap.size := Nat.lt_of_lt_of_le hlp.out.lt hl5.le
          have HSL : Hid (∀ q, S q → q < w5.heap.size) := fun q hq => (HD.out.low q hq).2
          have HAS : Hid (¬ S ab) := fun h => by have := (hlp.out.dev.low ab h).2; omega
          clear HC hv hl5 hab hbsa
          -- Copy
          have HC := Lib.hid (copyDev_any HD.out (by have := hlp.out.row; omega))
          go_wp2_with fail
          refine HC.out.mono ?_
          rintro e w6 ⟨gx, Sx, rfl, hdx, hl6, hsx⟩
          have HDX := Lib.hid hdx
          have HSX : Hid (∀ q, Sx q → w5.heap.size ≤ q ∧ q < w6.heap.size) := fun q hq => ⟨hsx q hq, (hdx.low q hq).2⟩
          have HD6 := Lib.hid (HD.out.later hl6); have HAL6 := Lib.hid (HAL.out.later hl6); have HLA6 := Lib.hid (HLA.out.later hl6)
          clear HC hdx hl6 hsx HD HAL HLA
          -- Copy
          have HC := Lib.hid (copyDev_any HD6.out (by have := hlp.out.row; omega))
          go_wp2_with fail
          refine HC.out.mono ?_
          rintro e w7 ⟨gy, Sy, rfl, hdy, hl7, hsy⟩
          have HDY := Lib.hid hdy
          have HSY : Hid (∀ q, Sy q → w6.heap.size ≤ q) := fun q hq => hsy q hq
          have HD := Lib.hid (HD6.out.later hl7); have HAL := Lib.hid (HAL6.out.later hl7); have HLA := Lib.hid (HLA6.out.later hl7)
          have HDX7 := Lib.hid (HDX.out.later hl7)
          have hle6 : w5.heap.size ≤ w6.heap.size := by have h1 := (HSX.out gx HDX.out.mem).1; have h2 := (HSX.out gx HDX.out.mem).2; omega
          have hle7 : w6.heap.size ≤ w7.heap.size := hl7.le
          clear HC hdy hl7 hsy HD6 HAL6 HLA6 HDX
          have HDX := HDX7
          clear HDX7
          have hlq : Later w7 (w7.alloc (.cells #[.int .i64 0] 3)) := (Later.refl w7).alloc _
          have HC := Lib.hid (crashDev_any (HDX.out.later hlq) (by have := hlp.out.row; omega) 1 (ints_made w7 0) (by decide) (by intro x hx; simp at hx; subst hx; decide) (fun a ha => by
            cases ha
            intro h
            have h1 := (HDX.out.low _ h).2
            dsimp only at h1
            omega))
          have HDq := Lib.hid (HD.out.later hlq)
          have HDYq := Lib.hid (HDY.out.later hlq)
          have HALq := Lib.hid (HAL.out.later hlq)
          have HLAq := Lib.hid (HLA.out.later hlq)
          clear hlq
          go_wp2_with fail
          generalize w7.alloc (.cells #[.int .i64 0] 3) = w8q at *
          refine HC.out.mono ?_
          rintro e w8 ⟨rfl, hdn, hcn⟩
          have HDn := Lib.hid (HDq.out.chg hcn (fun q hq e => by have h1 := HSL.out q hq; have h2 := (HSX.out q e).1; omega) hdn.base)
          have HDYn := Lib.hid (HDYq.out.chg hcn (fun q hq e => by have h1 := HSY.out q hq; have h2 := (HSX.out q e).2; omega) hdn.base)
          have HALn := Lib.hid (HALq.out.chg hcn (fun e => by have h2 := (HSX.out _ e).1; omega))
          have HLAn := Lib.hid (HLAq.out.chg hcn (fun e => by have h2 := (HSX.out _ e).1; omega))
          have HDXn := Lib.hid hdn
          have hln8 := hcn.size
          have hle8 := HDX.out.base.le
          clear HC hcn hdn HDX HD HDq HDY HDYq HAL HALq HLA HLAq
          have HD := HDn
          clear HDn
          have HDY := HDYn
          clear HDYn
          have HAL := HALn
          clear HALn
          have HLA := HLAn
          clear HLAn
          have HDX := HDXn
          clear HDXn
          have hlq : Later w8 (w8.alloc (.cells #[.int .i64 1] 3)) := (Later.refl w8).alloc _
          have HC := Lib.hid (crashDev_any (HDY.out.later hlq) (by have := hlp.out.row; omega) 1 (ints_made w8 1) (by decide) (by intro x hx; simp at hx; subst hx; decide) (fun a ha => by
            cases ha
            intro h
            have h1 := (HDY.out.low _ h).2
            dsimp only at h1
            omega))
          have HDq := Lib.hid (HD.out.later hlq)
          have HDXq := Lib.hid (HDX.out.later hlq)
          have HALq := Lib.hid (HAL.out.later hlq)
          have HLAq := Lib.hid (HLA.out.later hlq)
          clear hlq
          go_wp2_with fail
          generalize w8.alloc (.cells #[.int .i64 1] 3) = w9q at *
          refine HC.out.mono ?_
          rintro e w9 ⟨rfl, hdn, hcn⟩
          have HDn := Lib.hid (HDq.out.chg hcn (fun q hq e => by have h1 := HSL.out q hq; have h2 := HSY.out q e; omega) hdn.base)
          have HDXn := Lib.hid (HDXq.out.chg hcn (fun q hq e => by have h1 := (HSX.out q hq).2; have h2 := HSY.out q e; omega) hdn.base)
          have HALn := Lib.hid (HALq.out.chg hcn (fun e => by have h2 := HSY.out _ e; omega))
          have HLAn := Lib.hid (HLAq.out.chg hcn (fun e => by have h2 := HSY.out _ e; omega))
          have HDYn := Lib.hid hdn
          skip
          clear HC hcn hdn HDY HD HDq HDX HDXq HAL HALq HLA HLAq
          have HD := HDn
          clear HDn
          have HDX := HDXn
          clear HDXn
          have HAL := HALn
          clear HALn
          have HLA := HLAn
          clear HLAn
          have HDY := HDYn
          clear HDYn
          have HC := Lib.hid (alive10_any w9)
          go_wp2_with fail
          refine HC.out.mono ?_
          rintro e w10 ⟨rfl, hl10⟩
          have HD10 := Lib.hid (HD.out.later hl10); have HDX10 := Lib.hid (HDX.out.later hl10); have HDY10 := Lib.hid (HDY.out.later hl10); have HAL10 := Lib.hid (HAL.out.later hl10); have HLA10 := Lib.hid (HLA.out.later hl10)
          clear HC hl10 HD HDX HDY HAL HLA
          have HC := Lib.hid (imageDev_any HDX10.out)
          go_wp2_with fail
          refine HC.out.mono ?_
          rintro e w11 ⟨v, rfl, hv, hl11⟩
          have hps := image_pos HDX10.out
          obtain ⟨fb, hfb⟩ : ∃ fb, fb = f.flatten := ⟨_, rfl⟩
          rw [show imageP (crashP d [0]) = fb by unfold imageP; rw [crash_lost hlp.out.inv, hfb]] at hv hps
          obtain ⟨xb, xc, rfl, _, _, hbsx⟩ := own_bs_at hv hps
          have HD11 := Lib.hid (HD10.out.later hl11); have HDY11 := Lib.hid (HDY10.out.later hl11); have HAL11 := Lib.hid (HAL10.out.later hl11)
          have HLA11 : BsAt w11 (some ⟨lb, 0, none⟩) ln fb := by rw [hfb]; exact HLA10.out.later hl11
          have HC := Lib.hid (bytesEqual_any (c := xc) (e := lc) hbsx HLA11)
          rw [show decide (fb = fb) = true by simp] at HC
          clear hfb HLA11 hps hv hl11 HD10 HDX10 HDY10 HAL10 HLA10 hbsx
          go_wp2_with fail
          refine HC.out.mono ?_
          rintro e w99 ⟨rfl, e9⟩
          obtain rfl := e9.symm
          clear e9 HC
          have HC := Lib.hid (imageDev_any HDY11.out)
          go_wp2_with fail
          refine HC.out.mono ?_
          rintro e w12 ⟨v, rfl, hv, hl12⟩
          have hps := image_pos HDY11.out
          rw [show imageP (crashP d [1]) = imageP d by unfold imageP; rw [crash_kept hlp.out.inv]] at hv hps
          obtain ⟨yb, yc, rfl, _, _, hbsy⟩ := own_bs_at hv hps
          have HD12 := Lib.hid (HD11.out.later hl12); have HAL12 := Lib.hid (HAL11.out.later hl12)
          have HC := Lib.hid (bytesEqual_any (c := yc) (e := ac) hbsy HAL12.out)
          rw [show decide (imageP d = imageP d) = true by simp] at HC
          clear hv hl12 HD11 HDY11 HAL11 hbsy
          go_wp2_with fail
          refine HC.out.mono ?_
          rintro e w99 ⟨rfl, e9⟩
          obtain rfl := e9.symm
          clear e9 HC
          have HC := Lib.hid (imageDev_any HD12.out)
          go_wp2_with fail
          refine HC.out.mono ?_
          rintro e w13 ⟨v, rfl, hv, hl13⟩
          obtain ⟨zb, zc, rfl, _, _, hbsz⟩ := own_bs_at hv (image_pos HD12.out)
          have HL13 := Lib.hid (HD12.out.base.trans hl13)
          have HC := Lib.hid (bytesEqual_any (c := zc) (e := ac) hbsz (HAL12.out.later hl13))
          rw [show decide (imageP d = imageP d) = true by simp] at HC
          clear hv hl13 HD12 HAL12 hbsz
          go_wp2_with fail
          refine HC.out.mono ?_
          rintro e w99 ⟨rfl, e9⟩
          obtain rfl := e9.symm
          clear e9 HC
          go_wp2
          exact HRR.out _ _ ⟨rfl, HL13.out⟩

end Go.Proofs.Ytknjkkdoeanhbaa
