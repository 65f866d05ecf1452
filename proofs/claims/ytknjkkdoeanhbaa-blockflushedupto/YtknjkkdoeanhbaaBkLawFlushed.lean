/-
  What the law BlockFlushed comes to, as a call.
-/
import Derived.Test.YtknjkkdoeanhbaaBkLawDown
import Derived.Test.YtknjkkdoeanhbaaBkPlain3
namespace Go.Proofs.Ytknjkkdoeanhbaa
open Go.RowKit Go.Maps

theorem law3 : Keyed Try.prog 3 := int_keyed Try.underlying3
theorem zero3 (w : World) : (zeroValue 3).run Try.prog w = .ok (.int .i64 0) w := by kernel_rfl
/-- What the law's loop keeps. -/
structure FlLp (W w : World) (S : Nat → Prop) (g k : Nat) (d : DvP) (f : List Bs) (lb ln mb : Nat) (D : DataW Unit) : Prop where
  dev : DevAt W w S g d
  inv : LostI d f
  arm : DownI (-1) d
  last : BsAt w (some ⟨lb, 0, none⟩) ln f.flatten
  lt : lb < w.heap.size
  out : ¬ S lb
  ops : d.ops ≤ k
  row : d.row.length ≤ k
  map : w.ownsMap Try.prog 3 (plainElem Try.prog 3) mb k D
  mout : ¬ S mb
  apart : lb ≠ mb
  since : SinceI D d.row
  mbase : W.heap.size ≤ mb
theorem downI_new (n : Nat) : DownI (-1) (newP n) := by
  refine ⟨?_, rfl, fun h => absurd h (by decide)⟩
  show false = decide (0 ≤ (-1 : Int) ∧ (-1 : Int) < ((0 : Nat) : Int))
  decide
theorem IntsAt.lt {w : World} {A : Option Addr} {n : Nat} {xs : List Int} (h : IntsAt w A n xs) (h0 : 0 < n) (a : Addr) (ha : A = some a) : a.block < w.heap.size := by
  obtain ⟨b, o, e, hc⟩ := h.2 h0
  have := h.1
  rw [ha] at e
  cases e
  exact lt_of_cell (hc 0 _ (List.getElem?_eq_getElem (show 0 < xs.length by omega)))

set_option maxRecDepth 100000 in
set_option maxHeartbeats 6400000 in
theorem blockFlushed_walk (cnt : Int) (A : Option Addr) (m c : Nat) (xs : List OpC) (A2 : Option Addr) (n2 c2 : Nat) (fs : List Int) (w : World) (hc0 : -9223372036854775808 ≤ cnt) (hc1 : cnt ≤ 9223372036854775807) (hx : Script w A m xs) (hf : IntsAt w A2 n2 fs) (hfr : ∀ z ∈ fs, -9223372036854775808 ≤ z ∧ z ≤ 9223372036854775807) :
    Calls Try.prog 5 #[.int .i64 cnt, .slice A m c, .slice A2 n2 c2] w fun e w' => e = .returned (.bool true) ∧ Later w w' := by
  have HX := Lib.hid hx; have HF := Lib.hid hf; have HFR := Lib.hid hfr
  obtain ⟨z, hz⟩ : ∃ z, z = fewZ m (weighO xs) := ⟨_, rfl⟩
  have HC := Lib.hid (few10_any A m c xs w hx)
  rw [← hz] at HC
  have HZ : Hid (z ≤ 0 → m ≤ 80) := by
    show _ → _
    intro h0
    rw [hz] at h0
    unfold fewZ at h0
    split at h0
    · omega
    · omega
  have HCN := Lib.hid (And.intro hc0 hc1)
  clear hx hz hc0 hc1 hf hfr
  generalize hRR : (fun (e : Ending) (w' : World) => e = .returned (.bool true) ∧ Later w w') = RR
  have HRR : Hid (∀ e w', (e = .returned (.bool true) ∧ Later w w') → RR e w') := fun e w' h => by rw [← hRR]; exact h
  clear hRR
  have hmm := @run_makeMap Try.prog
  go_enter Try.func5, Try.ntmps5
  go_wp2_with fail
  refine HC.out.mono ?_
  rintro e w1 ⟨rfl, hl1⟩
  have HL1 := Lib.hid hl1
  have HA := Lib.hid (alive10_any w1)
  clear hl1 HC
  by_cases h1 : 0 < z
  · go_wp2_with fail
    refine HA.out.mono ?_
    rintro e w2 ⟨rfl, hl2⟩
    go_wp2
    exact HRR.out _ _ ⟨rfl, HL1.out.trans hl2⟩
  · by_cases h2 : 20 < cnt
    · go_wp2_with fail
      refine HA.out.mono ?_
      rintro e w2 ⟨rfl, hl2⟩
      go_wp2
      exact HRR.out _ _ ⟨rfl, HL1.out.trans hl2⟩
    · by_cases h3 : 100 < n2
      · have h3' : (100 : Int) < (n2 : Int) := by omega
        go_wp2_with fail
        refine HA.out.mono ?_
        rintro e w2 ⟨rfl, hl2⟩
        go_wp2
        exact HRR.out _ _ ⟨rfl, HL1.out.trans hl2⟩
      · have h3' : ¬ ((100 : Int) < (n2 : Int)) := by omega
        have hm80 := HZ.out (by omega)
        have HC := Lib.hid (newDev_any (w := w1) (W := w) cnt HCN.out.1 HCN.out.2 HL1.out)
        clear HA HZ HL1
        go_wp2_with fail
        refine HC.out.mono ?_
        rintro e w2 ⟨g, S0, rfl, hd2, _, -⟩
        have HD2 := Lib.hid hd2
        have HC := Lib.hid (imageDev_any hd2)
        clear hd2
        go_wp2_with fail
        refine HC.out.mono ?_
        rintro e w3 ⟨v, rfl, hv, hl3⟩
        obtain ⟨b0, cb0, rfl, hcb0, hb0, hbs0⟩ := own_bs_at hv (image_pos HD2.out)
        have hla : Later w3 (w3.alloc (.map #[] 0)) := (Later.refl w3).alloc _
        have hb0lt := hbs0.lt (image_pos HD2.out)
        have HLP : Hid (FlLp w (w3.alloc (.map #[] 0)) S0 g 0 (newP (countN cnt)) (newP (countN cnt)).bl b0 (imageP (newP (countN cnt))).length w3.heap.size (.map [])) := ⟨(HD2.out.later hl3).later hla, LostI.first _, downI_new _, hbs0.later hla, Nat.lt_of_lt_of_le hb0lt hla.le, (fun h => by have := (HD2.out.low b0 h).2; omega), Nat.le_refl _, Nat.le_refl _, World.ownsMap_made w3 Try.prog 3 (plainElem Try.prog 3), (fun h => by have := (HD2.out.low _ h).2; have := hl3.le; omega), (by omega), (fun x hx => by cases hx), (HD2.out.base.trans hl3).le⟩
        clear hv hl3 hb0 hbs0 HD2 HC hla hb0lt
        go_wp2
        go_loopg [8, 9, 39] (m + 1) (fun g0 s8 s9 s39 wr => ∃ (k : Nat) (d : DvP) (S : Nat → Prop) (f : List Bs) (lb ln lc mb : Nat) (D : DataW Unit), k ≤ m ∧ m - k ≤ g0 ∧ s39 = .int .i64 (k : Nat) ∧ s8 = .slice (some ⟨lb, 0, none⟩) ln lc ∧ s9 = .map (some mb) ∧ ln ≤ lc ∧ Hid (FlLp w wr S g k d f lb ln mb D))
        case atStart => exact ⟨0, _, S0, _, b0, _, cb0, _, _, Nat.zero_le _, by omega, rfl, rfl, rfl, by assumption, HLP⟩
        case round =>
          clear HLP
          obtain ⟨k, d, S, f, lb, ln, lc, mb, D, hk, hg, rfl, rfl, rfl, hlcc, hlp⟩ := hrel
          by_cases hlt : k < m
          · obtain ⟨b, o, ⟨kd, k0, A1, n1, c1, bs, F, m1, e1, fs1⟩, rfl, -, hok, g0, g1, g2, g3⟩ := (HX.out.later hlp.out.dev.base).get hlt
            dsimp only at g0 g1 g2 g3
            have HOK := Lib.hid hok
            have hmb := hlp.out.mbase
            have hmw : ¬ wr.heap.size = mb := fun e => by have := hlp.out.map.lt; omega
            clear hok
            by_cases hk0 : kd = 0
            · subst hk0
              have HSTEP : Hid (StepI (-1) d (doP d ⟨0, k0, A1, n1, c1, bs, F, m1, e1, fs1⟩)) := hlp.out.arm.write k0 bs
              have HLS : Hid (LostI (doP d ⟨0, k0, A1, n1, c1, bs, F, m1, e1, fs1⟩).1 f) := hlp.out.inv.write k0 bs
              have HFW : Hid ((doP d ⟨0, k0, A1, n1, c1, bs, F, m1, e1, fs1⟩).2 ≠ 0 ∧ (doP d ⟨0, k0, A1, n1, c1, bs, F, m1, e1, fs1⟩).1 = d ∨ (doP d ⟨0, k0, A1, n1, c1, bs, F, m1, e1, fs1⟩).2 = 0 ∧ 0 ≤ k0 ∧ ∃ a c, (doP d ⟨0, k0, A1, n1, c1, bs, F, m1, e1, fs1⟩).1.row = d.row ++ [⟨k0.toNat, a, c⟩]) := fl_write hlp.out.arm k0 bs
              have HKW : Hid ((Lit.int .i64 k0).wf = true) := by show _ = _; have := HOK.out.klo; have := HOK.out.khi; simp only [Lit.wf, Bool.and_eq_true, decide_eq_true_eq]; exact ⟨HOK.out.klo, HOK.out.khi⟩
              go_wp2_with fail
              refine (does10_any (hlp.out.dev.later ((Later.refl wr).alloc _)) (by have := hlp.out.ops; omega) (by have := hlp.out.row; omega) ⟨0, k0, A1, n1, c1, bs, F, m1, e1, fs1⟩ (HOK.out.later ((Later.refl wr).alloc _)) (.inl rfl)).mono ?_
              rintro e w7 ⟨S7, he, hd7, hup, hc7⟩
              have hle := ((Later.refl wr).alloc (.cells #[.int .i64 0, .int .i64 k0, .slice A1 n1 c1, .slice F m1 e1] 36)).le
              have q0 : w7.cell? ⟨wr.heap.size, 0, none⟩ = some (.int .i64 0) := hc7.cell ((CellsAt.made wr #[.int .i64 0, .int .i64 k0, .slice A1 n1 c1, .slice F m1 e1] 36).cell rfl) (fun h => by have := (hlp.out.dev.low _ h).2; dsimp only at this; omega)
              have q1 : w7.cell? ⟨wr.heap.size, 1, none⟩ = some (.int .i64 k0) := hc7.cell ((CellsAt.made wr #[.int .i64 0, .int .i64 k0, .slice A1 n1 c1, .slice F m1 e1] 36).cell rfl) (fun h => by have := (hlp.out.dev.low _ h).2; dsimp only at this; omega)
              have HB7 := Lib.hid ((hlp.out.last.later ((Later.refl wr).alloc _)).chg hc7 hlp.out.out)
              have HM7 := Lib.hid (map_chg (map_later hlp.out.map ((Later.refl wr).alloc _) : (wr.alloc (.cells #[.int .i64 0, .int .i64 k0, .slice A1 n1 c1, .slice F m1 e1] 36)).ownsMap Try.prog 3 (plainElem Try.prog 3) mb k D) hc7 hlp.out.mout)
              have hlt7 : lb < w7.heap.size := by have h1 := hc7.size; have h2 := hlp.out.lt; omega
              have hout7 : ¬ S7 lb := fun h => (hup lb h).elim hlp.out.out fun h2 => by have h3 := hlp.out.lt; omega
              have hmout7 : ¬ S7 mb := fun h => (hup mb h).elim hlp.out.mout fun h2 => by have h3 := hlp.out.map.lt; omega
              obtain ⟨r, hr⟩ : ∃ r, r = doP d ⟨0, k0, A1, n1, c1, bs, F, m1, e1, fs1⟩ := ⟨_, rfl⟩
              rw [← hr] at he hd7 HSTEP HLS HFW
              obtain ⟨d', er⟩ := r
              dsimp only at he hd7 HLS HFW
              subst he
              have HD7 := Lib.hid hd7
              have HOPS : Hid (d'.ops ≤ k + 1) := by show _ ≤ _; have := hlp.out.ops; have := HSTEP.out.ops; dsimp only at this; omega
              have HROW : Hid (d'.row.length ≤ k + 1) := by show _ ≤ _; have := hlp.out.row; have := HSTEP.out.row; dsimp only at this; omega
              have HARM : Hid (DownI (-1) d') := HSTEP.out.inv
              have HAP := Lib.hid hlp.out.apart; have HSI := Lib.hid hlp.out.since
              clear hr hd7 hup hc7 HOK hle hlp HSTEP
              rcases HFW.out with ⟨hne, hd⟩ | ⟨rfl, hk0, a0, c0, hrow⟩
              · have HEND : Hid (FlLp w w7 S7 g (k + 1) d' f lb ln mb D) := ⟨HD7.out, HLS.out, HARM.out, HB7.out, hlt7, hout7, HOPS.out, HROW.out, HM7.out.mono (Nat.le_succ k), hmout7, HAP.out, (by rw [hd]; exact HSI.out), hmb⟩
                clear HFW HKW HD7 HLS HARM HB7 hlt7 hout7 HOPS HROW HM7 hmout7 HAP HSI hd
                go_wp2
                go_roundg (m - (k + 1))
                case measure => omega
                case rel => exact ⟨k + 1, d', S7, f, lb, ln, lc, mb, D, by omega, by omega, by go_num, rfl, rfl, by assumption, HEND⟩
              · have HROW2 := Lib.hid hrow; have HK0 := Lib.hid hk0
                clear hrow hk0
                go_wp2_with (at_mapUpdate; refine wpList_mapUpdate_own _ rfl _ _ _ 48 rfl 3 3 law3 Try.underlying48 (plainElem Try.prog 3) mb k D rfl HM7.out (by simp only [maxLen]; omega) _ _ (.int .i64 k0) rfl rfl (keyOf_int_mk Try.underlying3 HKW.out) (.lit (.int .i64 1)) [] (plainElem_int Try.underlying3 rfl) ?_; intro w8 hown8 hg8; have HO8 := Lib.hid hown8; have HG8 := Lib.hid (chg_map hg8); clear hown8 hg8; refine Hid.out ?_)
                have hl8 : Later w w8 := HG8.out.low HD7.out.base fun q hq => by
                  subst hq
                  exact Nat.le_trans hmb (Nat.le_refl _)
                have HEND : Hid (FlLp w w8 S7 g (k + 1) d' f lb ln mb (D.put (.int .i64 k0) (.lit (.int .i64 1)))) := ⟨HD7.out.chg HG8.out (fun q hq e => hmout7 (by rw [← e]; exact hq)) hl8, HLS.out, HARM.out, HB7.out.chg HG8.out HAP.out, Nat.lt_of_lt_of_le hlt7 HG8.out.size, hout7, HOPS.out, HROW.out, HO8.out, hmout7, HAP.out, (by rw [HROW2.out]; exact HSI.out.put HM7.out.isMap HK0.out), hmb⟩
                have q2 : w8.cell? ⟨wr.heap.size, 0, none⟩ = some (.int .i64 0) := HG8.out.cell q0 hmw
                clear HFW HKW HD7 HLS HARM HB7 hlt7 hout7 HOPS HROW HM7 hmout7 HAP HSI HO8 HG8 hl8 HROW2 HK0
                refine Lib.hid ?_
                go_wp2
                go_roundg (m - (k + 1))
                case measure => omega
                case rel => exact ⟨k + 1, d', S7, f, lb, ln, lc, mb, _, by omega, by omega, by go_num, rfl, rfl, by assumption, HEND⟩
            · by_cases hk1 : kd = 1
              · subst hk1
                clear hk0 hmw
                have HSTEP : Hid (StepI (-1) d (doP d ⟨1, k0, A1, n1, c1, bs, F, m1, e1, fs1⟩)) := hlp.out.arm.flush
                have HLS : Hid ((doP d ⟨1, k0, A1, n1, c1, bs, F, m1, e1, fs1⟩).2 ≠ 0 ∧ LostI (doP d ⟨1, k0, A1, n1, c1, bs, F, m1, e1, fs1⟩).1 f ∨ (doP d ⟨1, k0, A1, n1, c1, bs, F, m1, e1, fs1⟩).2 = 0 ∧ LostI (doP d ⟨1, k0, A1, n1, c1, bs, F, m1, e1, fs1⟩).1 (doP d ⟨1, k0, A1, n1, c1, bs, F, m1, e1, fs1⟩).1.bl) := hlp.out.inv.flush
                have HFW : Hid ((doP d ⟨1, k0, A1, n1, c1, bs, F, m1, e1, fs1⟩).2 = 0 ∧ (doP d ⟨1, k0, A1, n1, c1, bs, F, m1, e1, fs1⟩).1.row = []) := fl_flush hlp.out.arm
                have HKW : Hid ((Lit.int .i64 k0).wf = true) := by show _ = _; have := HOK.out.klo; have := HOK.out.khi; simp only [Lit.wf, Bool.and_eq_true, decide_eq_true_eq]; exact ⟨HOK.out.klo, HOK.out.khi⟩
                go_wp2_with fail
                refine (does10_any (hlp.out.dev.later ((Later.refl wr).alloc _)) (by have := hlp.out.ops; omega) (by have := hlp.out.row; omega) ⟨1, k0, A1, n1, c1, bs, F, m1, e1, fs1⟩ (HOK.out.later ((Later.refl wr).alloc _)) (.inr rfl)).mono ?_
                rintro e w7 ⟨S7, he, hd7, hup, hc7⟩
                have hle := ((Later.refl wr).alloc (.cells #[.int .i64 1, .int .i64 k0, .slice A1 n1 c1, .slice F m1 e1] 36)).le
                have q0 : w7.cell? ⟨wr.heap.size, 0, none⟩ = some (.int .i64 1) := hc7.cell ((CellsAt.made wr #[.int .i64 1, .int .i64 k0, .slice A1 n1 c1, .slice F m1 e1] 36).cell rfl) (fun h => by have := (hlp.out.dev.low _ h).2; dsimp only at this; omega)
                have q1 : w7.cell? ⟨wr.heap.size, 1, none⟩ = some (.int .i64 k0) := hc7.cell ((CellsAt.made wr #[.int .i64 1, .int .i64 k0, .slice A1 n1 c1, .slice F m1 e1] 36).cell rfl) (fun h => by have := (hlp.out.dev.low _ h).2; dsimp only at this; omega)
                have HB7 := Lib.hid ((hlp.out.last.later ((Later.refl wr).alloc _)).chg hc7 hlp.out.out)
                have HM7 := Lib.hid (map_chg (map_later hlp.out.map ((Later.refl wr).alloc _) : (wr.alloc (.cells #[.int .i64 1, .int .i64 k0, .slice A1 n1 c1, .slice F m1 e1] 36)).ownsMap Try.prog 3 (plainElem Try.prog 3) mb k D) hc7 hlp.out.mout)
                have hlt7 : lb < w7.heap.size := by have h1 := hc7.size; have h2 := hlp.out.lt; omega
                have hout7 : ¬ S7 lb := fun h => (hup lb h).elim hlp.out.out fun h2 => by have h3 := hlp.out.lt; omega
                have hmout7 : ¬ S7 mb := fun h => (hup mb h).elim hlp.out.mout fun h2 => by have h3 := hlp.out.map.lt; omega
                obtain ⟨r, hr⟩ : ∃ r, r = doP d ⟨1, k0, A1, n1, c1, bs, F, m1, e1, fs1⟩ := ⟨_, rfl⟩
                rw [← hr] at he hd7 HSTEP HLS HFW
                obtain ⟨d', er⟩ := r
                dsimp only at he hd7 HLS HFW
                subst he
                have HD7 := Lib.hid hd7
                have HOPS : Hid (d'.ops ≤ k + 1) := by show _ ≤ _; have := hlp.out.ops; have := HSTEP.out.ops; dsimp only at this; omega
                have HROW : Hid (d'.row.length ≤ k + 1) := by show _ ≤ _; have := hlp.out.row; have := HSTEP.out.row; dsimp only at this; omega
                have HARM : Hid (DownI (-1) d') := HSTEP.out.inv
                have HAP := Lib.hid hlp.out.apart; have HSI := Lib.hid hlp.out.since
                clear hr hd7 hup hc7 HOK hle hlp HSTEP
                have HLS2 : Hid (LostI d' d'.bl) := HLS.out.elim (fun h => absurd HFW.out.1 h.1) fun h => h.2
                obtain ⟨rfl, hrow⟩ := HFW.out
                have HROW2 := Lib.hid hrow
                have HC := Lib.hid (imageDev_any HD7.out)
                clear hrow HFW HLS
                go_wp2_with fail
                refine HC.out.mono ?_
                rintro e w8 ⟨v, rfl, hv, hl8⟩
                obtain ⟨b2, c2, rfl, hcc2, hb2, hbs2⟩ := own_bs_at hv (image_pos HD7.out)
                have hla : Later w8 (w8.alloc (.map #[] 0)) := (Later.refl w8).alloc _
                have hb2lt := hbs2.lt (image_pos HD7.out)
                have HEND : Hid (FlLp w (w8.alloc (.map #[] 0)) S7 g (k + 1) d' d'.bl b2 (imageP d').length w8.heap.size (.map [])) := ⟨(HD7.out.later hl8).later hla, HLS2.out, HARM.out, hbs2.later hla, Nat.lt_of_lt_of_le hb2lt hla.le, (fun h => by have := (HD7.out.low b2 h).2; omega), HOPS.out, HROW.out, (World.ownsMap_made w8 Try.prog 3 (plainElem Try.prog 3)).mono (Nat.zero_le _), (fun h => by have := (HD7.out.low _ h).2; have := hl8.le; omega), (by omega), (by rw [HROW2.out]; intro x hx; cases hx), (HD7.out.base.trans hl8).le⟩
                clear HD7 HB7 HLS2 HARM hlt7 hout7 HOPS HROW HM7 hmout7 HAP HSI hv hl8 hb2 hbs2 HC hla hb2lt HROW2 HKW
                go_wp2
                go_roundg (m - (k + 1))
                case measure => omega
                case rel => exact ⟨k + 1, d', S7, d'.bl, b2, (imageP d').length, c2, w8.heap.size, .map [], by omega, by omega, by go_num, rfl, rfl, by assumption, HEND⟩
              · have HEND0 : Hid (∀ v, FlLp w (wr.alloc v) S g (k + 1) d f lb ln mb D) := fun v => ⟨hlp.out.dev.later ((Later.refl wr).alloc _), hlp.out.inv, hlp.out.arm, hlp.out.last.later ((Later.refl wr).alloc _), Nat.lt_of_lt_of_le hlp.out.lt ((Later.refl wr).alloc v).le, hlp.out.out, Nat.le_succ_of_le hlp.out.ops, Nat.le_succ_of_le hlp.out.row, (hlp.out.map.alloc v).mono (Nat.le_succ k), hlp.out.mout, hlp.out.apart, hlp.out.since, hlp.out.mbase⟩
                clear hlp HOK hmw hmb
                go_wp2_with fail
                go_roundg (m - (k + 1))
                case measure => omega
                case rel => exact ⟨k + 1, d, S, f, lb, ln, lc, mb, D, by omega, by omega, by go_num, rfl, rfl, by assumption, HEND0.out _⟩
                exfalso
                have hh : (kd != 0) = false ∨ (kd != 1) = false := by assumption
                rcases hh with hh | hh
                · exact hk0 (by simpa using hh)
                · exact hk1 (by simpa using hh)
          · obtain rfl : k = m := by omega
            have HC := Lib.hid (crashDev_any hlp.out.dev (by have := hlp.out.row; omega) c2 (HF.out.later hlp.out.dev.base) (by omega) HFR.out (fun h0 a ha h => by
              have h1 := HF.out.lt h0 a ha
              have h2 := (hlp.out.dev.low _ h).1
              omega))
            go_wp2_with fail
            refine HC.out.mono ?_
            rintro e w5 ⟨rfl, hd5, hc5⟩
            have HD5 := Lib.hid hd5
            have HB5 := Lib.hid (hlp.out.last.chg hc5 hlp.out.out)
            have HM5 := Lib.hid (map_chg hlp.out.map hc5 hlp.out.mout)
            have HSI := Lib.hid hlp.out.since
            have HOT := Lib.hid (fun (j : Nat) (hj : j < d.bl.length) (hn : ∀ x ∈ d.row, x.pl ≠ j) => crash_other hlp.out.inv hlp.out.dev.ok fs hj hn)
            have HLN : Hid (ln = d.bl.length * 64) := by
              show _ = _
              have h1 := hlp.out.last.len
              rw [← h1]
              have hb := hlp.out.inv.back
              have hok := hlp.out.dev.ok
              rw [← hb, flat64 (backP_size hok.size fun x hx => (hok.row x hx).2.1), backP_length]
            have hcl : (crashP d fs).bl.length = d.bl.length := by
              show (formsP fs 0 d.row (backP d.bl d.row)).length = _
              rw [formsP_length, backP_length]
            have hmost : d.bl.length ≤ 4096 := hlp.out.dev.ok.most
            have HC := Lib.hid (countDev_any HD5.out)
            rw [hcl] at HC
            have HCL := Lib.hid hcl
            obtain ⟨q, hq⟩ : ∃ q, q = d.bl.length := ⟨_, rfl⟩
            rw [← hq] at HC HCL HOT HLN hmost
            clear hd5 hc5 hlp hq hcl
            go_wp2_with fail
            refine HC.out.mono ?_
            rintro e w99 ⟨rfl, e9⟩
            obtain rfl := e9.symm
            clear e9 HC
            go_wp2
            go_loopg [83] (q + 1) (fun g0 s83 wr2 => ∃ (j : Nat), j ≤ q ∧ q - j ≤ g0 ∧ s83 = .int .i64 (j : Nat) ∧ Hid (Later w5 wr2))
            case atStart => exact ⟨0, Nat.zero_le _, by omega, rfl, Later.refl _⟩
            case round =>
              obtain ⟨j, hj, hg2, rfl, hl2⟩ := hrel
              by_cases hjq : j < q
              · have HC := Lib.hid (readDev_any (HD5.out.later hl2.out) (j : Int))
                rw [show readE (crashP d fs) (j : Int) = 0 by unfold readE; rw [if_neg (by show ¬ (false = true); decide), if_pos ⟨by omega, by rw [HCL.out]; omega⟩], show readB (crashP d fs) (j : Int) = (crashP d fs).bl.getD j [] by unfold readB; rw [if_neg (by show ¬ (false = true); decide), if_pos ⟨by omega, by rw [HCL.out]; omega⟩]; rfl] at HC
                go_wp2_with fail
                refine HC.out.mono ?_
                rintro e w6 ⟨v, rfl, hv, hl6⟩
                have h64 : ((crashP d fs).bl.getD j []).length = 64 := by
                  have hjl : j < (crashP d fs).bl.length := by rw [HCL.out]; exact hjq
                  simp only [List.getD, List.getElem?_eq_getElem hjl, Option.getD_some]
                  exact HD5.out.ok.size _ (List.getElem_mem hjl)
                rw [h64] at hv
                obtain ⟨vb, vc, rfl, _, _, hbv⟩ := own_bs_at hv (by decide)
                have hl56 := hl2.out.trans hl6
                have HL56 := Lib.hid hl56
                obtain ⟨cc, hrun, hat, -⟩ := (map_later HM5.out hl56).lookup_int law3 Try.underlying48 Try.underlying3 (zero3 _) (keyOf_int_mk Try.underlying3 (a := (j : Int)) (by simp only [Lit.wf, Bool.and_eq_true, decide_eq_true_eq]; exact ⟨(by omega : (-9223372036854775808 : Int) ≤ (j : Int)), (by omega : (j : Int) ≤ 9223372036854775807)⟩))
                have HBV := Lib.hid hbv
                have HAT := Lib.hid hat
                clear hv hl6 hl56 hat hbv HC h64
                by_cases hcc : cc = 0
                · have hno := since_not HSI.out HAT.out hcc
                  have hs1 : (j + 1) * 64 ≤ lc := by have := HLN.out; omega
                  have hs2 : ¬ lc = j * 64 := by omega
                  have HB6 := Lib.hid (((HB5.out.later HL56.out).sub64 (k := j) (by rw [HLN.out]; omega)))
                  have hb6 : BsAt w6 (some ⟨lb, j * 64, none⟩) ((j + 1) * 64 - j * 64) ((f.flatten.drop (j * 64)).take 64) := by
                    rw [show (j + 1) * 64 - j * 64 = 64 by omega]
                    exact HB6.out
                  have HC := Lib.hid (bytesEqual_any (c := vc) (e := lc - j * 64) HBV.out hb6)
                  rw [HOT.out j hjq hno, show ∀ b : Bs, decide (b = b) = true by simp] at HC
                  subst hcc
                  clear hno HBV HB6 HAT hb6
                  go_wp2_with fail
                  refine HC.out.mono ?_
                  rintro e w99 ⟨rfl, e9⟩
                  obtain rfl := e9.symm
                  clear e9 HC
                  go_wp2
                  go_roundg (q - (j + 1))
                  case measure => omega
                  case rel => exact ⟨j + 1, by omega, by omega, by go_num, HL56.out⟩
                · clear HBV HAT
                  go_wp2
                  go_roundg (q - (j + 1))
                  case measure => omega
                  case rel => exact ⟨j + 1, by omega, by omega, by go_num, HL56.out⟩
              · have HLW := Lib.hid (HD5.out.base.trans hl2.out)
                go_wp2_with fail
                refine (alive10_any _).mono ?_
                rintro e w6 ⟨rfl, hl6⟩
                go_wp2
                exact HRR.out _ _ ⟨rfl, HLW.out.trans hl6⟩

end Go.Proofs.Ytknjkkdoeanhbaa
