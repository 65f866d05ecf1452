/-
  What the law BlockOwn comes to, as a call.
-/
import Derived.Test.YtknjkkdoeanhbaaBkAlive
namespace Go.Proofs.Ytknjkkdoeanhbaa
open Go.RowKit

/-- Bytes of the call's own, as a slice: where they lie, and that they may be written. -/
theorem own_bs_cells {w : World} {B n : Nat} {v : Value} {bs : Bs} (h : w.ownsRow B 5 1 v n (Lib.byteCells bs)) (h0 : 0 < n) : ∃ b c cur, v = .slice (some ⟨b, 0, .none⟩) n c ∧ n ≤ c ∧ B ≤ b ∧ BsAt w (some ⟨b, 0, .none⟩) n bs ∧ CellsAt w b cur 5 := by
  obtain ⟨A, c, rfl, hc, _, hb⟩ := own_bs h
  rcases h.2 with ⟨_, h1⟩ | ⟨g, cap, cur, hv, hg, hh, _⟩
  · omega
  · cases hv
    exact ⟨g, c, cur, rfl, hc, hg, hb, hh⟩
def oD (bs : Bs) : DvP := ⟨[fillB bs], [⟨0, zeros 64, fillB bs⟩], 1, false, 0, false⟩
def oE (bs : Bs) : DvP := ⟨[fillB bs], [], 2, false, 0, false⟩
theorem o_write {bs : Bs} (h : bs.length ≤ 64) : writeP (newP 1) 0 bs = (oD bs, 0) := by
  unfold writeP
  rw [if_neg (by decide), if_neg (by have : (newP 1).bl.length = 1 := rfl; omega)]
  rfl
theorem o_flush (bs : Bs) : flushP (oD bs) = (oE bs, 0) := by
  unfold flushP
  rw [if_neg (by show ¬ (false = true); decide), if_neg (by show ¬ (false = true ∧ _); simp)]
  rfl
theorem o_readE (bs : Bs) : readE (oD bs) 0 = 0 := rfl
theorem o_readB (bs : Bs) : readB (oD bs) 0 = fillB bs := rfl
theorem o_readE2 (bs : Bs) : readE (oE bs) 0 = 0 := rfl
theorem o_readB2 (bs : Bs) : readB (oE bs) 0 = fillB bs := rfl
theorem o_pre {bs : Bs} (h : bs.length ≤ 64) : hasP (fillB bs) bs = true := by
  unfold hasP
  rw [fillB_length h, decide_eq_true h, Bool.true_and, decide_eq_true_eq]
  unfold fillB
  rw [List.take_left]
theorem o_image (bs : Bs) : imageP (oD bs) = fillB bs := by
  show [fillB bs].flatten = _
  simp

set_option maxRecDepth 100000 in
set_option maxHeartbeats 3200000 in
theorem blockOwn_walk (A : Option Addr) (n c : Nat) (bs : Bs) (w : World) (hx : BsAt w A n bs) (hA : A = none → c = 0) (hnc : n ≤ c) :
    Calls Try.prog 8 #[.slice A n c] w fun e w' => e = .returned (.bool true) ∧ Later w w' := by
  have HC := Lib.hid (newDev_any (w := w) (W := w) 1 (by decide) (by decide) (Later.refl w))
  have HX := Lib.hid hx; have HAA := Lib.hid hA; have HNC := Lib.hid hnc
  have hl := hx.len
  have HLN := Lib.hid hl
  clear hx hA
  generalize hRR : (fun (e : Ending) (w' : World) => e = .returned (.bool true) ∧ Later w w') = RR
  have HRR : Hid (∀ e w', (e = .returned (.bool true) ∧ Later w w') → RR e w') := fun e w' h => by rw [← hRR]; exact h
  clear hRR hl
  go_enter Try.func8, Try.ntmps8
  by_cases h1 : n < 1
  · have h1' : (n : Int) < 1 := by omega
    go_wp2_with fail
    refine HC.out.mono ?_
    rintro e w1 ⟨g, S, rfl, hd, hl1, -⟩
    have HC2 := Lib.hid (alive10_any w1)
    clear hd HC
    go_wp2_with fail
    refine HC2.out.mono ?_
    rintro e w2 ⟨rfl, hl2⟩
    go_wp2
    exact HRR.out _ _ ⟨rfl, hl1.trans hl2⟩
  · by_cases h2 : 64 < n
    · have h2' : (64 : Int) < (n : Int) := by omega
      have h1' : ¬ ((n : Int) < 1) := by omega
      go_wp2_with fail
      refine HC.out.mono ?_
      rintro e w1 ⟨g, S, rfl, hd, hl1, -⟩
      have HC2 := Lib.hid (alive10_any w1)
      clear hd HC
      go_wp2_with fail
      refine HC2.out.mono ?_
      rintro e w2 ⟨rfl, hl2⟩
      go_wp2
      exact HRR.out _ _ ⟨rfl, hl1.trans hl2⟩
    · have h1' : ¬ ((n : Int) < 1) := by omega
      have h2' : ¬ ((64 : Int) < (n : Int)) := by omega
      have h0 : 0 < n := by omega
      have hb64 : bs.length ≤ 64 := by have := HLN.out; omega
      have HB64 := Lib.hid hb64
      clear hb64
      go_wp2_with fail
      refine HC.out.mono ?_
      rintro e w1 ⟨g, S, rfl, hd, hl1, hs⟩
      have hd1 : DevAt w w1 S g (newP 1) := hd
      have hla : Later w1 (w1.alloc (.cells #[] 5)) := (Later.refl w1).alloc _
      have HD1 := Lib.hid (hd1.later hla)
      have HXA := Lib.hid (HX.out.later (hl1.trans hla))
      have hown : (w1.alloc (.cells #[] 5)).ownsRow w1.heap.size 5 1 (.slice (some ⟨w1.heap.size, 0, none⟩) 0 0) 0 [] := World.ownsRow_made w1 #[] 0 (Nat.le_refl _) (Nat.zero_le _) rfl
      have HOW := Lib.hid hown
      have HLO : Hid (∀ k, S k → k < w1.heap.size) := fun k hk => (hd1.low k hk).2
      clear hd hd1 hs HC hown
      go_wp2_with (at_builtin; refine wpList_append_bs rfl _ _ rfl HOW.out rfl rfl HXA.out HAA.out HNC.out (by omega) (by simp) ?_; intro v4 w4 hown4 hg4; have HO4 := Lib.hid hown4; have HG4 := Lib.hid hg4; clear hown4 hg4; refine Hid.out ?_)
      have HO5 : Hid (w4.ownsRow w1.heap.size 5 1 v4 n (Lib.byteCells bs)) := by
        have := HO4.out
        rw [Nat.zero_add, List.nil_append] at this
        exact this
      have hch4 : Chg (fun q => q = w1.heap.size) (w1.alloc (.cells #[] 5)) w4 := Chg.grown HG4.out fun q hq => by cases hq; exact .inl rfl
      have hlw4 : Later w w4 := hch4.low (hl1.trans hla) fun q hq => by rw [hq]; exact hl1.le
      have hd4 := HD1.out.chg hch4 (fun q hq e => by have := HLO.out q hq; omega) hlw4
      obtain ⟨cb, cc, curc, rfl, hcc, hcb, hbc, hcur⟩ := own_bs_cells HO5.out h0
      have hSc : ¬ S cb := fun h => by have := HLO.out cb h; omega
      have HD4 := Lib.hid hd4; have HBC := Lib.hid hbc; have HCUR := Lib.hid hcur; have HX4 := Lib.hid (HX.out.later hlw4)
      have hcl := hcur.lt
      have hle1 := hl1.le
      have HC := Lib.hid (writeDev_any hd4 (by decide) (by decide) 0 (some ⟨cb, 0, none⟩) n cc bs hbc)
      rw [o_write HB64.out] at HC
      clear HO4 HO5 HG4 HOW HXA HD1 hch4 hlw4 hd4 hbc hcur hla hl1 HLO
      refine Lib.hid ?_
      -- Write
      go_wp2_with fail
      refine HC.out.mono ?_
      rintro e w5 ⟨S1, rfl, hd5, hup, hc5⟩
      have hd5' : DevAt w w5 S1 g (oD bs) := hd5
      have hS1c : ¬ S1 cb := fun h => (hup cb h).elim hSc fun h2 => by omega
      have hcur5 := HCUR.out.chg hc5 hSc
      obtain ⟨y0, hy0⟩ : ∃ y, bs[0]? = some y := ⟨_, List.getElem?_eq_getElem (by have := HLN.out; omega)⟩
      have k0 : w5.cell? ⟨cb, 0, none⟩ = some (.int .u8 (y0.toNat : Int)) := (HBC.out.chg hc5 hSc).at_ hy0
      have k0f : w5.frozen? ⟨cb, 0, none⟩ = false := hcur5.frozen 0
      have HD5 := Lib.hid hd5'
      clear hd5 hd5' hup hc5 HC HD4 HBC HCUR hcur5 hSc hy0
      -- c[0]++
      have hc6 : Chg (fun q => q = cb) w5 (w5.setCell ⟨cb, 0, none⟩ (.int .u8 (((y0.toNat : Int) + 1) % 256))) := chg_set w5 cb 0 _
      have hcbw : w.heap.size ≤ cb := by omega
      have hl6 : Later w (w5.setCell ⟨cb, 0, none⟩ (.int .u8 (((y0.toNat : Int) + 1) % 256))) := hc6.low HD5.out.base fun q hq => by rw [hq]; exact hcbw
      have HD6 := Lib.hid (HD5.out.chg hc6 (fun q hq e => hS1c (by rw [← e]; exact hq)) hl6)
      have HC := Lib.hid (readDev_any HD6.out 0)
      rw [o_readE, o_readB] at HC
      clear hc6 hl6 HD5 hS1c hcl
      go_wp2_with fail
      generalize w5.setCell ⟨cb, 0, none⟩ (.int .u8 (((y0.toNat : Int) + 1) % 256)) = w6 at *
      clear k0 k0f
      -- Read
      refine HC.out.mono ?_
      rintro e w7 ⟨v, rfl, hv, hl7⟩
      rw [fillB_length HB64.out] at hv
      obtain ⟨xb, xc, curx, rfl, hxc, hxb, hx7, hcurx⟩ := own_bs_cells hv (by decide)
      have hSx : ∀ q, S1 q → q ≠ xb := fun q hq => by have := (HD6.out.low q hq).2; omega
      have hxw : w.heap.size ≤ xb := by have := HD6.out.base.le; omega
      have HD7 := Lib.hid (HD6.out.later hl7)
      obtain ⟨x0, hx0⟩ : ∃ y, (fillB bs)[0]? = some y := ⟨_, List.getElem?_eq_getElem (by rw [fillB_length HB64.out]; decide)⟩
      have k0 : w7.cell? ⟨xb, 0, none⟩ = some (.int .u8 (x0.toNat : Int)) := hx7.at_ hx0
      have k0f : w7.frozen? ⟨xb, 0, none⟩ = false := hcurx.frozen 0
      have HX7 := Lib.hid (HX.out.later HD7.out.base)
      have HP := Lib.hid (hasPrefix_any (c := xc) (e := c) hx7 HX7.out hxc)
      rw [o_pre HB64.out] at HP
      clear hv hl7 hxb hcurx hx0 HC HD6 hx7
      go_wp2_with fail
      refine HP.out.mono ?_
      rintro e w99 ⟨rfl, e9⟩
      obtain rfl := e9.symm
      clear e9 HP HX7
      -- x[0]++
      have hc8 : Chg (fun q => q = xb) w7 (w7.setCell ⟨xb, 0, none⟩ (.int .u8 (((x0.toNat : Int) + 1) % 256))) := chg_set w7 xb 0 _
      have hl8 : Later w (w7.setCell ⟨xb, 0, none⟩ (.int .u8 (((x0.toNat : Int) + 1) % 256))) := hc8.low HD7.out.base fun q hq => by rw [hq]; exact hxw
      have HD8 := Lib.hid (HD7.out.chg hc8 hSx hl8)
      have HC := Lib.hid (imageDev_any HD8.out)
      rw [o_image] at HC
      clear hc8 hl8 HD7 hSx
      go_wp2_with fail
      generalize w7.setCell ⟨xb, 0, none⟩ (.int .u8 (((x0.toNat : Int) + 1) % 256)) = w8 at *
      clear k0 k0f
      -- Image
      refine HC.out.mono ?_
      rintro e w9 ⟨v, rfl, hv, hl9⟩
      rw [fillB_length HB64.out] at hv
      obtain ⟨ib, ic, curi, rfl, hic, hib, hi9, hcuri⟩ := own_bs_cells hv (by decide)
      have hSi : ∀ q, S1 q → q ≠ ib := fun q hq => by have := (HD8.out.low q hq).2; omega
      have hiw : w.heap.size ≤ ib := by have := HD8.out.base.le; omega
      have HD9 := Lib.hid (HD8.out.later hl9)
      obtain ⟨i0, hi0⟩ : ∃ y, (fillB bs)[0]? = some y := ⟨_, List.getElem?_eq_getElem (by rw [fillB_length HB64.out]; decide)⟩
      have k0 : w9.cell? ⟨ib, 0, none⟩ = some (.int .u8 (i0.toNat : Int)) := hi9.at_ hi0
      have k0f : w9.frozen? ⟨ib, 0, none⟩ = false := hcuri.frozen 0
      have hc10 : Chg (fun q => q = ib) w9 (w9.setCell ⟨ib, 0, none⟩ (.int .u8 (((i0.toNat : Int) + 1) % 256))) := chg_set w9 ib 0 _
      have hl10 : Later w (w9.setCell ⟨ib, 0, none⟩ (.int .u8 (((i0.toNat : Int) + 1) % 256))) := hc10.low HD9.out.base fun q hq => by rw [hq]; exact hiw
      have HD10 := Lib.hid (HD9.out.chg hc10 hSi hl10)
      have HC := Lib.hid (readDev_any HD10.out 0)
      rw [o_readE, o_readB] at HC
      clear hv hl9 hib hcuri hi0 HD8 hi9 hc10 hl10 HD9 hSi
      go_wp2_with fail
      generalize w9.setCell ⟨ib, 0, none⟩ (.int .u8 (((i0.toNat : Int) + 1) % 256)) = w10 at *
      clear k0 k0f
      -- Read
      refine HC.out.mono ?_
      rintro e w11 ⟨v, rfl, hv, hl11⟩
      rw [fillB_length HB64.out] at hv
      obtain ⟨yb, yc, cury, rfl, hyc, hyb, hy11, hcury⟩ := own_bs_cells hv (by decide)
      have hyg : yb ≠ g := fun e => by have := (HD10.out.low g HD10.out.mem).2; omega
      have HD11 := Lib.hid (HD10.out.later hl11)
      have HY11 := Lib.hid hy11
      have HC := Lib.hid (flushDev_any HD11.out (by show (1 : Nat) ≤ _; decide))
      rw [o_flush] at HC
      clear hv hl11 hyb hcury hy11 HD10
      go_wp2_with fail
      -- Flush
      refine HC.out.mono ?_
      rintro e w12 ⟨rfl, hd12, hc12⟩
      have HD12 := Lib.hid hd12
      have HY12 := Lib.hid (HY11.out.chg hc12 hyg)
      have HC := Lib.hid (readDev_any HD12.out 0)
      rw [o_readE2, o_readB2] at HC
      clear hd12 hc12 HY11 HD11
      go_wp2_with fail
      -- Read
      refine HC.out.mono ?_
      rintro e w13 ⟨v, rfl, hv, hl13⟩
      rw [fillB_length HB64.out] at hv
      obtain ⟨zb, zc, curz, rfl, hzc, -, hz13, -⟩ := own_bs_cells hv (by decide)
      have HC := Lib.hid (alive10_any w13)
      have HY13 := Lib.hid (HY12.out.later hl13)
      have HZ13 := Lib.hid hz13
      have HL13 := Lib.hid (HD12.out.base.trans hl13)
      clear hv hl13 hz13 HD12 HY12
      go_wp2_with fail
      -- alive
      refine HC.out.mono ?_
      rintro e w14 ⟨rfl, hl14⟩
      have HL14 := Lib.hid (HL13.out.trans hl14)
      have HP := Lib.hid (hasPrefix_any (c := yc) (e := c) (HY13.out.later hl14) (HX.out.later HL14.out) hyc)
      rw [o_pre HB64.out] at HP
      have HQ := Lib.hid (bytesEqual_any (c := yc) (e := zc) (HY13.out.later hl14) (HZ13.out.later hl14))
      rw [show decide (fillB bs = fillB bs) = true by simp] at HQ
      clear hl14 HC HY13 HZ13 HL13
      go_wp2_with fail
      refine HP.out.mono ?_
      rintro e w99 ⟨rfl, e9⟩
      obtain rfl := e9.symm
      clear e9 HP
      go_wp2_with fail
      refine HQ.out.mono ?_
      rintro e w99 ⟨rfl, e9⟩
      obtain rfl := e9.symm
      clear e9 HQ
      go_wp2
      exact HRR.out _ _ ⟨rfl, HL14.out⟩

end Go.Proofs.Ytknjkkdoeanhbaa
