/-
  The statements' own example (alive) of layer 10, as a call.
-/
import Derived.Test.YtknjkkdoeanhbaaBkOf
import Derived.Test.YtknjkkdoeanhbaaBkWrite
import Derived.Test.YtknjkkdoeanhbaaBkCrash
import Derived.Test.YtknjkkdoeanhbaaBkCopy
import Derived.Test.YtknjkkdoeanhbaaBkImage
import Derived.Test.YtknjkkdoeanhbaaBkRepeat
namespace Go.Proofs.Ytknjkkdoeanhbaa
open Go.RowKit

section
variable {S S' : Nat → Prop} {w w' : World} {b o n c : Nat} {bs : Bs}
theorem BsAt.chg (h : BsAt w (some ⟨b, o, .none⟩) n bs) (hc : Chg S w w') (hn : ¬ S b) : BsAt w' (some ⟨b, o, .none⟩) n bs := ⟨h.1, fun h0 => by
  obtain ⟨b', o', e, hcl⟩ := h.2 h0
  cases e
  exact ⟨b, o, rfl, fun j x hx => hc.cell (hcl j x hx) hn⟩⟩
theorem BsAt.lt (h : BsAt w (some ⟨b, o, .none⟩) n bs) (h0 : 0 < n) : b < w.heap.size := by
  obtain ⟨b', o', e, hcl⟩ := h.2 h0
  cases e
  have := h.1
  exact lt_of_cell (hcl 0 _ (List.getElem?_eq_getElem (show 0 < bs.length by omega)))
theorem BsAt.at_ (h : BsAt w (some ⟨b, o, .none⟩) n bs) {j : Nat} {x : UInt8} (hx : bs[j]? = some x) : w.cell? ⟨b, o + j, .none⟩ = some (.int .u8 (x.toNat : Int)) := by
  have hj := (List.getElem?_eq_some_iff.1 hx).1
  obtain ⟨b', o', e, hcl⟩ := h.2 (by have := h.1; omega)
  cases e
  exact hcl j x hx
/-- Bytes of the call's own, as a slice: where they lie. -/
theorem own_bs_at {B : Nat} {v : Value} (h : w.ownsRow B 5 1 v n (Lib.byteCells bs)) (h0 : 0 < n) : ∃ b c, v = .slice (some ⟨b, 0, .none⟩) n c ∧ n ≤ c ∧ B ≤ b ∧ BsAt w (some ⟨b, 0, .none⟩) n bs := by
  obtain ⟨A, c, rfl, hc, _, hb⟩ := own_bs h
  rcases h.2 with ⟨_, h1⟩ | ⟨g, cap, cur, hv, hg, _⟩
  · omega
  · cases hv
    exact ⟨g, c, rfl, hc, hg, hb⟩
end
def aF : Bs := List.replicate 64 7
def aD0 : DvP := newP 2
def aD1 : DvP := (writeP aD0 1 aF).1
def aD2 : DvP := crashP aD1 [3]
def aD3 : DvP := armP aD2 0
def aD4 : DvP := (flushP aD3).1
def aC1 : DvP := (flushP aD1).1
theorem aw1 : (writeP aD0 1 aF).2 = 0 := by decide +kernel
theorem aw2 : (writeP aD1 2 []).2 = 101 := by decide +kernel
theorem aw2d : (writeP aD1 2 []).1 = aD1 := by
  unfold writeP
  rw [if_neg (by decide +kernel), if_pos (by decide +kernel)]
theorem ar2 : readE aD2 1 = 0 := by decide +kernel
theorem ar2b : (readB aD2 1).length = 64 := by decide +kernel
theorem ar2x : (readB aD2 1)[0]? = some 0 := by decide +kernel
theorem ar2y : (readB aD2 1)[63]? = some 7 := by decide +kernel
theorem af3 : (flushP aD3).2 = 100 := by decide +kernel
theorem ad4 : aD4.down = true := by decide +kernel
theorem ar1 : readE aD1 1 = 0 := by decide +kernel
theorem ar1b : readB aD1 1 = aF := by decide +kernel
theorem af1 : (flushP aD1).2 = 0 := by decide +kernel
theorem ao1 : aC1.ops = 2 := by decide +kernel
theorem ap1 : aD1.row.length = 1 := by decide +kernel
theorem ab4 : aD4.bl.length = 2 := by decide +kernel
theorem ai4 : (imageP aD4).length = 128 := by decide +kernel
theorem aof : (ofP [1]).bl.length = 1 := by decide +kernel

set_option maxRecDepth 100000 in
set_option maxHeartbeats 3200000 in
theorem alive10_any (w : World) : Calls Try.prog 11 #[] w fun e w' => e = .returned (.bool true) ∧ Later w w' := by
  have HC := Lib.hid (newDev_any (w := w) (W := w) 2 (by decide) (by decide) (Later.refl w))
  generalize hRR : (fun (e : Ending) (w' : World) => e = .returned (.bool true) ∧ Later w w') = RR
  have HRR : Hid (∀ e w', (e = .returned (.bool true) ∧ Later w w') → RR e w') := fun e w' h => by rw [← hRR]; exact h
  clear hRR
  go_enter Try.func11, Try.ntmps11
  go_wp2_with fail
  refine HC.out.mono ?_
  rintro e w1 ⟨g, S, rfl, hd, hl, hs⟩
  have hcn : countN 2 = 2 := by decide
  rw [hcn] at hd
  have hd0 : DevAt w w1 S g aD0 := hd
  clear hd hcn HC hs
  -- full
  have hla : Later w1 (w1.alloc (.cells #[.int .u8 7] 5)) := (Later.refl w1).alloc _
  have HC := Lib.hid (repeat_any (w1.alloc (.cells #[.int .u8 7] 5)) w1.heap.size 1 7 (by have := (CellsAt.made w1 #[.int .u8 7] 5).cell (i := 0) rfl; exact this))
  have HD1 := Lib.hid (hd0.later hla)
  have HLO : Hid (∀ k, S k → k < w1.heap.size) := fun k hk => (hd0.low k hk).2
  have hs1 : w1.heap.size < (w1.alloc (.cells #[.int .u8 7] 5)).heap.size := by rw [World.size_alloc]; omega
  clear hd0 hl
  go_wp2_with fail
  generalize w1.alloc (.cells #[.int .u8 7] 5) = w2 at *
  refine HC.out.mono ?_
  rintro e w3 ⟨rfl, hbf, hl3⟩
  have hfS : ¬ S w2.heap.size := fun h => by have := HLO.out _ h; omega
  generalize w2.heap.size = fb at hbf hfS ⊢
  have HF3 : Hid (BsAt w3 (some ⟨fb, 0, none⟩) 64 aF) := hbf
  have HD3 := Lib.hid (HD1.out.later hl3)
  clear hbf HC HD1 hl3 hla hs1 HLO
  -- Write 1
  have HC := Lib.hid (writeDev_any HD3.out (by decide) (by decide) 1 (some ⟨fb, 0, none⟩) 64 64 aF HF3.out)
  rw [aw1] at HC
  go_wp2_with fail
  refine HC.out.mono ?_
  rintro e w4 ⟨S1, rfl, hd4, hup, hc4⟩
  have hd4' : DevAt w w4 S1 g aD1 := hd4
  have HF4 := Lib.hid (HF3.out.chg hc4 hfS)
  have hf1 : ¬ S1 fb := fun h => (hup fb h).elim hfS fun h2 => by have := HF3.out.lt (by decide); omega
  have HD4 := Lib.hid hd4'
  clear hd4 hd4' hup hc4 HC HF3 HD3 hfS
  -- Write 2
  have HC := Lib.hid (writeDev_any HD4.out (by decide) (by decide) 2 none 0 0 [] (BsAt.none _ _))
  rw [aw2, aw2d] at HC
  go_wp2_with fail
  refine HC.out.mono ?_
  rintro e w5 ⟨S2, rfl, hd5, hup, hc5⟩
  have HF5 := Lib.hid (HF4.out.chg hc5 hf1)
  have hf2 : ¬ S2 fb := fun h => (hup fb h).elim hf1 fun h2 => by have := HF4.out.lt (by decide); omega
  have HD5 := Lib.hid hd5
  clear hd5 hup hc5 HC HF4 HD4 hf1
  -- Copy
  have HC := Lib.hid (copyDev_any HD5.out (by decide))
  go_wp2_with fail
  refine HC.out.mono ?_
  rintro e w6 ⟨gc, Sc, rfl, hdc, hl6, hsc⟩
  have hdis : ∀ k, Sc k → ¬ S2 k := fun k h1 h2 => by have := hsc k h1; have := (HD5.out.low k h2).2; omega
  have hfc : ¬ Sc fb := fun h => by have := hsc fb h; have := HF5.out.lt (by decide); omega
  have hl7 : Later w6 (w6.alloc (.cells #[.int .i64 3] 3)) := (Later.refl w6).alloc _
  have HDC := Lib.hid (hdc.later hl7); have HD7 := Lib.hid ((HD5.out.later hl6).later hl7); have HF7 := Lib.hid ((HF5.out.later hl6).later hl7)
  have HDIS := Lib.hid hdis
  have hin : IntsAt (w6.alloc (.cells #[.int .i64 3] 3)) (some ⟨w6.heap.size, 0, none⟩) 1 [3] := ⟨rfl, fun _ => ⟨_, _, rfl, fun j x hx => by
    match j, hx with
    | 0, hx =>
      simp at hx; subst hx
      exact (CellsAt.made w6 #[.int .i64 3] 3).cell (i := 0) rfl
    | j + 1, hx => simp at hx⟩⟩
  -- Crash
  have HC2 := Lib.hid (crashDev_any HD7.out (by decide) 1 hin (by decide) (by intro x hx; simp at hx; subst hx; decide) (fun _ a ha => by
    cases ha
    intro h
    have h1 := (HD5.out.low _ h).2
    have := hl6.le
    dsimp only at h1
    omega))
  clear hdc hl6 hsc hdis HC HD5 HF5 hl7 hin
  go_wp2_with fail
  generalize w6.alloc (.cells #[.int .i64 3] 3) = w7 at *
  refine HC2.out.mono ?_
  rintro e w8 ⟨rfl, hd8, hc8⟩
  have hd8' : DevAt w w8 S2 g aD2 := hd8
  have HD8 := Lib.hid hd8'
  have HF8 := Lib.hid (HF7.out.chg hc8 hf2)
  have HDC8 := Lib.hid (HDC.out.chg hc8 HDIS.out (hc8.low HDC.out.base fun q hq => (HD7.out.low q hq).1))
  clear hd8 hd8' hc8 HC2 HD7 HF7 HDC
  -- Read
  have HC := Lib.hid (readDev_any HD8.out 1)
  rw [ar2, ar2b] at HC
  go_wp2_with fail
  refine HC.out.mono ?_
  rintro e w9 ⟨v, rfl, hv, hl9⟩
  obtain ⟨xb, xc, rfl, _, hxb, hx9⟩ := own_bs_at hv (by decide)
  have hx2 : ∀ q, S2 q → q < xb := fun q hq => Nat.lt_of_lt_of_le (HD8.out.low q hq).2 hxb
  have HX9 := Lib.hid hx9; have HX2 := Lib.hid hx2
  have HD9 := Lib.hid (HD8.out.later hl9); have HF9 := Lib.hid (HF8.out.later hl9); have HDC9 := Lib.hid (HDC8.out.later hl9)
  clear hv hl9 hxb hx9 hx2 HC HD8 HF8 HDC8
  -- Arm
  have HC := Lib.hid (armDev_any HD9.out 0 (by decide) (by decide))
  have hgm : S2 g := HD9.out.mem
  have HGM := Lib.hid hgm
  clear hgm
  go_wp2_with fail
  refine HC.out.mono ?_
  rintro e w10 ⟨rfl, hd10, hc10⟩
  have hd10' : DevAt w w10 S2 g aD3 := hd10
  have HD10 := Lib.hid hd10'
  have HF10 := Lib.hid (HF9.out.chg hc10 (fun e => hf2 (by rw [e]; exact HGM.out)))
  have HX10 := Lib.hid (HX9.out.chg hc10 (fun e => by have := HX2.out g HGM.out; omega))
  have HDC10 := Lib.hid (HDC9.out.chg hc10 (fun k hk e => HDIS.out k hk (by rw [e]; exact HGM.out)) (hc10.low HDC9.out.base fun q hq => by rw [hq]; exact (HD9.out.low g HGM.out).1))
  clear hd10 hd10' hc10 HC HD9 HF9 HX9 HDC9
  -- Flush
  have HC := Lib.hid (flushDev_any HD10.out (by decide))
  rw [af3] at HC
  go_wp2_with fail
  refine HC.out.mono ?_
  rintro e w11 ⟨rfl, hd11, hc11⟩
  have hd11' : DevAt w w11 S2 g aD4 := hd11
  have HD11 := Lib.hid hd11'
  have HF11 := Lib.hid (HF10.out.chg hc11 (fun e => hf2 (by rw [e]; exact HGM.out)))
  have HX11 := Lib.hid (HX10.out.chg hc11 (fun e => by have := HX2.out g HGM.out; omega))
  have HDC11 := Lib.hid (HDC10.out.chg hc11 (fun k hk e => HDIS.out k hk (by rw [e]; exact HGM.out)) (hc11.low HDC10.out.base fun q hq => by rw [hq]; exact (HD10.out.low g HGM.out).1))
  clear hd11 hd11' hc11 HC HD10 HF10 HX10 HDC10
  -- c.Read
  have HC := Lib.hid (readDev_any HDC11.out 1)
  rw [ar1, ar1b] at HC
  go_wp2_with fail
  refine HC.out.mono ?_
  rintro e w12 ⟨v, rfl, hv, hl12⟩
  obtain ⟨yb, yc, rfl, _, hyb, hy12⟩ := own_bs_at hv (by decide)
  have HD12 := Lib.hid (HD11.out.later hl12); have HDC12 := Lib.hid (HDC11.out.later hl12)
  have x0 : w12.cell? ⟨xb, 0, none⟩ = some (.int .u8 0) := (HX11.out.later hl12).at_ ar2x
  have x63 : w12.cell? ⟨xb, 63, none⟩ = some (.int .u8 7) := by
    have := (HX11.out.later hl12).at_ ar2y
    rw [Nat.zero_add] at this
    exact this
  have HEQ := Lib.hid (bytesEqual_any (c := yc) (e := 64) hy12 (HF11.out.later hl12))
  rw [show decide (aF = aF) = true by simp] at HEQ
  have HDN := Lib.hid (downDev_any HD12.out)
  rw [ad4] at HDN
  have hlf : (aF.length : Int) = 64 := by decide
  clear hv hl12 hyb hy12 HC HX11 HF11 HD11 HDC11
  go_wp2_with fail
  refine HDN.out.mono ?_
  rintro e w99 ⟨rfl, e9⟩
  obtain rfl := e9.symm
  clear e9 HDN
  go_wp2_with fail
  refine HEQ.out.mono ?_
  rintro e w99 ⟨rfl, e9⟩
  obtain rfl := e9.symm
  clear e9 HEQ x0 x63
  have HC := Lib.hid (pendingDev_any HDC12.out)
  rw [ap1] at HC
  go_wp2_with fail
  refine HC.out.mono ?_
  rintro e w99 ⟨rfl, e9⟩
  obtain rfl := e9.symm
  clear e9 HC
  have HC := Lib.hid (flushDev_any HDC12.out (by decide))
  rw [af1] at HC
  go_wp2_with fail
  refine HC.out.mono ?_
  rintro e w13 ⟨rfl, hd13, hc13⟩
  have hd13' : DevAt w w13 Sc gc aC1 := hd13
  have HDC13 := Lib.hid hd13'
  have HD13 := Lib.hid (HD12.out.chg hc13 (fun k hk e => HDIS.out gc HDC12.out.mem (by rw [← e]; exact hk)) hd13'.base)
  clear hd13 hd13' hc13 HC HD12 HDC12
  have HC := Lib.hid (opsDev_any HDC13.out)
  rw [ao1] at HC
  go_wp2_with fail
  refine HC.out.mono ?_
  rintro e w99 ⟨rfl, e9⟩
  obtain rfl := e9.symm
  clear e9 HC
  have HC := Lib.hid (countDev_any HD13.out)
  rw [ab4] at HC
  go_wp2_with fail
  refine HC.out.mono ?_
  rintro e w99 ⟨rfl, e9⟩
  obtain rfl := e9.symm
  clear e9 HC
  have HC := Lib.hid (imageDev_any HD13.out)
  go_wp2_with fail
  refine HC.out.mono ?_
  rintro e w14 ⟨v, rfl, hv, hl14⟩
  rw [ai4] at hv
  obtain ⟨ib, ic, rfl, _, _, _⟩ := own_bs_at hv (by decide)
  have hlb := (HD13.out.base.trans hl14).alloc (.cells #[.int .u8 1] 5)
  have HC2 := Lib.hid (ofDev_any (W := w) (bs := [1]) (w := w14.alloc (.cells #[.int .u8 1] 5)) (some ⟨w14.heap.size, 0, none⟩) 1 1 ⟨rfl, fun _ => ⟨_, _, rfl, fun j x hx => by
    match j, hx with
    | 0, hx =>
      simp at hx; subst hx
      exact (CellsAt.made w14 #[.int .u8 1] 5).cell (i := 0) rfl
    | j + 1, hx => simp at hx⟩⟩ (fun e => by cases e) (by decide) (by decide) hlb)
  clear hv hl14 HC HD13 HDC13
  go_wp2_with fail
  generalize w14.alloc (.cells #[.int .u8 1] 5) = w15 at *
  refine HC2.out.mono ?_
  rintro e w16 ⟨g9, S9, rfl, hd16, hl16, _⟩
  have HC := Lib.hid (countDev_any hd16)
  rw [aof] at HC
  have HLB := Lib.hid (hlb.trans hl16)
  clear hd16 hl16 HC2 hlb
  go_wp2_with fail
  refine HC.out.mono ?_
  rintro e w99 ⟨rfl, e9⟩
  obtain rfl := e9.symm
  clear e9 HC
  go_wp2
  exact HRR.out _ _ ⟨rfl, HLB.out⟩

end Go.Proofs.Ytknjkkdoeanhbaa
