import Derived.Test.YtaonfedjilfgjaaPk6
import Derived.Test.YtaonfedjilfgjaaPk7
import Derived.Test.YtaonfedjilfgjaaPk8
import Derived.Test.YtaonfedjilfgjaaPk9
import Derived.Test.YtaonfedjilfgjaaPk5

/-
  The statements' own example (alive) of layer 10, as a call.
-/
namespace Go.Proofs.Ytaonfedjilfgjaa
open Go.RowKit

section
variable {S S' : Nat → Prop} {w w' : World} {b o n c : Nat} {bs : Bs}
theorem BsAt.chg (h : BsAt w (some ⟨b, o, .none⟩) n bs) (hc : Chg S w w') (hn : ¬ S b) : BsAt w' (some ⟨b, o, .none⟩) n bs := ⟨h.1, fun h0 => by
  obtain ⟨b', o', e, hcl⟩ := h.2 h0
  cases e
  exact ⟨b, o, rfl, fun j x hx => hc.cell (hcl j x hx) hn⟩⟩
theorem BsAt.lt (h : BsAt w (some ⟨b, o, .none⟩) n bs) (h0 : 0 < n) : b < w.heap.size := by
  obtain ⟨b', o', e, hcl⟩ := h.2 h0
  cases e
  have := h.1
  exact lt_of_cell (hcl 0 _ (List.getElem?_eq_getElem (show 0 < bs.length by omega)))
theorem BsAt.at_ (h : BsAt w (some ⟨b, o, .none⟩) n bs) {j : Nat} {x : UInt8} (hx : bs[j]? = some x) : w.cell? ⟨b, o + j, .none⟩ = some (.int .u8 (x.toNat : Int)) := by
  have hj := (List.getElem?_eq_some_iff.1 hx).1
  obtain ⟨b', o', e, hcl⟩ := h.2 (by have := h.1; omega)
  cases e
  exact hcl j x hx
/-- Bytes of the call's own, as a slice: where they lie. -/
theorem own_bs_at {B : Nat} {v : Value} (h : w.ownsRow B 5 1 v n (Lib.byteCells bs)) (h0 : 0 < n) : ∃ b c, v = .slice (some ⟨b, 0, .none⟩) n c ∧ n ≤ c ∧ B ≤ b ∧ BsAt w (some ⟨b, 0, .none⟩) n bs := by
  obtain ⟨A, c, rfl, hc, _, hb⟩ := own_bs h
  rcases h.2 with ⟨_, h1⟩ | ⟨g, cap, cur, hv, hg, _⟩
  · omega
  · cases hv
    exact ⟨g, c, rfl, hc, hg, hb⟩
end
def aF : Bs := List.replicate 64 7
def aD0 : DvP := newP 2
def aD1 : DvP := (writeP aD0 1 aF).1
def aD2 : DvP := crashP aD1 [3]
def aD3 : DvP := armP aD2 0
def aD4 : DvP := (flushP aD3).1
def aC1 : DvP := (flushP aD1).1
theorem aw1 : (writeP aD0 1 aF).2 = 0 := by decide +kernel
theorem aw2 : (writeP aD1 2 []).2 = 101 := by decide +kernel
theorem aw2d : (writeP aD1 2 []).1 = aD1 := by
  unfold writeP
  rw [if_neg (by decide +kernel), if_pos (by decide +kernel)]
theorem ar2 : readE aD2 1 = 0 := by decide +kernel
theorem ar2b : (readB aD2 1).length = 64 := by decide +kernel
theorem ar2x : (readB aD2 1)[0]? = some 0 := by decide +kernel
theorem ar2y : (readB aD2 1)[63]? = some 7 := by decide +kernel
theorem af3 : (flushP aD3).2 = 100 := by decide +kernel
theorem ad4 : aD4.down = true := by decide +kernel
theorem ar1 : readE aD1 1 = 0 := by decide +kernel
theorem ar1b : readB aD1 1 = aF := by decide +kernel
theorem af1 : (flushP aD1).2 = 0 := by decide +kernel
theorem ao1 : aC1.ops = 2 := by decide +kernel
theorem ap1 : aD1.row.length = 1 := by decide +kernel
theorem ab4 : aD4.bl.length = 2 := by decide +kernel
theorem ai4 : (imageP aD4).length = 128 := by decide +kernel
theorem aof : (ofP [1]).bl.length = 1 := by decide +kernel

set_option maxRecDepth 100000 in
set_option maxHeartbeats 3200000 in
theorem alive10_any (w : World) : Calls Try.prog 12 #[] w fun e w' => e = .returned (.bool true) ∧ Later w w' := by
  have HC := Lib.hid (newDev_any (w := w) (W := w) 2 (by decide) (by decide) (Later.refl w))
  generalize hRR : (fun (e : Ending) (w' : World) => e = .returned (.bool true) ∧ Later w w') = RR
  have HRR : Hid (∀ e w', (e = .returned (.bool true) ∧ Later w w') → RR e w') := fun e w' h => by rw [← hRR]; exact h
  clear hRR
  go_enter Try.func12, Try.ntmps12
  go_wp2_with fail
  refine HC.out.mono ?_
  rintro e w1 ⟨g, S, rfl, hd, hl, hs⟩
  have hcn : countN 2 = 2 := by decide
  rw [hcn] at hd
  have hd0 : DevAt w w1 S g aD0 := hd
  clear hd hcn HC hs
  -- full
  have hla : Later w1 (w1.alloc (.cells #[.int .u8 7] 5)) := (Later.refl w1).alloc _
  have HC := Lib.hid (repeat_any (w1.alloc (.cells #[.int .u8 7] 5)) w1.heap.size 1 7 (by have := (CellsAt.made w1 #[.int .u8 7] 5).cell (i := 0) rfl; exact this))
  have HD1 := Lib.hid (hd0.later hla)
  have HLO : Hid (∀ k, S k → k < w1.heap.size) := fun k hk => (hd0.low k hk).2
  have hs1 : w1.heap.size < (w1.alloc (.cells #[.int .u8 7] 5)).heap.size := by rw [World.size_alloc]; omega
  clear hd0 hl
  go_wp2_with fail
  generalize w1.alloc (.cells #[.int .u8 7] 5) = w2 at *
  refine HC.out.mono ?_
  rintro e w3 ⟨rfl, hbf, hl3⟩
  have hfS : ¬ S w2.heap.size := fun h => by have := HLO.out _ h; omega
  generalize w2.heap.size = fb at hbf hfS ⊢
  have HF3 : Hid (BsAt w3 (some ⟨fb, 0, none⟩) 64 aF) := hbf
  have HD3 := Lib.hid (HD1.out.later hl3)
  clear hbf HC HD1 hl3 hla hs1 HLO
  -- Write 1
  have HC := Lib.hid (writeDev_any HD3.out (by decide) (by decide) 1 (some ⟨fb, 0, none⟩) 64 64 aF HF3.out)
  rw [aw1] at HC
  go_wp2_with fail
  refine HC.out.mono ?_
  rintro e w4 ⟨S1, rfl, hd4, hup, hc4⟩
  have hd4' : DevAt w w4 S1 g aD1 := hd4
  have HF4 := Lib.hid (HF3.out.chg hc4 hfS)
  have hf1 : ¬ S1 fb := fun h => (hup fb h).elim hfS fun h2 => by have := HF3.out.lt (by decide); omega
  have HD4 := Lib.hid hd4'
  clear hd4 hd4' hup hc4 HC HF3 HD3 hfS
  -- Write 2
  have HC := Lib.hid (writeDev_any HD4.out (by decide) (by decide) 2 none 0 0 [] (BsAt.none _ _))
  rw [aw2, aw2d] at HC
  go_wp2_with fail
  refine HC.out.mono ?_
  rintro e w5 ⟨S2, rfl, hd5, hup, hc5⟩
  have HF5 := Lib.hid (HF4.out.chg hc5 hf1)
  have hf2 : ¬ S2 fb := fun h => (hup fb h).elim hf1 fun h2 => by have := HF4.out.lt (by decide); omega
  have HD5 := Lib.hid hd5
  clear hd5 hup hc5 HC HF4 HD4 hf1
  -- Copy
  have HC := Lib.hid (copyDev_any HD5.out (by decide))
  go_wp2_with fail
  refine HC.out.mono ?_
  rintro e w6 ⟨gc, Sc, rfl, hdc, hl6, hsc⟩
  have hdis : ∀ k, Sc k → ¬ S2 k := fun k h1 h2 => by have := hsc k h1; have := (HD5.out.low k h2).2; omega
  have hfc : ¬ Sc fb := fun h => by have := hsc fb h; have := HF5.out.lt (by decide); omega
  have hl7 : Later w6 (w6.alloc (.cells #[.int .i64 3] 3)) := (Later.refl w6).alloc _
  have HDC := Lib.hid (hdc.later hl7); have HD7 := Lib.hid ((HD5.out.later hl6).later hl7); have HF7 := Lib.hid ((HF5.out.later hl6).later hl7)
  have HDIS := Lib.hid hdis
  have hin : IntsAt (w6.alloc (.cells #[.int .i64 3] 3)) (some ⟨w6.heap.size, 0, none⟩) 1 [3] := ⟨rfl, fun _ => ⟨_, _, rfl, fun j x hx => by
    match j, hx with
    | 0, hx =>
      simp at hx; subst hx
      exact (CellsAt.made w6 #[.int .i64 3] 3).cell (i := 0) rfl
    | j + 1, hx => simp at hx⟩⟩
  -- Crash
  have HC2 := Lib.hid (crashDev_any HD7.out (by decide) 1 hin (by decide) (by intro x hx; simp at hx; subst hx; decide) (fun _ a ha => by
    cases ha
    intro h
    have h1 := (HD5.out.low _ h).2
    have := hl6.le
    dsimp only at h1
    omega))
  clear hdc hl6 hsc hdis HC HD5 HF5 hl7 hin
  go_wp2_with fail
  generalize w6.alloc (.cells #[.int .i64 3] 3) = w7 at *
  refine HC2.out.mono ?_
  rintro e w8 ⟨rfl, hd8, hc8⟩
  have hd8' : DevAt w w8 S2 g aD2 := hd8
  have HD8 := Lib.hid hd8'
  have HF8 := Lib.hid (HF7.out.chg hc8 hf2)
  have HDC8 := Lib.hid (HDC.out.chg hc8 HDIS.out (hc8.low HDC.out.base fun q hq => (HD7.out.low q hq).1))
  clear hd8 hd8' hc8 HC2 HD7 HF7 HDC
  -- Read
  have HC := Lib.hid (readDev_any HD8.out 1)
  rw [ar2, ar2b] at HC
  go_wp2_with fail
  refine HC.out.mono ?_
  rintro e w9 ⟨v, rfl, hv, hl9⟩
  obtain ⟨xb, xc, rfl, _, hxb, hx9⟩ := own_bs_at hv (by decide)
  have hx2 : ∀ q, S2 q → q < xb := fun q hq => Nat.lt_of_lt_of_le (HD8.out.low q hq).2 hxb
  have HX9 := Lib.hid hx9; have HX2 := Lib.hid hx2
  have HD9 := Lib.hid (HD8.out.later hl9); have HF9 := Lib.hid (HF8.out.later hl9); have HDC9 := Lib.hid (HDC8.out.later hl9)
  clear hv hl9 hxb hx9 hx2 HC HD8 HF8 HDC8
  -- Arm
  have HC := Lib.hid (armDev_any HD9.out 0 (by decide) (by decide))
  have hgm : S2 g := HD9.out.mem
  have HGM := Lib.hid hgm
  clear hgm
  go_wp2_with fail
  refine HC.out.mono ?_
  rintro e w10 ⟨rfl, hd10, hc10⟩
  have hd10' : DevAt w w10 S2 g aD3 := hd10
  have HD10 := Lib.hid hd10'
  have HF10 := Lib.hid (HF9.out.chg hc10 (fun e => hf2 (by rw [e]; exact HGM.out)))
  have HX10 := Lib.hid (HX9.out.chg hc10 (fun e => by have := HX2.out g HGM.out; omega))
  have HDC10 := Lib.hid (HDC9.out.chg hc10 (fun k hk e => HDIS.out k hk (by rw [e]; exact HGM.out)) (hc10.low HDC9.out.base fun q hq => by rw [hq]; exact (HD9.out.low g HGM.out).1))
  clear hd10 hd10' hc10 HC HD9 HF9 HX9 HDC9
  -- Flush
  have HC := Lib.hid (flushDev_any HD10.out (by decide))
  rw [af3] at HC
  go_wp2_with fail
  refine HC.out.mono ?_
  rintro e w11 ⟨rfl, hd11, hc11⟩
  have hd11' : DevAt w w11 S2 g aD4 := hd11
  have HD11 := Lib.hid hd11'
  have HF11 := Lib.hid (HF10.out.chg hc11 (fun e => hf2 (by rw [e]; exact HGM.out)))
  have HX11 := Lib.hid (HX10.out.chg hc11 (fun e => by have := HX2.out g HGM.out; omega))
  have HDC11 := Lib.hid (HDC10.out.chg hc11 (fun k hk e => HDIS.out k hk (by rw [e]; exact HGM.out)) (hc11.low HDC10.out.base fun q hq => by rw [hq]; exact (HD10.out.low g HGM.out).1))
  clear hd11 hd11' hc11 HC HD10 HF10 HX10 HDC10
  -- c.Read
  have HC := Lib.hid (readDev_any HDC11.out 1)
  rw [ar1, ar1b] at HC
  go_wp2_with fail
  refine HC.out.mono ?_
  rintro e w12 ⟨v, rfl, hv, hl12⟩
  obtain ⟨yb, yc, rfl, _, hyb, hy12⟩ := own_bs_at hv (by decide)
  have HD12 := Lib.hid (HD11.out.later hl12); have HDC12 := Lib.hid (HDC11.out.later hl12)
  have x0 : w12.cell? ⟨xb, 0, none⟩ = some (.int .u8 0) := (HX11.out.later hl12).at_ ar2x
  have x63 : w12.cell? ⟨xb, 63, none⟩ = some (.int .u8 7) := by
    have := (HX11.out.later hl12).at_ ar2y
    rw [Nat.zero_add] at this
    exact this
  have HEQ := Lib.hid (bytesEqual_any (c := yc) (e := 64) hy12 (HF11.out.later hl12))
  rw [show decide (aF = aF) = true by simp] at HEQ
  have HDN := Lib.hid (downDev_any HD12.out)
  rw [ad4] at HDN
  have hlf : (aF.length : Int) = 64 := by decide
  clear hv hl12 hyb hy12 HC HX11 HF11 HD11 HDC11
  go_wp2_with fail
  refine HDN.out.mono ?_
  rintro e w99 ⟨rfl, e9⟩
  obtain rfl := e9.symm
  clear e9 HDN
  go_wp2_with fail
  refine HEQ.out.mono ?_
  rintro e w99 ⟨rfl, e9⟩
  obtain rfl := e9.symm
  clear e9 HEQ x0 x63
  have HC := Lib.hid (pendingDev_any HDC12.out)
  rw [ap1] at HC
  go_wp2_with fail
  refine HC.out.mono ?_
  rintro e w99 ⟨rfl, e9⟩
  obtain rfl := e9.symm
  clear e9 HC
  have HC := Lib.hid (flushDev_any HDC12.out (by decide))
  rw [af1] at HC
  go_wp2_with fail
  refine HC.out.mono ?_
  rintro e w13 ⟨rfl, hd13, hc13⟩
  have hd13' : DevAt w w13 Sc gc aC1 := hd13
  have HDC13 := Lib.hid hd13'
  have HD13 := Lib.hid (HD12.out.chg hc13 (fun k hk e => HDIS.out gc HDC12.out.mem (by rw [← e]; exact hk)) hd13'.base)
  clear hd13 hd13' hc13 HC HD12 HDC12
  have HC := Lib.hid (opsDev_any HDC13.out)
  rw [ao1] at HC
  go_wp2_with fail
  refine HC.out.mono ?_
  rintro e w99 ⟨rfl, e9⟩
  obtain rfl := e9.symm
  clear e9 HC
  have HC := Lib.hid (countDev_any HD13.out)
  rw [ab4] at HC
  go_wp2_with fail
  refine HC.out.mono ?_
  rintro e w99 ⟨rfl, e9⟩
  obtain rfl := e9.symm
  clear e9 HC
  have HC := Lib.hid (imageDev_any HD13.out)
  go_wp2_with fail
  refine HC.out.mono ?_
  rintro e w14 ⟨v, rfl, hv, hl14⟩
  rw [ai4] at hv
  obtain ⟨ib, ic, rfl, _, _, _⟩ := own_bs_at hv (by decide)
  have hlb := (HD13.out.base.trans hl14).alloc (.cells #[.int .u8 1] 5)
  have HC2 := Lib.hid (ofDev_any (W := w) (bs := [1]) (w := w14.alloc (.cells #[.int .u8 1] 5)) (some ⟨w14.heap.size, 0, none⟩) 1 1 ⟨rfl, fun _ => ⟨_, _, rfl, fun j x hx => by
    match j, hx with
    | 0, hx =>
      simp at hx; subst hx
      exact (CellsAt.made w14 #[.int .u8 1] 5).cell (i := 0) rfl
    | j + 1, hx => simp at hx⟩⟩ (fun e => by cases e) (by decide) (by decide) hlb)
  clear hv hl14 HC HD13 HDC13
  go_wp2_with fail
  generalize w14.alloc (.cells #[.int .u8 1] 5) = w15 at *
  refine HC2.out.mono ?_
  rintro e w16 ⟨g9, S9, rfl, hd16, hl16, _⟩
  have HC := Lib.hid (countDev_any hd16)
  rw [aof] at HC
  have HLB := Lib.hid (hlb.trans hl16)
  clear hd16 hl16 HC2 hlb
  go_wp2_with fail
  refine HC.out.mono ?_
  rintro e w99 ⟨rfl, e9⟩
  obtain rfl := e9.symm
  clear e9 HC
  go_wp2
  exact HRR.out _ _ ⟨rfl, HLB.out⟩

end Go.Proofs.Ytaonfedjilfgjaa

/-
  The reference's Image, as a call.
-/
namespace Go.Proofs.Ytaonfedjilfgjaa
open Go.RowKit

def imageR (k : Nat) (s : StP) : Bs := ((List.range k).map (atR s)).flatten
theorem imageR_succ (k : Nat) (s : StP) : imageR (k + 1) s = imageR k s ++ atR s k := by
  unfold imageR
  rw [List.range_succ, List.map_append, List.flatten_append]
  simp
theorem imageR_length {k : Nat} {s : StP} (h : ∀ i, i < k → (atR s i).length = 64) : (imageR k s).length = k * 64 := by
  unfold imageR
  rw [flat64 (fun b hb => by
    obtain ⟨i, hi, rfl⟩ := List.mem_map.1 hb
    exact h i (List.mem_range.1 hi)), List.length_map, List.length_range]
theorem own_ne {w : World} {B n g : Nat} {v : Value} {xs : List Value} {cur : Array Value} {T : TypeId} (h : w.ownsRow B 5 1 v n xs) (hc : CellsAt w g cur T) (hT : T ≠ 5) : v.ownBlock ≠ some g := fun e => by
  rcases h.2 with ⟨hv, _⟩ | ⟨b, cap, cur', hv, _, hh, _⟩
  · rw [hv] at e
    cases e
  · rw [hv] at e
    have e1 : b = g := by injection e
    subst e1
    have h2 : w.heap[b]? = some (.cells cur T (0, 0)) := hc
    rw [hh] at h2
    injection h2 with h2
    injection h2 with _ h2
    exact hT h2.symm
theorem own_later {w w' : World} {B n : Nat} {v : Value} {xs : List Value} (h : w.ownsRow B 5 1 v n xs) (hl : Later w w') : w'.ownsRow B 5 1 v n xs := by
  refine h.kept (row := none) ⟨hl.os, hl.tape, hl.output, hl.size, fun i hi _ => hl.block i hi⟩ ?_
  by_cases hq : v.ownBlock = none
  · exact .inl hq
  · exact .inr hq
/-- What the loops of Image keep. -/
structure ImLp (W w : World) (cs : Array Value) (v : Value) (bs : Bs) : Prop where
  own : w.ownsRow W.heap.size 5 1 v bs.length (Lib.byteCells bs)
  box : CellsAt w W.heap.size cs 30
  base : Later W w
section
variable {W w w' : World} {cs : Array Value} {v : Value} {bs : Bs}
theorem ImLp.later (h : ImLp W w cs v bs) (hl : Later w w') : ImLp W w' cs v bs := ⟨own_later h.own hl, h.box.later hl, h.base.trans hl⟩
end
section
variable {w w' : World} {A B : Option Addr} {n m : Nat} {s : StP}
set_option maxRecDepth 100000 in
set_option maxHeartbeats 1600000 in
theorem imageRef_any (h : StAt w A n B m s) (hm : m ≤ 1000000) (hn : n ≤ 100000) (c e : Nat) :
    Calls Try.prog 50 #[.agg #[.slice A n c, .slice B m e, .int .i64 (s.ops : Nat), .int .i64 s.fuse, .bool s.down]] w fun e w' => ∃ v, e = .returned v ∧ w'.ownsRow w.heap.size 5 1 v (imageR n s).length (Lib.byteCells (imageR n s)) ∧ Later w w' := by
  have HH := Lib.hid h
  clear h
  go_enter Try.func50, Try.ntmps50
  go_wp2
  have hla : Later w (w.alloc (.cells #[.slice A n c, .slice B m e, .int .i64 (s.ops : Nat), .int .i64 s.fuse, .bool s.down] 30)) := (Later.refl w).alloc _
  have HST : Hid (ImLp w (w.alloc (.cells #[.slice A n c, .slice B m e, .int .i64 (s.ops : Nat), .int .i64 s.fuse, .bool s.down] 30)) #[.slice A n c, .slice B m e, .int .i64 (s.ops : Nat), .int .i64 s.fuse, .bool s.down] (.slice none 0 0) (imageR 0 s)) := ⟨⟨rfl, .inl ⟨rfl, rfl⟩⟩, CellsAt.made _ _ _, hla⟩
  clear hla
  go_loopg [3, 4] (n + 1) (fun g0 s3 s4 wr => ∃ (k : Nat), k ≤ n ∧ n - k ≤ g0 ∧ s4 = .int .i64 (k : Nat) ∧ Hid (ImLp w wr #[.slice A n c, .slice B m e, .int .i64 (s.ops : Nat), .int .i64 s.fuse, .bool s.down] s3 (imageR k s)))
  case atStart => exact ⟨0, Nat.zero_le _, by omega, rfl, HST⟩
  case round =>
    clear HST
    obtain ⟨k, hk, hg, rfl, hlp⟩ := hrel
    have q0 : wr.cell? ⟨w.heap.size, 0, none⟩ = some (.slice A n c) := hlp.out.box.cell rfl
    have q1 : wr.cell? ⟨w.heap.size, 1, none⟩ = some (.slice B m e) := hlp.out.box.cell rfl
    have q2 : wr.cell? ⟨w.heap.size, 2, none⟩ = some (.int .i64 (s.ops : Nat)) := hlp.out.box.cell rfl
    have q3 : wr.cell? ⟨w.heap.size, 3, none⟩ = some (.int .i64 s.fuse) := hlp.out.box.cell rfl
    have q4 : wr.cell? ⟨w.heap.size, 4, none⟩ = some (.bool s.down) := hlp.out.box.cell rfl
    by_cases hlt : k < n
    · have HC := Lib.hid (at_any (HH.out.later hlp.out.base) hm k hlt (by omega) c e)
      have HL64 := Lib.hid (HH.out.atR_length hlt)
      have HIL : Hid ((imageR k s).length ≤ 64 * 100000) := by
        show _ ≤ _
        rw [imageR_length fun i hi => HH.out.atR_length (Nat.lt_trans hi hlt)]
        omega
      go_wp2_with fail
      refine HC.out.mono ?_
      rintro e2 w2 ⟨rfl, hl2⟩
      have HLP2 := Lib.hid (hlp.out.later hl2)
      clear hl2 hlp HC q0 q1 q2 q3 q4
      go_wp2_with (with_reducible show wpList _ _ _ ({ dst := some 5, op := Op.alloc _, type := _, pos := _, after := _, guard := _ } :: _) _ _; refine Hid.out ?_)
      refine Lib.hid (wpList_alloc_new rfl _ rfl _ Try.rblockZero ?_)
      intro w3 hc3 hl3 _
      have HLP3 := Lib.hid (HLP2.out.later hl3)
      have hg5 : w.heap.size ≤ w2.heap.size := HLP2.out.base.le
      refine wpList_store_mids rfl rfl _ _ _ rfl w2.heap.size 0 (Lib.byteCells (atR s k)) rfl rfl (hc3.there (by simp only [Value.cells, List.size_toArray]; rw [bc_len, bc_len, HL64.out]; decide)) (by rw [bc_len, HL64.out]; exact Try.rblockSize) (bc_one _) ?_
      intro w4 hw4
      have hc4 : CellsAt w4 w2.heap.size (Lib.byteCells (atR s k)).toArray 47 := by
        have := hc3.sets (Lib.byteCells (atR s k)) (o := 0)
        rw [set_all (by simp only [Value.cells, List.size_toArray]; rw [bc_len, bc_len, HL64.out]; rfl)] at this
        rw [hw4]
        exact this
      have hch4 : Chg (fun q => q = w2.heap.size) w3 w4 := by rw [hw4]; exact sets_chg _ _ _
      have hl4 : Later w w4 := hch4.low HLP3.out.base (fun q hq => by rw [hq]; exact hg5)
      have HI : Hid (ImLp w w4 #[.slice A n c, .slice B m e, .int .i64 (s.ops : Nat), .int .i64 s.fuse, .bool s.down] u3 (imageR k s ++ (atR s k).take 0)) := by
        have hlt3 := HLP2.out.own.lt
        refine ⟨?_, HLP3.out.box.chg hch4 (fun q => by have := HLP2.out.box.lt; omega), hl4⟩
        rw [List.take_zero, List.append_nil]
        refine HLP3.out.own.kept (row := some w2.heap.size) ⟨hch4.os, hch4.tape, hch4.output, hch4.size, fun i hi hn => hch4.block i hi fun e => hn (by rw [e])⟩ ?_
        by_cases hq : u3.ownBlock = none
        · exact .inl hq
        · exact .inr fun e => by have := (hlt3 _ e).2; omega
      obtain ⟨g5, hgg⟩ : ∃ g, g = w2.heap.size := ⟨_, rfl⟩
      rw [← hgg] at hc4 ⊢
      have HC4 := Lib.hid hc4
      clear hc4 hw4 hc3 hl3 HLP2 HLP3 hg5 hch4 hl4 hgg
      refine Lib.hid ?_
      go_wp2
      go_loopg [3, 6] 65 (fun g0 t3 s6 wr => ∃ (j : Nat), j ≤ 64 ∧ 64 - j ≤ g0 ∧ s6 = .int .i64 (j : Nat) ∧ Hid (ImLp w wr #[.slice A n c, .slice B m e, .int .i64 (s.ops : Nat), .int .i64 s.fuse, .bool s.down] t3 (imageR k s ++ (atR s k).take j)) ∧ Hid (CellsAt wr g5 (Lib.byteCells (atR s k)).toArray 47))
      case atStart => exact ⟨0, by omega, by omega, rfl, HI, HC4⟩
      case round =>
        clear HI HC4
        obtain ⟨j, hj, hgj, rfl, hip, h5⟩ := hrel
        by_cases hj64 : j < 64
        · obtain ⟨x, hx⟩ : ∃ x, (atR s k)[j]? = some x := ⟨_, List.getElem?_eq_getElem (by rw [HL64.out]; exact hj64)⟩
          have p0 : wr.cell? ⟨g5, j, none⟩ = some (.int .u8 (x.toNat : Int)) := h5.out.cell (by rw [List.getElem?_toArray]; unfold Lib.byteCells; rw [List.getElem?_map, hx]; rfl)
          have hla : Later wr (wr.alloc (.cells #[.int .u8 (x.toNat : Int)] 5)) := (Later.refl wr).alloc _
          have HIA := Lib.hid (hip.out.later hla); have HCA := Lib.hid (h5.out.later hla)
          have HBX : Hid (BsAt (wr.alloc (.cells #[.int .u8 (x.toNat : Int)] 5)) (some ⟨wr.heap.size, 0, none⟩) 1 [x]) := ⟨rfl, fun _ => ⟨_, _, rfl, fun i y hy => by
            match i, hy with
            | 0, hy =>
              simp at hy; subst hy
              exact (CellsAt.made wr #[.int .u8 (x.toNat : Int)] 5).cell (i := 0) rfl
            | i + 1, hy => simp at hy⟩⟩
          have HSZ : Hid ((imageR k s ++ (atR s k).take j).length ≤ 90000000) := by
            show _ ≤ _
            have hb := HIL.out
            rw [List.length_append, List.length_take]
            omega
          have htk : (atR s k).take (j + 1) = (atR s k).take j ++ [x] := by
            rw [List.take_add_one, hx]
            rfl
          have HTK := Lib.hid htk
          clear hla hip h5 hx htk
          go_wp2_with (at_builtin; refine wpList_append_bs rfl _ _ rfl HIA.out.own rfl rfl HBX.out (fun e => by cases e) (by decide) (by have := HSZ.out; omega) HIA.out.base.le ?_; intro v4 w5 hown4 hg4; have HO4 := Lib.hid hown4; have HG4 := Lib.hid hg4; clear hown4 hg4; refine Hid.out ?_)
          have hch : Chg (fun q => Value.ownBlock u3 = some q) (wr.alloc (.cells #[.int .u8 (x.toNat : Int)] 5)) w5 := Chg.grown HG4.out fun q hq => .inl hq
          have hbase : Later w w5 := hch.low HIA.out.base (fun q hq => (HIA.out.own.lt q hq).1)
          have HI2 : Hid (ImLp w w5 #[.slice A n c, .slice B m e, .int .i64 (s.ops : Nat), .int .i64 s.fuse, .bool s.down] v4 (imageR k s ++ (atR s k).take (j + 1))) := by
            refine ⟨?_, HIA.out.box.chg hch (own_ne HIA.out.own HIA.out.box (by decide)), hbase⟩
            have := HO4.out
            rw [← bc_app, List.append_assoc, ← HTK.out] at this
            rw [show (imageR k s ++ (atR s k).take (j + 1)).length = (imageR k s ++ (atR s k).take j).length + 1 by rw [HTK.out]; simp [Nat.add_assoc]]
            exact this
          have HC2 := Lib.hid (HCA.out.chg hch (own_ne HIA.out.own HCA.out (by decide)))
          clear hch hbase HO4 HG4 HIA HCA HBX HSZ HTK p0
          refine Lib.hid ?_
          go_wp2
          go_roundg (64 - (j + 1))
          case measure => omega
          case rel => exact ⟨j + 1, by omega, by omega, by go_num, HI2, HC2⟩
        · have hj' : j = 64 := by omega
          have HEND : Hid (ImLp w wr #[.slice A n c, .slice B m e, .int .i64 (s.ops : Nat), .int .i64 s.fuse, .bool s.down] u3 (imageR (k + 1) s)) := by
            have := hip.out
            rw [List.take_of_length_le (by rw [HL64.out]; omega), ← imageR_succ] at this
            exact this
          clear hip h5
          go_wp2
          go_roundg (n - (k + 1))
          case measure => omega
          case rel => exact ⟨k + 1, by omega, by omega, by go_num, HEND⟩
    · obtain rfl : k = n := by omega
      clear q0 q1 q2 q3 q4
      have q0 : wr.cell? ⟨w.heap.size, 0, none⟩ = some (.slice A k c) := hlp.out.box.cell rfl
      go_wp2
      go_ret
      exact ⟨_, rfl, hlp.out.own, hlp.out.base⟩
end

end Go.Proofs.Ytaonfedjilfgjaa

/-
  Operations of a region that draws its order: guarded ones; those over the states of the reference.
-/
namespace Go.Proofs.Ytaonfedjilfgjaa
open Go.RowKit

def OpG (ops : Array Oper) (i : Nat) (op : Op) (dst : Option Tmp) (js : List Nat) (g : Nat) (d : Tmp) : Prop := ∃ o, ops[i]? = some o ∧ o.op = op ∧ o.dst = dst ∧ o.guard = some (g, true) ∧ needs o js = true ∧ (ops[g]?).bind (·.dst) = some d
def unguard (ops : Array Oper) (i : Nat) : Array Oper := ops.modify i fun o => { o with guard := none }
theorem OpG.waits {ops : Array Oper} {i g : Nat} {d : Tmp} {op : Op} {dst : Option Tmp} {js : List Nat} (h : OpG ops i op dst js g d) {o : Oper} (ho : ops[i]? = some o) {l : Nat → Bool} (hl : ∀ e ∈ o.after, Region.binds .any e = true → l e.on = true) : ∀ j ∈ js, l j = true := by
  obtain ⟨o', h1, -, -, -, h5, -⟩ := h
  rw [ho] at h1
  cases h1
  intro j hj
  have := List.all_eq_true.1 h5 j hj
  simp only [Array.any_eq_true, Bool.and_eq_true, decide_eq_true_eq] at this
  obtain ⟨k, hk, e1, e2⟩ := this
  rw [← e1]
  exact hl _ (Array.getElem_mem hk) e2
theorem OpG.un {ops : Array Oper} {i g : Nat} {d : Tmp} {op : Op} {dst : Option Tmp} {js : List Nat} (h : OpG ops i op dst js g d) : OpIs (unguard ops i) i op dst [] := by
  obtain ⟨o, h1, h2, h3, -, -, -⟩ := h
  exact ⟨{ o with guard := none }, by simp [unguard, Array.getElem?_modify, h1], h2, h3, rfl, rfl⟩
theorem OpG.via {P : Program} {ops : Array Oper} {Q : Exit → Act → World → Prop} {K : Act → World → Prop} {i g : Nat} {d : Tmp} {op : Op} {dst : Option Tmp} {js : List Nat} {a : Act} {w : World} (h : OpG ops i op dst js g d) (hv : a.eval (.tmp d) = .bool true) (hd : d < a.tmps.size)
    (hk : wpOp P (unguard ops i) Q i K a w) : wpOp P ops Q i K a w := by
  obtain ⟨o, h1, -, -, h4, -, h6⟩ := h
  unfold wpOp at hk ⊢
  rw [h1]
  have e1 : (unguard ops i)[i]? = some { o with guard := none } := by simp [unguard, Array.getElem?_modify, h1]
  rw [e1] at hk
  have e2 : Region.wanted o (yielded ops a.tmps) = true := by
    have ht : a.tmps[d]? = some (.bool true) := by
      rw [Array.getElem?_eq_getElem hd]
      have := hv
      simp only [Act.eval, Array.getD, hd, dif_pos] at this
      exact congrArg some this
    simp only [Region.wanted, h4, yielded]
    rw [h6]
    simp [ht]
  dsimp only at hk ⊢
  rw [if_pos e2]
  rw [if_pos (by rfl)] at hk
  exact hk
def OpN (ops : Array Oper) (i : Nat) (op : Op) (dst : Option Tmp) (js : List Nat) (g : Nat) (d : Tmp) : Prop := ∃ o, ops[i]? = some o ∧ o.op = op ∧ o.dst = dst ∧ o.guard = some (g, false) ∧ needs o js = true ∧ (ops[g]?).bind (·.dst) = some d
theorem OpN.waits {ops : Array Oper} {i g : Nat} {d : Tmp} {op : Op} {dst : Option Tmp} {js : List Nat} (h : OpN ops i op dst js g d) {o : Oper} (ho : ops[i]? = some o) {l : Nat → Bool} (hl : ∀ e ∈ o.after, Region.binds .any e = true → l e.on = true) : ∀ j ∈ js, l j = true := by
  obtain ⟨o', h1, -, -, -, h5, -⟩ := h
  rw [ho] at h1
  cases h1
  intro j hj
  have := List.all_eq_true.1 h5 j hj
  simp only [Array.any_eq_true, Bool.and_eq_true, decide_eq_true_eq] at this
  obtain ⟨k, hk, e1, e2⟩ := this
  rw [← e1]
  exact hl _ (Array.getElem_mem hk) e2
theorem OpN.un {ops : Array Oper} {i g : Nat} {d : Tmp} {op : Op} {dst : Option Tmp} {js : List Nat} (h : OpN ops i op dst js g d) : OpIs (unguard ops i) i op dst [] := by
  obtain ⟨o, h1, h2, h3, -, -, -⟩ := h
  exact ⟨{ o with guard := none }, by simp [unguard, Array.getElem?_modify, h1], h2, h3, rfl, rfl⟩
theorem OpN.via {P : Program} {ops : Array Oper} {Q : Exit → Act → World → Prop} {K : Act → World → Prop} {i g : Nat} {d : Tmp} {op : Op} {dst : Option Tmp} {js : List Nat} {a : Act} {w : World} (h : OpN ops i op dst js g d) (hv : a.eval (.tmp d) = .bool false) (hd : d < a.tmps.size)
    (hk : wpOp P (unguard ops i) Q i K a w) : wpOp P ops Q i K a w := by
  obtain ⟨o, h1, -, -, h4, -, h6⟩ := h
  unfold wpOp at hk ⊢
  rw [h1]
  have e1 : (unguard ops i)[i]? = some { o with guard := none } := by simp [unguard, Array.getElem?_modify, h1]
  rw [e1] at hk
  have e2 : Region.wanted o (yielded ops a.tmps) = true := by
    have ht : a.tmps[d]? = some (.bool false) := by
      rw [Array.getElem?_eq_getElem hd]
      have := hv
      simp only [Act.eval, Array.getD, hd, dif_pos] at this
      exact congrArg some this
    simp only [Region.wanted, h4, yielded]
    rw [h6]
    simp [ht]
  dsimp only at hk ⊢
  rw [if_pos e2]
  rw [if_pos (by rfl)] at hk
  exact hk
section
variable {P : Program} {ops : Array Oper} {Q : Exit → Act → World → Prop} {K : Act → World → Prop} {i g : Nat} {d e : Tmp} {op : Op} {js : List Nat} {a : Act} {w : World}
theorem OpG.skip (h : OpG ops i op (some e) js g d) (hv : a.eval (.tmp d) = .bool false) (hd : d < a.tmps.size) (hk : K (a.put (some e) undef) w) : wpOp P ops Q i K a w := by
  obtain ⟨o, h1, -, h3, h4, -, h6⟩ := h
  unfold wpOp
  rw [h1]
  have e2 : ¬ Region.wanted o (yielded ops a.tmps) = true := by
    have ht : a.tmps[d]? = some (.bool false) := by
      rw [Array.getElem?_eq_getElem hd]
      have := hv
      simp only [Act.eval, Array.getD, hd, dif_pos] at this
      exact congrArg some this
    simp only [Region.wanted, h4, yielded]
    rw [h6]
    simp [ht]
  dsimp only
  rw [if_neg e2, h3]
  exact hk
theorem OpN.skip (h : OpN ops i op (some e) js g d) (hv : a.eval (.tmp d) = .bool true) (hd : d < a.tmps.size) (hk : K (a.put (some e) undef) w) : wpOp P ops Q i K a w := by
  obtain ⟨o, h1, -, h3, h4, -, h6⟩ := h
  unfold wpOp
  rw [h1]
  have e2 : ¬ Region.wanted o (yielded ops a.tmps) = true := by
    have ht : a.tmps[d]? = some (.bool true) := by
      rw [Array.getElem?_eq_getElem hd]
      have := hv
      simp only [Act.eval, Array.getD, hd, dif_pos] at this
      exact congrArg some this
    simp only [Region.wanted, h4, yielded]
    rw [h6]
    simp [ht]
  dsimp only
  rw [if_neg e2, h3]
  exact hk
end
section
variable {ops : Array Oper} {Q : Exit → Act → World → Prop} {K : Act → World → Prop} {i : Nat} {dst : Option Tmp} {js : List Nat} {a : Act} {w w0 : World}
theorem OpIs.notB {k : Tmp} {b : Bool} (h : OpIs ops i (.unOp .not 4 (.tmp k)) dst js) (he : a.eval (.tmp k) = .bool b) (hk : K (a.put dst (.bool (!b))) w) : wpOp Try.prog ops Q i K a w :=
  h.go fun op h1 h2 => by
    have hr : (execOp a.eval op).run Try.prog w = .ok (.value (.bool (!b))) w := by
      unfold execOp
      rw [h1]
      dsimp only
      rw [he]
      go_simp
    unfold Oper.wp
    rw [hr]
    show K _ _
    rw [h2]
    exact hk
theorem OpIs.pickF {j k : Tmp} {v : Value} (h : OpIs ops i (.pick (.tmp j) (.const (.bool true)) (.tmp k)) dst js) (hj : a.eval (.tmp j) = .bool false) (hv : a.eval (.tmp k) = v) (hk : K (a.put dst v) w) : wpOp Try.prog ops Q i K a w :=
  h.go fun op h1 h2 => by
    have hr : (execOp a.eval op).run Try.prog w = .ok (.value v) w := by
      unfold execOp
      rw [h1]
      dsimp only
      rw [hj, hv]
      go_simp
    unfold Oper.wp
    rw [hr]
    show K _ _
    rw [h2]
    exact hk
theorem OpIs.fieldSt {k : Tmp} {f g o : Nat} (h : OpIs ops i (.fieldAddr 30 (.tmp k) f) dst js) (hf : f < 5) (he : a.eval (.tmp k) = .pointer (some ⟨g, o, none⟩)) (hk : K (a.put dst (.pointer (some ⟨g, o + f, none⟩))) w) : wpOp Try.prog ops Q i K a w :=
  h.go fun op h1 h2 => by
    have hr : (execOp a.eval op).run Try.prog w = .ok (.value (.pointer (some ⟨g, o + f, none⟩))) w := by
      clear hk
      unfold execOp
      rw [h1]
      dsimp only
      rw [he]
      have h4 : f = 0 ∨ f = 1 ∨ f = 2 ∨ f = 3 ∨ f = 4 := by omega
      rcases h4 with rfl | rfl | rfl | rfl | rfl <;> go_simp
    unfold Oper.wp
    rw [hr]
    show K _ _
    rw [h2]
    exact hk
theorem OpIs.loadRL {k : Tmp} {g o : Nat} {u : Value} (h : OpIs ops i (.load 27 (.tmp k)) dst js) (he : a.eval (.tmp k) = .pointer (some ⟨g, o, none⟩)) (hc : w.cell? ⟨g, o, none⟩ = some u) (hk : K (a.put dst (u)) w) : wpOp Try.prog ops Q i K a w :=
  h.go fun op h1 h2 => by
    have hr : (execOp a.eval op).run Try.prog w = .ok (.value (u)) w := by
      clear hk
      unfold execOp
      rw [h1]
      dsimp only
      rw [he]
      go_simp
    unfold Oper.wp
    rw [hr]
    show K _ _
    rw [h2]
    exact hk
theorem OpIs.loadRW {k : Tmp} {g o : Nat} {u : Value} (h : OpIs ops i (.load 28 (.tmp k)) dst js) (he : a.eval (.tmp k) = .pointer (some ⟨g, o, none⟩)) (hc : w.cell? ⟨g, o, none⟩ = some u) (hk : K (a.put dst (u)) w) : wpOp Try.prog ops Q i K a w :=
  h.go fun op h1 h2 => by
    have hr : (execOp a.eval op).run Try.prog w = .ok (.value (u)) w := by
      clear hk
      unfold execOp
      rw [h1]
      dsimp only
      rw [he]
      go_simp
    unfold Oper.wp
    rw [hr]
    show K _ _
    rw [h2]
    exact hk
theorem OpIs.loadI10 {k : Tmp} {g o : Nat} {u : Value} (h : OpIs ops i (.load 3 (.tmp k)) dst js) (he : a.eval (.tmp k) = .pointer (some ⟨g, o, none⟩)) (hc : w.cell? ⟨g, o, none⟩ = some u) (hk : K (a.put dst (u)) w) : wpOp Try.prog ops Q i K a w :=
  h.go fun op h1 h2 => by
    have hr : (execOp a.eval op).run Try.prog w = .ok (.value (u)) w := by
      clear hk
      unfold execOp
      rw [h1]
      dsimp only
      rw [he]
      go_simp
    unfold Oper.wp
    rw [hr]
    show K _ _
    rw [h2]
    exact hk
theorem OpIs.loadB10 {k : Tmp} {g o : Nat} {u : Value} (h : OpIs ops i (.load 4 (.tmp k)) dst js) (he : a.eval (.tmp k) = .pointer (some ⟨g, o, none⟩)) (hc : w.cell? ⟨g, o, none⟩ = some u) (hk : K (a.put dst (u)) w) : wpOp Try.prog ops Q i K a w :=
  h.go fun op h1 h2 => by
    have hr : (execOp a.eval op).run Try.prog w = .ok (.value (u)) w := by
      clear hk
      unfold execOp
      rw [h1]
      dsimp only
      rw [he]
      go_simp
    unfold Oper.wp
    rw [hr]
    show K _ _
    rw [h2]
    exact hk
theorem OpIs.neqI {j k : Tmp} {z : Int} (h : OpIs ops i (.binOp .neq 3 (.tmp j) (.tmp k) 3) dst js) (hj : a.eval (.tmp j) = .int .i64 z) (hk' : a.eval (.tmp k) = .int .i64 z) (hk : K (a.put dst (.bool false)) w) : wpOp Try.prog ops Q i K a w :=
  h.go fun op h1 h2 => by
    have hr : (execOp a.eval op).run Try.prog w = .ok (.value (.bool false)) w := by
      clear hk
      unfold execOp
      rw [h1]
      dsimp only
      rw [hj]
      rw [hk']
      go_simp
    unfold Oper.wp
    rw [hr]
    show K _ _
    rw [h2]
    exact hk
theorem OpIs.neqB {j k : Tmp} {z : Bool} (h : OpIs ops i (.binOp .neq 4 (.tmp j) (.tmp k) 4) dst js) (hj : a.eval (.tmp j) = .bool z) (hk' : a.eval (.tmp k) = .bool z) (hk : K (a.put dst (.bool false)) w) : wpOp Try.prog ops Q i K a w :=
  h.go fun op h1 h2 => by
    have hr : (execOp a.eval op).run Try.prog w = .ok (.value (.bool false)) w := by
      clear hk
      unfold execOp
      rw [h1]
      dsimp only
      rw [hj]
      rw [hk']
      go_simp
    unfold Oper.wp
    rw [hr]
    show K _ _
    rw [h2]
    exact hk
theorem OpIs.mulC {k : Tmp} {j : Nat} (h : OpIs ops i (.binOp .mul 3 (.const (.int .i64 64)) (.tmp k) 3) dst js) (hj : j ≤ 1000000) (he : a.eval (.tmp k) = .int .i64 (j : Nat)) (hk : K (a.put dst (.int .i64 (64 * j : Nat))) w) : wpOp Try.prog ops Q i K a w :=
  h.go fun op h1 h2 => by
    have hr : (execOp a.eval op).run Try.prog w = .ok (.value (.int .i64 (64 * j : Nat))) w := by
      clear hk
      unfold execOp
      rw [h1]
      dsimp only
      rw [he]
      go_simp
      rw [IntKind.wrap_i64]
      omega
    unfold Oper.wp
    rw [hr]
    show K _ _
    rw [h2]
    exact hk
theorem OpIs.lenRL {k : Tmp} {A : Option Addr} {n c : Nat} (h : OpIs ops i (.call { callee := .builtin .len, args := #[.tmp k], argTypes := #[27] }) dst js) (he : a.eval (.tmp k) = .slice A n c) (hk : K (a.put dst (.int .i64 n)) w) : wpOp Try.prog ops Q i K a w :=
  h.go fun o h1 h2 => by
    have hr : (execOp a.eval o).run Try.prog w = .ok (.value (.int .i64 n)) w := by
      unfold execOp
      rw [h1]
      simp only [resolve, invoke, builtin, Sem.run_bind, List.map_toArray, List.map_cons, List.map_nil, he]
      go_simp
    unfold Oper.wp
    rw [hr]
    show K _ _
    rw [h2]
    exact hk
theorem OpIs.lenRW {k : Tmp} {A : Option Addr} {n c : Nat} (h : OpIs ops i (.call { callee := .builtin .len, args := #[.tmp k], argTypes := #[28] }) dst js) (he : a.eval (.tmp k) = .slice A n c) (hk : K (a.put dst (.int .i64 n)) w) : wpOp Try.prog ops Q i K a w :=
  h.go fun o h1 h2 => by
    have hr : (execOp a.eval o).run Try.prog w = .ok (.value (.int .i64 n)) w := by
      unfold execOp
      rw [h1]
      simp only [resolve, invoke, builtin, Sem.run_bind, List.map_toArray, List.map_cons, List.map_nil, he]
      go_simp
    unfold Oper.wp
    rw [hr]
    show K _ _
    rw [h2]
    exact hk
theorem OpIs.storeRL {j k : Tmp} {g f : Nat} {A : Option Addr} {n c : Nat} {cs : Array Value} {t : TypeId} (h : OpIs ops i (.store 27 (.tmp j) (.tmp k)) none js) (hj : a.eval (.tmp j) = .pointer (some ⟨g, f, none⟩)) (hv : a.eval (.tmp k) = .slice A n c) (hb : CellsAt w g cs t) (hf : f < cs.size)
    (hk : ∀ w', CellsAt w' g (cs.setIfInBounds f (.slice A n c)) t → Chg (fun q => q = g) w w' → K a w') : wpOp Try.prog ops Q i K a w :=
  h.go fun o h1 h2 => by
    have hc : w.cell? ⟨g, f, none⟩ = some cs[f] := hb.cell (Array.getElem?_eq_getElem hf)
    have hz := hb.frozen f
    have hb' := hb.set1 f (.slice A n c)
    have ht := chg_set w g f (.slice A n c)
    have hr : (execOp a.eval o).run Try.prog w = .ok .skip (w.setCell ⟨g, f, none⟩ (.slice A n c)) := by
      clear hb hb' ht hk
      unfold execOp
      rw [h1]
      dsimp only
      rw [hj, hv]
      go_simp
    unfold Oper.wp
    rw [hr]
    show K _ _
    rw [h2]
    exact hk _ hb' ht
theorem OpIs.storeRW {j k : Tmp} {g f : Nat} {A : Option Addr} {n c : Nat} {cs : Array Value} {t : TypeId} (h : OpIs ops i (.store 28 (.tmp j) (.tmp k)) none js) (hj : a.eval (.tmp j) = .pointer (some ⟨g, f, none⟩)) (hv : a.eval (.tmp k) = .slice A n c) (hb : CellsAt w g cs t) (hf : f < cs.size)
    (hk : ∀ w', CellsAt w' g (cs.setIfInBounds f (.slice A n c)) t → Chg (fun q => q = g) w w' → K a w') : wpOp Try.prog ops Q i K a w :=
  h.go fun o h1 h2 => by
    have hc : w.cell? ⟨g, f, none⟩ = some cs[f] := hb.cell (Array.getElem?_eq_getElem hf)
    have hz := hb.frozen f
    have hb' := hb.set1 f (.slice A n c)
    have ht := chg_set w g f (.slice A n c)
    have hr : (execOp a.eval o).run Try.prog w = .ok .skip (w.setCell ⟨g, f, none⟩ (.slice A n c)) := by
      clear hb hb' ht hk
      unfold execOp
      rw [h1]
      dsimp only
      rw [hj, hv]
      go_simp
    unfold Oper.wp
    rw [hr]
    show K _ _
    rw [h2]
    exact hk _ hb' ht
end

end Go.Proofs.Ytaonfedjilfgjaa
