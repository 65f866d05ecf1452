import Derived.Test.YtboffgmaohcpfaaGreatDoorPk12
import Derived.Test.YtboffgmaohcpfaaGreatDoorPk5

/-
  What the law PrimApplies comes to, as a call.
-/
namespace Go.Proofs.YtboffgmaohcpfaaGreatDoor
open Go.RowKit Go.Maps

/-- How many lines prims bring. -/
def bringL (xs : List PrC) : Nat := (xs.map fun x => x.v.new.length).sum
theorem bring_next {xs : List PrC} {k : Nat} {x : PrC} (h : xs[k]? = some x) : bringL (xs.take (k + 1)) = bringL (xs.take k) + x.v.new.length := by
  obtain ⟨hk, rfl⟩ := List.getElem?_eq_some_iff.1 h
  unfold bringL
  rw [List.take_succ_eq_append_getElem hk, List.map_append, List.sum_append]
  simp
theorem bring_le (xs : List PrC) : bringL xs ≤ weightPs xs := by
  induction xs with
  | nil => simp [bringL, weightPs]
  | cons x xs ih =>
    simp only [bringL, weightPs, List.map_cons, List.sum_cons] at ih ⊢
    have : x.v.new.length ≤ weightP x.v := by unfold weightP; omega
    omega

set_option maxRecDepth 100000 in
set_option maxHeartbeats 4000000 in
theorem primApplies_walk (A : Option Addr) (n c : Nat) (os : List OpC) (C : Option Addr) (m d : Nat) (xs : List PrC) (w : World) (hx : CameS w A n os) (hy : CamePs w C m xs) (htab : Tab w) :
    Calls Tryz.prog 3 #[.slice A n c, .slice C m d] w (Says true w) := by
  have HF := Lib.hid (few_any A n c os w hx.script hx.many hx.weigh)
  have HX := Lib.hid hx; have HY := Lib.hid hy; have HTB := Lib.hid htab
  have hbd : fewN n (weightL os) ≤ 4000000 := by have h1 := hx.many; have h2 := hx.weigh; unfold fewN; split <;> omega
  have hz := @few_zero n (weightL os)
  have hm1 := hy.many; have hwx := hy.weigh
  have HM := Lib.hid (fun (w1 : World) (hl : Later w w1) => manyP_any C m d xs w1 (hy.prims.later hl) hm1 (by omega))
  generalize fewN n (weightL os) = fw at HF hbd hz
  have HZ := Lib.hid hz
  clear hx hy htab hz
  by_cases h0 : fw = 0
  · obtain ⟨hn80, hW80⟩ := HZ.out.1 h0
    subst h0
    by_cases hg : 6000 < m + weightPs xs
    · go_enter Tryz.func3, Tryz.ntmps3
      go_wp2_with fail
      refine HF.out.mono ?_
      rintro e w1 ⟨rfl, hl1⟩
      have HL1 := Lib.hid hl1; clear hl1
      go_wp2_with fail
      refine (HM.out w1 HL1.out).mono ?_
      rintro e w2 ⟨rfl, hl2⟩
      have HL2 := Lib.hid (HL1.out.trans hl2); clear hl2
      go_wp2_with fail
      refine (aliveP_any w2 (HTB.out.later HL2.out)).mono ?_
      rintro e w3 ⟨rfl, hl3⟩
      have HL3 := Lib.hid (HL2.out.trans hl3); clear hl3
      go_wp2
      go_ret
      exact ⟨rfl, HL3.out⟩
    · have hfit := made_fits HX.out.script hW80
      have HS := Lib.hid (hfit.sized.mono hn80 (Nat.le_refl _))
      have hbr := bring_le xs
      clear hfit
      go_enter Tryz.func3, Tryz.ntmps3
      go_wp2_with fail
      refine HF.out.mono ?_
      rintro e w1 ⟨rfl, hl1⟩
      have HL1 := Lib.hid hl1; clear hl1
      go_wp2_with fail
      refine (HM.out w1 HL1.out).mono ?_
      rintro e w2 ⟨rfl, hl2⟩
      have HL2 := Lib.hid (HL1.out.trans hl2); clear hl2
      go_wp2_with fail
      refine (made_any A n c os w2 (HX.out.script.later HL2.out) hn80 hW80).mono ?_
      rintro e w3 ⟨p, B, v0, rfl, ht3, hr3, hp, hB, hl3⟩
      have HT3 := Lib.hid ht3; have HR3 := Lib.hid hr3; have HL3 := Lib.hid (HL2.out.trans hl3)
      have hBw : w.heap.size ≤ B := Nat.le_trans HL2.out.le hB
      clear ht3 hr3 hl3 hp hB HL1 HL2 HM HF HX
      generalize madeT os = t0 at *
      go_wp2
      go_loopg [6, 29] (m + 1) (fun g s6 s29 wr => ∃ (k : Nat) (v : Value) (t : Tr), k ≤ m ∧ m - k ≤ g ∧ s29 = .int .i64 k ∧ s6 = v ∧ Hid (Sized (80 + k) (8000 + bringL (xs.take k)) t) ∧ Hid (TreeAt wr p B t) ∧ Hid (RefAt wr v t) ∧ Hid (Later w wr))
      case atStart => exact ⟨0, v0, t0, Nat.zero_le _, by omega, rfl, rfl, by simpa [Hid, bringL] using HS.out, HT3.out, HR3.out, HL3.out⟩
      case round =>
        obtain ⟨k, v, t, hk, hgk, rfl, hv, hsz, htr, href, hwr⟩ := hrel
        obtain rfl := hv.symm
        clear hv
        by_cases hlt : k < m
        · obtain ⟨b, o, x, rfl, hz, g0, g1, g2, g3, g4, g5⟩ := (HY.out.prims.later hwr.out).get hlt
          have hmem := List.mem_of_getElem? hz
          have hwm := weightPs_mem hmem
          have hok := (HY.out.prims.each x hmem).ok (by omega)
          have hnx := bring_next hz
          have hxn : x.v.new.length = x.m := hok.new.len
          have hbk : bringL (xs.take (k + 1)) ≤ 6000 := by
            have h1 := bring_le (xs.take (k + 1))
            have h2 := weightPs_take_le xs (k + 1)
            omega
          have hlb : Later wr (wr.alloc (.cells #[.int .i64 x.v.kind, .string x.v.name, .string x.v.to, .int .i64 x.v.place, .slice x.A x.n x.c, .slice x.B x.m x.d] 34)) := (Later.refl wr).alloc _
          have hbo : Both w (wr.alloc (.cells #[.int .i64 x.v.kind, .string x.v.name, .string x.v.to, .int .i64 x.v.place, .slice x.A x.n x.c, .slice x.B x.m x.d] 34)) p B t v t x wr.heap.size := ⟨htr.out.later hlb, href.out.later hlb, hok.later (hwr.out.trans hlb), BoxAt.made wr (prL x).toArray 34, hwr.out.trans hlb⟩
          have hsl : t.length ≤ 65536 := by have := hsz.out.many; omega
          have hsb : ∀ f ∈ t, f.2.length ≤ 65536 := fun f hf => by have := (hsz.out.each f hf).2.2; omega
          have HRA := Lib.hid (refApply_any v t x _ hbo.ref hbo.prim hsl hsb)
          have HBO := Lib.hid hbo
          have HSN : Hid (Sized (80 + (k + 1)) (8000 + bringL (xs.take (k + 1))) (applyP t x.v).1) := by
            rw [hnx]
            exact (hsz.out.apply x.v).mono (by omega) (by omega)
          have HAP := Lib.hid (fun (w' : World) (h : Both w w' p B t v t x wr.heap.size) => apply_any x p B (80 + k) (8000 + bringL (xs.take k)) t w' h.tree h.prim hsz.out (by omega) (by omega))
          generalize hap : applyP t x.v = ap at HRA HSN HAP
          obtain ⟨t1, en⟩ := ap
          dsimp only at HSN
          have hne : (en != en) = false := by simp
          have HMD := Lib.hid (HSN.out.mid (by omega) (by omega))
          unfold prV at HRA HAP
          clear hap hok hmem hwm hnx hxn hz hbo hlb hsl hsb
          go_wp2_with fail
          refine HRA.out.mono ?_
          rintro e w4 ⟨v4, rfl, hr4, hl4⟩
          have H4 := Lib.hid (HBO.out.on hl4); have HR4 := Lib.hid hr4
          have hb4 := H4.out.box
          obtain ⟨y0, y1, y2, y3, y4, y5⟩ : _ ∧ _ ∧ _ ∧ _ ∧ _ ∧ _ := ⟨hb4.cell (i := 0) rfl, hb4.cell (i := 1) rfl, hb4.cell (i := 2) rfl, hb4.cell (i := 3) rfl, hb4.cell (i := 4) rfl, hb4.cell (i := 5) rfl⟩
          clear hr4 hl4 hb4
          go_wp2_with fail
          refine (HAP.out w4 H4.out).mono ?_
          rintro e w5 ⟨rfl, ht5, hg5⟩
          have HT5 := Lib.hid ht5; have HL5 := Lib.hid (H4.out.later.turn hg5 hBw)
          have HR5 : Hid (RefAt w5 v4 t1) := by
            obtain ⟨es, mc, hmm⟩ := H4.out.tree.files.map
            exact HR4.out.turned hg5 hmm
          clear ht5 hg5 y0 y1 y2 y3 y4 y5
          go_wp2_with fail
          refine (oldM_any p B t1 w5 HT5.out HMD.out).mono ?_
          rintro e w6 ⟨v6, rfl, hr6, hl6⟩
          have HR6 := Lib.hid hr6; have HL6 := Lib.hid hl6
          clear hr6 hl6
          go_wp2_with fail
          refine (bothSame_any v6 v4 t1 w6 HR6.out (HR5.out.later HL6.out) HMD.out).mono ?_
          rintro e w7 ⟨rfl, hl7⟩
          have HL7 := Lib.hid (HL6.out.trans hl7); clear hl7
          go_wp2
          go_roundg (m - (k + 1))
          case measure => omega
          case rel => exact ⟨k + 1, v4, t1, by omega, Nat.le_refl _, by go_num, rfl, HSN.out, HT5.out.later HL7.out, HR5.out.later HL7.out, HL5.out.trans HL7.out⟩
        · go_wp2_with fail
          refine (aliveP_any _ (HTB.out.later hwr.out)).mono ?_
          rintro e w4 ⟨rfl, hl4⟩
          have HL4 := Lib.hid (hwr.out.trans hl4); clear hl4
          go_wp2
          go_ret
          exact ⟨rfl, HL4.out⟩
  · have hpos : (0 : Int) < fw := by omega
    have hd : decide ((0 : Int) < fw) = true := by simp; omega
    go_enter Tryz.func3, Tryz.ntmps3
    go_wp2_with fail
    refine HF.out.mono ?_
    rintro e w1 ⟨rfl, hl1⟩
    have HL1 := Lib.hid hl1; clear hl1
    go_wp2_with fail
    refine (aliveP_any w1 (HTB.out.later HL1.out)).mono ?_
    rintro e w2 ⟨rfl, hl2⟩
    have HL2 := Lib.hid (HL1.out.trans hl2); clear hl2
    go_wp2
    go_ret
    exact ⟨rfl, HL2.out⟩

end Go.Proofs.YtboffgmaohcpfaaGreatDoor
