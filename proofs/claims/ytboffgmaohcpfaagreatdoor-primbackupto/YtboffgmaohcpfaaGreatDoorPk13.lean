import Derived.Test.YtboffgmaohcpfaaGreatDoorPk12

/-
  What the law PrimBack comes to, as a call.
-/
namespace Go.Proofs.YtboffgmaohcpfaaGreatDoor
open Go.RowKit Go.Maps

set_option maxRecDepth 100000 in
set_option maxHeartbeats 4000000 in
theorem primBack_walk (A : Option Addr) (n c : Nat) (os : List OpC) (x : PrC) (w : World) (hx : CameS w A n os) (hy : CameP w x) (htab : Tab w) :
    Calls Tryz.prog 4 #[.slice A n c, prV x] w (Says true w) := by
  have hlb : Later w (w.alloc (.cells #[.int .i64 x.v.kind, .string x.v.name, .string x.v.to, .int .i64 x.v.place, .slice x.A x.n x.c, .slice x.B x.m x.d] 34)) := (Later.refl w).alloc _
  have HF := Lib.hid (few_any A n c os _ (hx.script.later hlb) hx.many hx.weigh)
  have HX := Lib.hid hx; have HY := Lib.hid hy; have HTB := Lib.hid htab; have HLB := Lib.hid hlb
  have HBX := Lib.hid (BoxAt.made w (prL x).toArray 34)
  have hbd : fewN n (weightL os) ≤ 4000000 := by have h1 := hx.many; have h2 := hx.weigh; unfold fewN; split <;> omega
  have hz := @few_zero n (weightL os)
  have hwx := hy.weigh
  generalize fewN n (weightL os) = fw at HF hbd hz
  have HZ := Lib.hid hz
  clear hx hy htab hz hlb
  unfold prV
  by_cases h0 : fw = 0
  · obtain ⟨hn80, hW80⟩ := HZ.out.1 h0
    subst h0
    by_cases hg : 4000 < 1 + weightP x.v
    · go_enter Tryz.func4, Tryz.ntmps4
      go_wp2_with fail
      refine HF.out.mono ?_
      rintro e w1 ⟨rfl, hl1⟩
      have hb1 := HBX.out.later hl1
      obtain ⟨y0, y1, y2, y3, y4, y5⟩ : _ ∧ _ ∧ _ ∧ _ ∧ _ ∧ _ := ⟨hb1.cell (i := 0) rfl, hb1.cell (i := 1) rfl, hb1.cell (i := 2) rfl, hb1.cell (i := 3) rfl, hb1.cell (i := 4) rfl, hb1.cell (i := 5) rfl⟩
      have HL1 := Lib.hid (HLB.out.trans hl1)
      clear hl1 hb1
      have HM := Lib.hid (manyP_any _ 1 1 [x] _ (prims_one HY.out HL1.out 34) (by omega) (by rw [weightPs_one]; omega))
      rw [weightPs_one] at HM
      go_wp2_with fail
      refine HM.out.mono ?_
      rintro e w2 ⟨rfl, hl2⟩
      have HL2 := Lib.hid ((HL1.out.alloc _).trans hl2); clear hl2
      go_wp2_with fail
      refine (aliveP_any w2 (HTB.out.later HL2.out)).mono ?_
      rintro e w3 ⟨rfl, hl3⟩
      have HL3 := Lib.hid (HL2.out.trans hl3); clear hl3
      go_wp2
      go_ret
      exact ⟨rfl, HL3.out⟩
    · have HOK := Lib.hid (HY.out.ok (by omega))
      have hwt : x.n ≤ 4000 ∧ x.m ≤ 4000 := by
        have h1 := HY.out.old.len
        have h2 := HY.out.new.len
        unfold weightP at hg
        omega
      have hfit := made_fits HX.out.script hW80
      have HS := Lib.hid (hfit.sized.mono hn80 (Nat.le_refl _))
      have HMS := Lib.hid (HS.out.mid (by omega) (by omega))
      have HNT := Lib.hid (HS.out.apply x.v)
      have hnl : x.v.new.length ≤ 4000 := by have := HY.out.new.len; omega
      clear hfit
      go_enter Tryz.func4, Tryz.ntmps4
      go_wp2_with fail
      refine HF.out.mono ?_
      rintro e w1 ⟨rfl, hl1⟩
      have hb1 := HBX.out.later hl1
      obtain ⟨y0, y1, y2, y3, y4, y5⟩ : _ ∧ _ ∧ _ ∧ _ ∧ _ ∧ _ := ⟨hb1.cell (i := 0) rfl, hb1.cell (i := 1) rfl, hb1.cell (i := 2) rfl, hb1.cell (i := 3) rfl, hb1.cell (i := 4) rfl, hb1.cell (i := 5) rfl⟩
      have HB1 := Lib.hid hb1
      have HL1 := Lib.hid (HLB.out.trans hl1)
      clear hl1 hb1
      have HM := Lib.hid (manyP_any _ 1 1 [x] _ (prims_one HY.out HL1.out 34) (by omega) (by rw [weightPs_one]; omega))
      rw [weightPs_one] at HM
      go_wp2_with fail
      refine HM.out.mono ?_
      rintro e w2 ⟨rfl, hl2⟩
      have HL2 := Lib.hid ((HL1.out.alloc _).trans hl2)
      have HB2 := Lib.hid ((HB1.out.alloc _).later hl2)
      clear hl2 y0 y1 y2 y3 y4 y5
      go_wp2_with fail
      refine (made_any A n c os w2 (HX.out.script.later HL2.out) hn80 hW80).mono ?_
      rintro e w3 ⟨p, B, v, rfl, ht3, hr3, hp, hB, hl3⟩
      have H3 : Hid (Both w w3 p B (madeT os) v (madeT os) x w.heap.size) := ⟨ht3, hr3, HOK.out.later (HL2.out.trans hl3), HB2.out.later hl3, HL2.out.trans hl3⟩
      have hBw : w.heap.size ≤ B := Nat.le_trans HL2.out.le hB
      clear ht3 hr3 hl3 hp hB HL1 HL2 HB1 HB2 HM HF HX HY
      generalize madeT os = t at *
      have hb3 := H3.out.box
      obtain ⟨y0, y1, y2, y3, y4, y5⟩ : _ ∧ _ ∧ _ ∧ _ ∧ _ ∧ _ := ⟨hb3.cell (i := 0) rfl, hb3.cell (i := 1) rfl, hb3.cell (i := 2) rfl, hb3.cell (i := 3) rfl, hb3.cell (i := 4) rfl, hb3.cell (i := 5) rfl⟩
      clear hb3
      have HA := Lib.hid (apply_any x p B 80 8000 t w3 H3.out.tree H3.out.prim HS.out (by omega) (by omega))
      have HER := Lib.hid (apply_err (t := t) (p := x.v))
      have HBK := Lib.hid (fun (u : Tr) (h : applyP t x.v = (u, 0)) => apply_back H3.out.tree.files.rise h)
      generalize hap : applyP t x.v = ap at HA HER HNT HBK
      obtain ⟨t1, en⟩ := ap
      dsimp only at HER HNT
      unfold prV at HA
      by_cases hen : en = 0
      · subst hen
        have hbk := HBK.out t1 rfl
        have HBB := Lib.hid hbk
        clear hap hbk HER HBK
        go_wp2_with fail
        refine HA.out.mono ?_
        rintro e w4 ⟨rfl, ht4, hg4⟩
        have H4 := Lib.hid (H3.out.next ht4 hg4 hBw)
        clear ht4 hg4 y0 y1 y2 y3 y4 y5
        go_wp2_with fail
        refine (aliveP_any w4 (HTB.out.later H4.out.later)).mono ?_
        rintro e w5 ⟨rfl, hl5⟩
        have H5 := Lib.hid (H4.out.on hl5); clear hl5
        have hb5 := H5.out.box
        obtain ⟨y0, y1, y2, y3, y4, y5⟩ : _ ∧ _ ∧ _ ∧ _ ∧ _ ∧ _ := ⟨hb5.cell (i := 0) rfl, hb5.cell (i := 1) rfl, hb5.cell (i := 2) rfl, hb5.cell (i := 3) rfl, hb5.cell (i := 4) rfl, hb5.cell (i := 5) rfl⟩
        clear hb5
        have HI := Lib.hid (invert_v (PrOk.at H5.out.prim))
        unfold prV at HI
        go_wp2_with fail
        refine HI.out.mono ?_
        rintro e w6 ⟨vi, rfl, hvi, hl6⟩
        obtain ⟨z, rfl, hzv, hzo⟩ := hvi
        have H6 := Lib.hid (H5.out.on hl6)
        have hzm : z.m ≤ 4000 := by
          have h1 := hzo.new.len
          rw [hzv] at h1
          have h2 : (invertP x.v).new.length ≤ 4000 := by
            have h3 : x.v.old.length ≤ 4000 := by rw [H5.out.prim.old.len]; exact hwt.1
            unfold invertP
            (repeat' split) <;> (try dsimp only) <;> omega
          omega
        have hai := apply_any z p B 81 (8000 + x.v.new.length) t1 w6 H6.out.tree hzo HNT.out (by omega) (by omega)
        rw [hzv, HBB.out] at hai
        have HAI := Lib.hid hai
        clear hl6 hzv hzo hai y0 y1 y2 y3 y4 y5
        generalize prV z = vz at HAI ⊢
        go_wp2_with fail
        refine HAI.out.mono ?_
        rintro e w7 ⟨rfl, ht7, hg7⟩
        have H7 := Lib.hid (H6.out.next ht7 hg7 hBw)
        clear ht7 hg7
        go_wp2_with fail
        refine (oldM_any p B t w7 H7.out.tree HMS.out).mono ?_
        rintro e w8 ⟨v8, rfl, hr8, hl8⟩
        have H8 := Lib.hid (H7.out.on hl8); have HR8 := Lib.hid hr8
        clear hr8 hl8
        go_wp2_with fail
        refine (bothSame_any v8 v t w8 HR8.out H8.out.ref HMS.out).mono ?_
        rintro e w9 ⟨rfl, hl9⟩
        have H9 := Lib.hid (H8.out.on hl9); clear hl9
        go_wp2
        go_ret
        exact ⟨rfl, H9.out.later⟩
      · have het := HER.out hen
        subst het
        have hen' : (en != 0) = true := by rw [bne_iff_ne]; exact hen
        clear hap HER HBK
        go_wp2_with fail
        refine HA.out.mono ?_
        rintro e w4 ⟨rfl, ht4, hg4⟩
        have H4 := Lib.hid (H3.out.next ht4 hg4 hBw)
        clear ht4 hg4 y0 y1 y2 y3 y4 y5
        go_wp2_with fail
        refine (aliveP_any w4 (HTB.out.later H4.out.later)).mono ?_
        rintro e w5 ⟨rfl, hl5⟩
        have H5 := Lib.hid (H4.out.on hl5); clear hl5
        go_wp2_with fail
        refine (oldM_any p B t1 w5 H5.out.tree HMS.out).mono ?_
        rintro e w8 ⟨v8, rfl, hr8, hl8⟩
        have H8 := Lib.hid (H5.out.on hl8); have HR8 := Lib.hid hr8
        clear hr8 hl8
        go_wp2_with fail
        refine (bothSame_any v8 v t1 w8 HR8.out H8.out.ref HMS.out).mono ?_
        rintro e w9 ⟨rfl, hl9⟩
        have H9 := Lib.hid (H8.out.on hl9); clear hl9
        go_wp2
        go_ret
        exact ⟨rfl, H9.out.later⟩
  · have hpos : (0 : Int) < fw := by omega
    have hd : decide ((0 : Int) < fw) = true := by simp; omega
    go_enter Tryz.func4, Tryz.ntmps4
    go_wp2_with fail
    refine HF.out.mono ?_
    rintro e w1 ⟨rfl, hl1⟩
    have HL1 := Lib.hid (HLB.out.trans hl1); clear hl1
    go_wp2_with fail
    refine (aliveP_any w1 (HTB.out.later HL1.out)).mono ?_
    rintro e w2 ⟨rfl, hl2⟩
    have HL2 := Lib.hid (HL1.out.trans hl2); clear hl2
    go_wp2
    go_ret
    exact ⟨rfl, HL2.out⟩

end Go.Proofs.YtboffgmaohcpfaaGreatDoor
