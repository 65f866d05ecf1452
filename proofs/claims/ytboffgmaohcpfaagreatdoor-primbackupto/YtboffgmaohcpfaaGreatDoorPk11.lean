import Derived.Test.YtboffgmaohcpfaaGreatDoorPk10
import Derived.Test.YtboffgmaohcpfaaGreatDoorPk8
import Derived.Test.YtboffgmaohcpfaaGreatDoorPk6
import Derived.Deep.RegionHeld3
import Derived.Test.YtboffgmaohcpfaaGreatDoorPk3
import Derived.Test.YtboffgmaohcpfaaGreatDoorChecked
import Derived.Test.YtboffgmaohcpfaaGreatDoorPk1
import Derived.Deep.LoopGhost
import Derived.Lib.Hide

/-
  What the document's Apply comes to, as a call.
-/
namespace Go.Proofs.YtboffgmaohcpfaaGreatDoor
open Go.RowKit Go.Maps

section
variable (A : Option Addr) (n c : Nat) (z : Fl Held) (nm to : ByteArray) (pl : Int) (old new : List ByteArray) (Ao : Option Addr) (no co : Nat) (Aw : Option Addr) (nw cw : Nat) (w : World)

set_option maxRecDepth 100000 in
set_option maxHeartbeats 1000000 in
theorem refApply1 (hx : RefRow w A n z) (hc : n ≤ c) (hn : n ≤ 65536) (hp : PrOk w ⟨⟨1, nm, to, pl, old, new⟩, Ao, no, co, Aw, nw, cw⟩) (hr : rightP ⟨1, nm, to, pl, old, new⟩ = true) :
    Calls Tryz.prog 9 #[.slice A n c, .agg #[.int .i64 1, .string nm, .string to, .int .i64 pl, .slice Ao no co, .slice Aw nw cw]] w (GivesDo (applyP (mapT (·.2) z) ⟨1, nm, to, pl, old, new⟩) w) := by
  have hlb : Later w (w.alloc (.cells #[.int .i64 1, .string nm, .string to, .int .i64 pl, .slice Ao no co, .slice Aw nw cw] 34)) := (Later.refl w).alloc _
  have hri := refRightP_any ⟨⟨1, nm, to, pl, old, new⟩, Ao, no, co, Aw, nw, cw⟩ _ (hp.later hlb)
  unfold prV at hri
  dsimp only at hri
  rw [hr] at hri
  have HR := Lib.hid hri
  have HBX := Lib.hid (BoxAt.made w #[.int .i64 1, .string nm, .string to, .int .i64 pl, .slice Ao no co, .slice Aw nw cw] 34)
  have HLB := Lib.hid hlb; have HX := Lib.hid hx; have HP := Lib.hid hp
  have HG := Lib.hid (fun (w1 : World) (h : Later w w1) => refGet_any A n c z nm w1 (hx.later h) hn)
  have HG2 := Lib.hid (fun (w1 : World) (h : Later w w1) => refGet_any A n c z to w1 (hx.later h) hn)
  have same : Hid (∀ (w1 : World) (k : Int), Later w w1 → GivesDo (mapT (·.2) z, k) w (.returned (.tuple #[.slice A n c, .int .i64 k])) w1) := fun w1 k h => ⟨_, rfl, ⟨A, n, c, z, rfl, hc, hx.later h, rfl⟩, h⟩
  have HRT := Lib.hid hr
  clear hlb hri hp hr
  cases h1 : hasT z nm
  · have E : Hid (applyP (mapT (·.2) z) ⟨1, nm, to, pl, old, new⟩ = (withT (mapT (·.2) z) nm [], 0)) := by simp [Hid, applyP, HRT.out, hasT_map, h1]
    rw [E.out]
    rw [h1] at HG
    have HW := Lib.hid (fun (w1 : World) (h : Later w w1) => refWith_any A n c z nm none 0 0 [] w1 (hx.later h) (Reads.nil w1) hn)
    clear E h1 hx
    go_enter Tryz.func9, Tryz.ntmps9
    go_wp2_with fail
    refine HR.out.mono ?_
    rintro e w1 ⟨rfl, hl1⟩
    have hb1 := HBX.out.later hl1
    have HL1 := Lib.hid (HLB.out.trans hl1)
    have y0 := hb1.cell (i := 0) rfl; have y1 := hb1.cell (i := 1) rfl; have y2 := hb1.cell (i := 2) rfl; have y3 := hb1.cell (i := 3) rfl; have y4 := hb1.cell (i := 4) rfl; have y5 := hb1.cell (i := 5) rfl
    clear hl1 hb1
    go_wp2_with fail
    refine (HG.out _ HL1.out).mono ?_
    rintro e w2 ⟨rfl, rfl⟩
    generalize got (getT z nm) = gv
    go_wp2_with fail
    refine (HG2.out _ HL1.out).mono ?_
    rintro e w2 ⟨rfl, rfl⟩
    generalize got (getT z to) = gv2
    generalize hasT z to = gb2
    go_wp2_with fail
    refine (HW.out _ HL1.out).mono ?_
    rintro e w3 ⟨A3, n3, c3, rfl, hc3, hr3, hl3⟩
    have HR3 := Lib.hid hr3; have HL3 := Lib.hid hl3; clear hr3 hl3
    go_wp2
    go_ret2
    exact ⟨_, rfl, ⟨A3, n3, c3, _, rfl, hc3, HR3.out, (withT_map (fun x : Held => x.2) z nm (_, [])).symm⟩, HL1.out.trans HL3.out⟩
  · have E : Hid (applyP (mapT (·.2) z) ⟨1, nm, to, pl, old, new⟩ = (mapT (·.2) z, 31)) := by simp [Hid, applyP, HRT.out, hasT_map, h1]
    rw [E.out]
    rw [h1] at HG
    clear E h1 hx
    go_enter Tryz.func9, Tryz.ntmps9
    go_wp2_with fail
    refine HR.out.mono ?_
    rintro e w1 ⟨rfl, hl1⟩
    have hb1 := HBX.out.later hl1
    have HL1 := Lib.hid (HLB.out.trans hl1)
    have y0 := hb1.cell (i := 0) rfl; have y1 := hb1.cell (i := 1) rfl; have y2 := hb1.cell (i := 2) rfl; have y3 := hb1.cell (i := 3) rfl; have y4 := hb1.cell (i := 4) rfl; have y5 := hb1.cell (i := 5) rfl
    clear hl1 hb1
    go_wp2_with fail
    refine (HG.out _ HL1.out).mono ?_
    rintro e w2 ⟨rfl, rfl⟩
    generalize got (getT z nm) = gv
    go_wp2_with fail
    refine (HG2.out _ HL1.out).mono ?_
    rintro e w2 ⟨rfl, rfl⟩
    generalize got (getT z to) = gv2
    generalize hasT z to = gb2
    go_wp2
    go_ret2
    exact same.out _ _ HL1.out

set_option maxRecDepth 100000 in
set_option maxHeartbeats 1000000 in
theorem refApply2 (hx : RefRow w A n z) (hc : n ≤ c) (hn : n ≤ 65536) (hp : PrOk w ⟨⟨2, nm, to, pl, old, new⟩, Ao, no, co, Aw, nw, cw⟩) (hr : rightP ⟨2, nm, to, pl, old, new⟩ = true) (hb : ∀ f ∈ z, f.2.2.length ≤ 65536) :
    Calls Tryz.prog 9 #[.slice A n c, .agg #[.int .i64 2, .string nm, .string to, .int .i64 pl, .slice Ao no co, .slice Aw nw cw]] w (GivesDo (applyP (mapT (·.2) z) ⟨2, nm, to, pl, old, new⟩) w) := by
  have hlb : Later w (w.alloc (.cells #[.int .i64 2, .string nm, .string to, .int .i64 pl, .slice Ao no co, .slice Aw nw cw] 34)) := (Later.refl w).alloc _
  have hri := refRightP_any ⟨⟨2, nm, to, pl, old, new⟩, Ao, no, co, Aw, nw, cw⟩ _ (hp.later hlb)
  unfold prV at hri
  dsimp only at hri
  rw [hr] at hri
  have HR := Lib.hid hri
  have HBX := Lib.hid (BoxAt.made w #[.int .i64 2, .string nm, .string to, .int .i64 pl, .slice Ao no co, .slice Aw nw cw] 34)
  have HLB := Lib.hid hlb; have HX := Lib.hid hx; have HP := Lib.hid hp
  have HG := Lib.hid (fun (w1 : World) (h : Later w w1) => refGet_any A n c z nm w1 (hx.later h) hn)
  have HG2 := Lib.hid (fun (w1 : World) (h : Later w w1) => refGet_any A n c z to w1 (hx.later h) hn)
  have same : Hid (∀ (w1 : World) (k : Int), Later w w1 → GivesDo (mapT (·.2) z, k) w (.returned (.tuple #[.slice A n c, .int .i64 k])) w1) := fun w1 k h => ⟨_, rfl, ⟨A, n, c, z, rfl, hc, hx.later h, rfl⟩, h⟩
  have HRT := Lib.hid hr
  clear hlb hri hp hr
  cases hg : getT z nm with
  | none =>
    have h2 : hasT z nm = false := hasT_no.2 (getT_none.1 hg)
    have E : Hid (applyP (mapT (·.2) z) ⟨2, nm, to, pl, old, new⟩ = (mapT (·.2) z, 31)) := by simp [Hid, applyP, HRT.out, getT_map, hg]
    rw [E.out]
    rw [h2] at HG
    clear E h2 hg hx
    go_enter Tryz.func9, Tryz.ntmps9
    go_wp2_with fail
    refine HR.out.mono ?_
    rintro e w1 ⟨rfl, hl1⟩
    have hb1 := HBX.out.later hl1
    have HL1 := Lib.hid (HLB.out.trans hl1)
    have y0 := hb1.cell (i := 0) rfl; have y1 := hb1.cell (i := 1) rfl; have y2 := hb1.cell (i := 2) rfl; have y3 := hb1.cell (i := 3) rfl; have y4 := hb1.cell (i := 4) rfl; have y5 := hb1.cell (i := 5) rfl
    clear hl1 hb1
    go_wp2_with fail
    refine (HG.out _ HL1.out).mono ?_
    rintro e w2 ⟨rfl, rfl⟩
    generalize got (getT z nm) = gv
    go_wp2_with fail
    refine (HG2.out _ HL1.out).mono ?_
    rintro e w2 ⟨rfl, rfl⟩
    generalize got (getT z to) = gv2
    generalize hasT z to = gb2
    go_wp2
    go_ret2
    exact same.out _ _ HL1.out
  | some x =>
    have h2 : hasT z nm = true := getT_has hg
    obtain ⟨A2, n2, c2, hv2, hnc2, hr2⟩ := hx.reads _ (getT_mem hg)
    have hgot : got (getT z nm) = .slice A2 n2 c2 := by rw [hg]; exact hv2
    have hn2 : n2 ≤ 65536 := by rw [← hr2.len]; exact hb _ (getT_mem hg)
    rw [h2, hgot] at HG
    by_cases h0 : n2 = 0
    · have hl0 : x.2.length = 0 := hr2.len.trans h0
      have E : Hid (applyP (mapT (·.2) z) ⟨2, nm, to, pl, old, new⟩ = (withoutT (mapT (·.2) z) nm, 0)) := by simp [Hid, applyP, HRT.out, getT_map, hg, hl0]
      rw [E.out]
      have HW := Lib.hid (fun (w1 : World) (h : Later w w1) => refWithout_any A n c z nm w1 (hx.later h) hn)
      subst h0
      clear E h2 hg hx hr2 hv2 hgot hl0
      go_enter Tryz.func9, Tryz.ntmps9
      go_wp2_with fail
      refine HR.out.mono ?_
      rintro e w1 ⟨rfl, hl1⟩
      have hb1 := HBX.out.later hl1
      have HL1 := Lib.hid (HLB.out.trans hl1)
      have y0 := hb1.cell (i := 0) rfl; have y1 := hb1.cell (i := 1) rfl; have y2 := hb1.cell (i := 2) rfl; have y3 := hb1.cell (i := 3) rfl; have y4 := hb1.cell (i := 4) rfl; have y5 := hb1.cell (i := 5) rfl
      clear hl1 hb1
      go_wp2_with fail
      refine (HG.out _ HL1.out).mono ?_
      rintro e w2 ⟨rfl, rfl⟩
      go_wp2_with fail
      refine (HG2.out _ HL1.out).mono ?_
      rintro e w2 ⟨rfl, rfl⟩
      generalize got (getT z to) = gv2
      generalize hasT z to = gb2
      go_wp2_with fail
      refine (HW.out _ HL1.out).mono ?_
      rintro e w3 ⟨A3, n3, c3, rfl, hc3, hr3, hl3⟩
      have HR3 := Lib.hid hr3; have HL3 := Lib.hid hl3; clear hr3 hl3
      go_wp2
      go_ret2
      exact ⟨_, rfl, ⟨A3, n3, c3, _, rfl, hc3, HR3.out, (withoutT_map (fun x : Held => x.2) z nm).symm⟩, HL1.out.trans HL3.out⟩
    · have hl0 : 0 < x.2.length := by rw [hr2.len]; omega
      have E : Hid (applyP (mapT (·.2) z) ⟨2, nm, to, pl, old, new⟩ = (mapT (·.2) z, 31)) := by simp [Hid, applyP, HRT.out, getT_map, hg, hl0]
      rw [E.out]
      have h0' : ¬ (n2 : Int) = 0 := by omega
      clear E h2 hg hx hr2 hv2 hgot hl0
      go_enter Tryz.func9, Tryz.ntmps9
      go_wp2_with fail
      refine HR.out.mono ?_
      rintro e w1 ⟨rfl, hl1⟩
      have hb1 := HBX.out.later hl1
      have HL1 := Lib.hid (HLB.out.trans hl1)
      have y0 := hb1.cell (i := 0) rfl; have y1 := hb1.cell (i := 1) rfl; have y2 := hb1.cell (i := 2) rfl; have y3 := hb1.cell (i := 3) rfl; have y4 := hb1.cell (i := 4) rfl; have y5 := hb1.cell (i := 5) rfl
      clear hl1 hb1
      go_wp2_with fail
      refine (HG.out _ HL1.out).mono ?_
      rintro e w2 ⟨rfl, rfl⟩
      go_wp2_with fail
      refine (HG2.out _ HL1.out).mono ?_
      rintro e w2 ⟨rfl, rfl⟩
      generalize got (getT z to) = gv2
      generalize hasT z to = gb2
      go_wp2
      go_ret2
      exact same.out _ _ HL1.out

set_option maxRecDepth 100000 in
set_option maxHeartbeats 1000000 in
theorem refApply3 (hx : RefRow w A n z) (hc : n ≤ c) (hn : n ≤ 65536) (hp : PrOk w ⟨⟨3, nm, to, pl, old, new⟩, Ao, no, co, Aw, nw, cw⟩) (hr : rightP ⟨3, nm, to, pl, old, new⟩ = true) :
    Calls Tryz.prog 9 #[.slice A n c, .agg #[.int .i64 3, .string nm, .string to, .int .i64 pl, .slice Ao no co, .slice Aw nw cw]] w (GivesDo (applyP (mapT (·.2) z) ⟨3, nm, to, pl, old, new⟩) w) := by
  have hlb : Later w (w.alloc (.cells #[.int .i64 3, .string nm, .string to, .int .i64 pl, .slice Ao no co, .slice Aw nw cw] 34)) := (Later.refl w).alloc _
  have hri := refRightP_any ⟨⟨3, nm, to, pl, old, new⟩, Ao, no, co, Aw, nw, cw⟩ _ (hp.later hlb)
  unfold prV at hri
  dsimp only at hri
  rw [hr] at hri
  have HR := Lib.hid hri
  have HBX := Lib.hid (BoxAt.made w #[.int .i64 3, .string nm, .string to, .int .i64 pl, .slice Ao no co, .slice Aw nw cw] 34)
  have HLB := Lib.hid hlb; have HX := Lib.hid hx; have HP := Lib.hid hp
  have HG := Lib.hid (fun (w1 : World) (h : Later w w1) => refGet_any A n c z nm w1 (hx.later h) hn)
  have HG2 := Lib.hid (fun (w1 : World) (h : Later w w1) => refGet_any A n c z to w1 (hx.later h) hn)
  have same : Hid (∀ (w1 : World) (k : Int), Later w w1 → GivesDo (mapT (·.2) z, k) w (.returned (.tuple #[.slice A n c, .int .i64 k])) w1) := fun w1 k h => ⟨_, rfl, ⟨A, n, c, z, rfl, hc, hx.later h, rfl⟩, h⟩
  have HRT := Lib.hid hr
  clear hlb hri hp hr
  cases hg : getT z nm with
  | none =>
    have h2 : hasT z nm = false := hasT_no.2 (getT_none.1 hg)
    have E : Hid (applyP (mapT (·.2) z) ⟨3, nm, to, pl, old, new⟩ = (mapT (·.2) z, 31)) := by simp [Hid, applyP, HRT.out, getT_map, hg]
    rw [E.out]
    rw [h2] at HG
    clear E h2 hg hx
    go_enter Tryz.func9, Tryz.ntmps9
    go_wp2_with fail
    refine HR.out.mono ?_
    rintro e w1 ⟨rfl, hl1⟩
    have hb1 := HBX.out.later hl1
    have HL1 := Lib.hid (HLB.out.trans hl1)
    have y0 := hb1.cell (i := 0) rfl; have y1 := hb1.cell (i := 1) rfl; have y2 := hb1.cell (i := 2) rfl; have y3 := hb1.cell (i := 3) rfl; have y4 := hb1.cell (i := 4) rfl; have y5 := hb1.cell (i := 5) rfl
    clear hl1 hb1
    go_wp2_with fail
    refine (HG.out _ HL1.out).mono ?_
    rintro e w2 ⟨rfl, rfl⟩
    generalize got (getT z nm) = gv
    go_wp2_with fail
    refine (HG2.out _ HL1.out).mono ?_
    rintro e w2 ⟨rfl, rfl⟩
    generalize got (getT z to) = gv2
    generalize hasT z to = gb2
    go_wp2
    go_ret2
    exact same.out _ _ HL1.out
  | some x =>
    have h2 : hasT z nm = true := getT_has hg
    obtain ⟨A2, n2, c2, hv2, hnc2, hr2⟩ := hx.reads _ (getT_mem hg)
    have hgot : got (getT z nm) = .slice A2 n2 c2 := by rw [hg]; exact hv2
    rw [h2, hgot] at HG
    cases h3 : hasT z to
    · have E : Hid (applyP (mapT (·.2) z) ⟨3, nm, to, pl, old, new⟩ = (withT (withoutT (mapT (·.2) z) nm) to x.2, 0)) := by simp [Hid, applyP, HRT.out, getT_map, hg, hasT_map, h3]
      rw [E.out]
      rw [h3] at HG2
      have HW := Lib.hid (fun (w1 : World) (h : Later w w1) => refWithout_any A n c z nm w1 (hx.later h) hn)
      have hzn := without_length z nm
      rw [hx.len] at hzn
      have HR2 : Hid (Reads w (.slice A2 n2 c2) x.2) := ⟨A2, n2, c2, rfl, hnc2, hr2⟩
      clear E h2 hg hx hr2 hv2 hgot h3
      go_enter Tryz.func9, Tryz.ntmps9
      go_wp2_with fail
      refine HR.out.mono ?_
      rintro e w1 ⟨rfl, hl1⟩
      have hb1 := HBX.out.later hl1
      have HL1 := Lib.hid (HLB.out.trans hl1)
      have y0 := hb1.cell (i := 0) rfl; have y1 := hb1.cell (i := 1) rfl; have y2 := hb1.cell (i := 2) rfl; have y3 := hb1.cell (i := 3) rfl; have y4 := hb1.cell (i := 4) rfl; have y5 := hb1.cell (i := 5) rfl
      clear hl1 hb1
      go_wp2_with fail
      refine (HG.out _ HL1.out).mono ?_
      rintro e w2 ⟨rfl, rfl⟩
      go_wp2_with fail
      refine (HG2.out _ HL1.out).mono ?_
      rintro e w2 ⟨rfl, rfl⟩
      generalize got (getT z to) = gv2
      clear y3 y4 y5
      go_wp2_with fail
      go_region_held3 (fun w' => w'.cell? ⟨w.heap.size, 1, none⟩ = some (.string nm) ∧ w'.cell? ⟨w.heap.size, 2, none⟩ = some (.string to)) (go_keep)
        (first
          | (go_at_call 27; refine (HW.out _ (Later.trans HL1.out (by first | exact Later.refl _ | exact (Later.refl _).drew | exact (Later.refl _).drewN _))).mono ?_; rintro e w3 ⟨A1, n1, c1, rfl, hc1, hr1, hl1⟩; have HL3 : Hid (Later w1 w3) := Later.trans (by first | exact Later.refl _ | exact (Later.refl _).drew | exact (Later.refl _).drewN _) hl1; have HR1 := Lib.hid hr1; have hn1 : n1 ≤ 65536 := (by rw [← hr1.len]; omega); have cc1 := HL3.out.cell y1; have cc2 := HL3.out.cell y2; clear hr1 hl1)
          | (go_at_call 26; refine (refWith_any A1 n1 c1 (withoutT z nm) to A2 n2 c2 x.2 w3 HR1.out (HR2.out.later (HL1.out.trans HL3.out)) hn1).mono ?_; rintro e w4 ⟨A4, n4, c4, rfl, hc4, hr4, hl4⟩; have HL4 := Lib.hid hl4; have HR4 := Lib.hid hr4; have cd1 := HL4.out.cell cc1; have cd2 := HL4.out.cell cc2; clear hr4 hl4))
      go_wp2
      go_ret2
      refine ⟨_, rfl, ⟨A4, n4, c4, _, rfl, hc4, HR4.out, ?_⟩, (HL1.out.trans HL3.out).trans HL4.out⟩
      rw [withoutT_map, ← withT_map (fun x : Held => x.2)]
    · have E : Hid (applyP (mapT (·.2) z) ⟨3, nm, to, pl, old, new⟩ = (mapT (·.2) z, 31)) := by simp [Hid, applyP, HRT.out, getT_map, hg, hasT_map, h3]
      rw [E.out]
      rw [h3] at HG2
      clear E h2 hg hx hr2 hv2 hgot h3
      go_enter Tryz.func9, Tryz.ntmps9
      go_wp2_with fail
      refine HR.out.mono ?_
      rintro e w1 ⟨rfl, hl1⟩
      have hb1 := HBX.out.later hl1
      have HL1 := Lib.hid (HLB.out.trans hl1)
      have y0 := hb1.cell (i := 0) rfl; have y1 := hb1.cell (i := 1) rfl; have y2 := hb1.cell (i := 2) rfl; have y3 := hb1.cell (i := 3) rfl; have y4 := hb1.cell (i := 4) rfl; have y5 := hb1.cell (i := 5) rfl
      clear hl1 hb1
      go_wp2_with fail
      refine (HG.out _ HL1.out).mono ?_
      rintro e w2 ⟨rfl, rfl⟩
      go_wp2_with fail
      refine (HG2.out _ HL1.out).mono ?_
      rintro e w2 ⟨rfl, rfl⟩
      generalize got (getT z to) = gv2
      go_wp2
      go_ret2
      exact same.out _ _ HL1.out

set_option maxRecDepth 100000 in
set_option maxHeartbeats 1000000 in
theorem refApply0 (hx : RefRow w A n z) (hc : n ≤ c) (hn : n ≤ 65536) (hp : PrOk w ⟨⟨0, nm, to, pl, old, new⟩, Ao, no, co, Aw, nw, cw⟩) (hr : rightP ⟨0, nm, to, pl, old, new⟩ = true) (hb : ∀ f ∈ z, f.2.2.length ≤ 65536) :
    Calls Tryz.prog 9 #[.slice A n c, .agg #[.int .i64 0, .string nm, .string to, .int .i64 pl, .slice Ao no co, .slice Aw nw cw]] w (GivesDo (applyP (mapT (·.2) z) ⟨0, nm, to, pl, old, new⟩) w) := by
  have hlb : Later w (w.alloc (.cells #[.int .i64 0, .string nm, .string to, .int .i64 pl, .slice Ao no co, .slice Aw nw cw] 34)) := (Later.refl w).alloc _
  have hri := refRightP_any ⟨⟨0, nm, to, pl, old, new⟩, Ao, no, co, Aw, nw, cw⟩ _ (hp.later hlb)
  unfold prV at hri
  dsimp only at hri
  rw [hr] at hri
  have HR := Lib.hid hri
  have HBX := Lib.hid (BoxAt.made w #[.int .i64 0, .string nm, .string to, .int .i64 pl, .slice Ao no co, .slice Aw nw cw] 34)
  have HLB := Lib.hid hlb; have HX := Lib.hid hx; have HP := Lib.hid hp
  have HG := Lib.hid (fun (w1 : World) (h : Later w w1) => refGet_any A n c z nm w1 (hx.later h) hn)
  have HG2 := Lib.hid (fun (w1 : World) (h : Later w w1) => refGet_any A n c z to w1 (hx.later h) hn)
  have same : Hid (∀ (w1 : World) (k : Int), Later w w1 → GivesDo (mapT (·.2) z, k) w (.returned (.tuple #[.slice A n c, .int .i64 k])) w1) := fun w1 k h => ⟨_, rfl, ⟨A, n, c, z, rfl, hc, hx.later h, rfl⟩, h⟩
  have HRT := Lib.hid hr
  clear hlb hri hp hr
  cases hg : getT z nm with
  | none =>
    have h2 : hasT z nm = false := hasT_no.2 (getT_none.1 hg)
    have hgot : got (getT z nm) = .slice none 0 0 := by rw [hg]; rfl
    have E : Hid (applyP (mapT (·.2) z) ⟨0, nm, to, pl, old, new⟩ = (mapT (·.2) z, 31)) := by simp [Hid, applyP, HRT.out, hunkT, getT_map, hg]
    rw [E.out]
    rw [h2, hgot] at HG
    clear E h2 hg hx hgot
    go_enter Tryz.func9, Tryz.ntmps9
    go_wp2_with fail
    refine HR.out.mono ?_
    rintro e w1 ⟨rfl, hl1⟩
    have hb1 := HBX.out.later hl1
    have HL1 := Lib.hid (HLB.out.trans hl1)
    have y0 := hb1.cell (i := 0) rfl; have y1 := hb1.cell (i := 1) rfl; have y2 := hb1.cell (i := 2) rfl; have y3 := hb1.cell (i := 3) rfl; have y4 := hb1.cell (i := 4) rfl; have y5 := hb1.cell (i := 5) rfl
    clear hl1 hb1
    go_wp2_with fail
    refine (HG.out _ HL1.out).mono ?_
    rintro e w2 ⟨rfl, rfl⟩
    go_wp2_with fail
    refine (HG2.out _ HL1.out).mono ?_
    rintro e w2 ⟨rfl, rfl⟩
    generalize got (getT z to) = gv2
    generalize hasT z to = gb2
    go_wp2_with fail
    refine (refSplice_any none Ao Aw 0 0 no co nw cw [] old new pl w1 Row.none (HP.out.old.later HL1.out) (HP.out.new.later HL1.out) (Nat.le_refl _) (by omega) HP.out.omost HP.out.nmost HP.out.lo HP.out.hi).mono ?_
    rintro e w3 (⟨_, rfl, hl3⟩ | ⟨_, A3, c3, rfl, hc3, hr3, hl3⟩)
    · have HL3 := Lib.hid hl3; clear hl3
      go_wp2
      go_ret2
      exact same.out _ _ (HL1.out.trans HL3.out)
    · have HL3 := Lib.hid hl3; clear hl3 hr3 hc3
      generalize (spliced [] pl.toNat no new).length = q
      go_wp2
      go_ret2
      exact same.out _ _ (HL1.out.trans HL3.out)
  | some x =>
    have h2 : hasT z nm = true := getT_has hg
    obtain ⟨A2, n2, c2, hv2, hnc2, hr2⟩ := hx.reads _ (getT_mem hg)
    have hgot : got (getT z nm) = .slice A2 n2 c2 := by rw [hg]; exact hv2
    have hn2 : n2 ≤ 65536 := by rw [← hr2.len]; exact hb _ (getT_mem hg)
    have hol : old.length = no := HP.out.old.len
    have HR2 := Lib.hid hr2
    rw [h2, hgot] at HG
    cases hst : standsB x.2 pl old
    · have E : Hid (applyP (mapT (·.2) z) ⟨0, nm, to, pl, old, new⟩ = (mapT (·.2) z, 31)) := by simp [Hid, applyP, HRT.out, hunkT, getT_map, hg, hst]
      rw [E.out]
      clear E h2 hg hx hgot hr2 hv2
      go_enter Tryz.func9, Tryz.ntmps9
      go_wp2_with fail
      refine HR.out.mono ?_
      rintro e w1 ⟨rfl, hl1⟩
      have hb1 := HBX.out.later hl1
      have HL1 := Lib.hid (HLB.out.trans hl1)
      have y0 := hb1.cell (i := 0) rfl; have y1 := hb1.cell (i := 1) rfl; have y2 := hb1.cell (i := 2) rfl; have y3 := hb1.cell (i := 3) rfl; have y4 := hb1.cell (i := 4) rfl; have y5 := hb1.cell (i := 5) rfl
      clear hl1 hb1
      go_wp2_with fail
      refine (HG.out _ HL1.out).mono ?_
      rintro e w2 ⟨rfl, rfl⟩
      go_wp2_with fail
      refine (HG2.out _ HL1.out).mono ?_
      rintro e w2 ⟨rfl, rfl⟩
      generalize got (getT z to) = gv2
      generalize hasT z to = gb2
      go_wp2_with fail
      refine (refSplice_any A2 Ao Aw n2 c2 no co nw cw x.2 old new pl w1 (HR2.out.later HL1.out) (HP.out.old.later HL1.out) (HP.out.new.later HL1.out) hnc2 hn2 HP.out.omost HP.out.nmost HP.out.lo HP.out.hi).mono ?_
      rintro e w3 (⟨_, rfl, hl3⟩ | ⟨hs3, _⟩)
      · have HL3 := Lib.hid hl3; clear hl3
        go_wp2
        go_ret2
        exact same.out _ _ (HL1.out.trans HL3.out)
      · rw [hst] at hs3; cases hs3
    · have E : Hid (applyP (mapT (·.2) z) ⟨0, nm, to, pl, old, new⟩ = (withT (mapT (·.2) z) nm (spliced x.2 pl.toNat no new), 0)) := by simp [Hid, applyP, HRT.out, hunkT, getT_map, hg, hst, hol]
      rw [E.out]
      clear E h2 hg hx hgot hr2 hv2
      go_enter Tryz.func9, Tryz.ntmps9
      go_wp2_with fail
      refine HR.out.mono ?_
      rintro e w1 ⟨rfl, hl1⟩
      have hb1 := HBX.out.later hl1
      have HL1 := Lib.hid (HLB.out.trans hl1)
      have y0 := hb1.cell (i := 0) rfl; have y1 := hb1.cell (i := 1) rfl; have y2 := hb1.cell (i := 2) rfl; have y3 := hb1.cell (i := 3) rfl; have y4 := hb1.cell (i := 4) rfl; have y5 := hb1.cell (i := 5) rfl
      clear hl1 hb1
      go_wp2_with fail
      refine (HG.out _ HL1.out).mono ?_
      rintro e w2 ⟨rfl, rfl⟩
      go_wp2_with fail
      refine (HG2.out _ HL1.out).mono ?_
      rintro e w2 ⟨rfl, rfl⟩
      generalize got (getT z to) = gv2
      generalize hasT z to = gb2
      go_wp2_with fail
      refine (refSplice_any A2 Ao Aw n2 c2 no co nw cw x.2 old new pl w1 (HR2.out.later HL1.out) (HP.out.old.later HL1.out) (HP.out.new.later HL1.out) hnc2 hn2 HP.out.omost HP.out.nmost HP.out.lo HP.out.hi).mono ?_
      rintro e w3 (⟨hs3, _⟩ | ⟨_, A3, c3, rfl, hc3, hr3, hl3⟩)
      · rw [hst] at hs3; cases hs3
      have e1 := hl3.cell y1
      have HL3 := Lib.hid (HL1.out.trans hl3); have HR3 := Lib.hid hr3
      have HW := Lib.hid (refWith_any A n c z nm A3 (spliced x.2 pl.toNat no new).length c3 (spliced x.2 pl.toNat no new) w3 (HX.out.later HL3.out) ⟨A3, _, c3, rfl, hc3, hr3⟩ hn)
      clear hl3 hr3 hc3 y0 y1 y2 y3 y4 y5 hst
      go_wp2_with fail
      refine HW.out.mono ?_
      rintro e w4 ⟨A4, n4, c4, rfl, hc4, hr4, hl4⟩
      have HR4 := Lib.hid hr4; have HL4 := Lib.hid hl4; clear hr4 hl4
      go_wp2
      go_ret2
      exact ⟨_, rfl, ⟨A4, n4, c4, _, rfl, hc4, HR4.out, (withT_map (fun x : Held => x.2) z nm (_, spliced x.2 pl.toNat no new)).symm⟩, HL3.out.trans HL4.out⟩
end

set_option maxRecDepth 100000 in
set_option maxHeartbeats 400000 in
theorem refApply_any (v : Value) (t : Tr) (x : PrC) (w : World) (ht : RefAt w v t) (hx : PrOk w x) (hl : t.length ≤ 65536) (hb : ∀ f ∈ t, f.2.length ≤ 65536) :
    Calls Tryz.prog 9 #[v, prV x] w (GivesDo (applyP t x.v) w) := by
  obtain ⟨A, n, c, z, rfl, hc, hr, rfl⟩ := ht
  have hn : n ≤ 65536 := by rw [mapT_length, hr.len] at hl; exact hl
  have hbz : ∀ f ∈ z, f.2.2.length ≤ 65536 := fun f hf => hb (f.1, f.2.2) (by simp only [mapT, List.mem_map]; exact ⟨_, hf, rfl⟩)
  cases hri : rightP x.v
  · have hlb : Later w (w.alloc (.cells #[.int .i64 x.v.kind, .string x.v.name, .string x.v.to, .int .i64 x.v.place, .slice x.A x.n x.c, .slice x.B x.m x.d] 34)) := (Later.refl w).alloc _
    have hrr := refRightP_any x _ (hx.later hlb)
    rw [hri] at hrr
    rw [apply_wrong hri]
    have HR := Lib.hid hrr; have HLB := Lib.hid hlb; have HX := Lib.hid hr
    unfold prV at HR ⊢
    clear hrr hlb hri hx
    go_enter Tryz.func9, Tryz.ntmps9
    go_wp2_with fail
    refine HR.out.mono ?_
    rintro e w1 ⟨rfl, hl1⟩
    have HL1 := Lib.hid (HLB.out.trans hl1); clear hl1
    go_wp2
    go_ret2
    exact ⟨_, rfl, ⟨A, n, c, z, rfl, hc, HX.out.later HL1.out, rfl⟩, HL1.out⟩
  · obtain ⟨⟨kd, nm, to, pl, old, new⟩, Ao, no, co, Aw, nw, cw⟩ := x
    rcases (right_parts hri).2.1 with e | e | e | e
    · dsimp only at e; subst e
      exact refApply0 A n c z nm to pl old new Ao no co Aw nw cw w hr hc hn hx hri hbz
    · dsimp only at e; subst e
      exact refApply1 A n c z nm to pl old new Ao no co Aw nw cw w hr hc hn hx hri
    · dsimp only at e; subst e
      exact refApply2 A n c z nm to pl old new Ao no co Aw nw cw w hr hc hn hx hri hbz
    · dsimp only at e; subst e
      exact refApply3 A n c z nm to pl old new Ao no co Aw nw cw w hr hc hn hx hri

end Go.Proofs.YtboffgmaohcpfaaGreatDoor

/-
  Ranging over the map of a tree: which files have come; the step as a law for the walk.
-/
namespace Go.Proofs.YtboffgmaohcpfaaGreatDoor
open Go.RowKit Go.Maps

section
variable {α : Type}
/-- The files that have come. -/
def seen (left : Lit → Bool) (t : Fl α) : Fl α := t.filter fun f => !left (.string (bytes f.1))
/-- What is left behind the file nm. -/
def but (left : Lit → Bool) (nm : ByteArray) : Lit → Bool := fun k => left k && !k.sameKey (.string (bytes nm))

theorem mem_seen {left : Lit → Bool} {t : Fl α} {f : ByteArray × α} : f ∈ seen left t ↔ f ∈ t ∧ left (.string (bytes f.1)) = false := by simp [seen]
theorem but_eq (left : Lit → Bool) (nm n : ByteArray) : but left nm (.string (bytes n)) = (left (.string (bytes n)) && decide (n ≠ nm)) := by
  simp only [but, Lit.sameKey]
  by_cases h : n = nm
  · simp [h]
  · have : bytes n ≠ bytes nm := fun e => h (bytes_inj e)
    simp [h, this]
theorem seen_rise {left : Lit → Bool} {t : Fl α} (h : Rising t) : Rising (seen left t) := List.Pairwise.filter _ h
theorem seen_step {left : Lit → Bool} {t : Fl α} (h : Rising t) {nm : ByteArray} {x : α} (hm : (nm, x) ∈ t) : seen (but left nm) t = withT (seen left t) nm x := by
  refine rising_ext (seen_rise h) (rising_with (seen_rise h) _ _) fun f => ?_
  rw [mem_with, mem_seen, mem_seen, but_eq]
  constructor
  · rintro ⟨hf, hl⟩
    by_cases e : f.1 = nm
    · exact .inl (rising_one h hf hm e)
    · simp [e] at hl; exact .inr ⟨⟨hf, hl⟩, e⟩
  · rintro (rfl | ⟨⟨hf, hl⟩, e⟩)
    · exact ⟨hm, by simp⟩
    · exact ⟨hf, by simp [hl]⟩
theorem seen_end {left : Lit → Bool} {t : Fl α} (h : ∀ kl, left kl = false) : seen left t = t := List.filter_eq_self.2 fun f _ => by simp [h]
theorem seen_map {β : Type} (left : Lit → Bool) (g : α → β) (t : Fl α) : seen left (mapT g t) = mapT g (seen left t) := by
  simp [seen, mapT, List.filter_map, Function.comp_def]
theorem seen_length (left : Lit → Bool) (t : Fl α) : (seen left t).length ≤ t.length := List.length_filter_le _ _
theorem seen_has {left : Lit → Bool} {t : Fl α} {nm : ByteArray} (h : left (.string (bytes nm)) = true) : hasT (seen left t) nm = false := hasT_no.2 fun f hf e => by
  have := (mem_seen.1 hf).2
  rw [e, h] at this; cases this
end

theorem seen_start (z : Fl Held) : seen (Maps.has (datum (mapT (·.1) z))) z = [] := List.filter_eq_nil_iff.2 fun f hf => by
  rw [has_datum, hasT_map, hasT_iff.2 ⟨f, hf, rfl⟩]; simp

/-- How many lines all files have. -/
def linesT (t : Tr) : Nat := (t.map fun f => f.2.length).sum
theorem lines_parts (n : ByteArray) : ∀ u : Tr, (∀ f ∈ u, f.1 ≠ n) → linesT (u.filter fun f => ltN f.1 n) + linesT (u.filter fun f => ltN n f.1) = linesT u
  | [], _ => rfl
  | f :: u, h => by
    have ih := lines_parts n u fun g hg => h g (List.mem_cons_of_mem _ hg)
    simp only [linesT] at ih ⊢
    rcases ltN_total (h f List.mem_cons_self) with k | k
    · simp [k, ltN_asymm k]; omega
    · simp [k, ltN_asymm k]; omega
theorem lines_with {t : Tr} {n : ByteArray} (h : hasT t n = false) (l : List ByteArray) : linesT (withT t n l) = linesT t + l.length := by
  have h1 := lines_parts n t (hasT_no.1 h)
  unfold withT
  rw [without_id h]
  simp only [linesT, List.map_append, List.sum_append, List.map_cons, List.sum_cons] at h1 ⊢
  omega
theorem lines_seen (left : Lit → Bool) : ∀ t : Tr, linesT (seen left t) ≤ linesT t
  | [] => Nat.le_refl _
  | f :: t => by
    have ih := lines_seen left t
    simp only [linesT, seen, List.filter_cons, List.map_cons, List.sum_cons] at ih ⊢
    split
    · simp only [List.map_cons, List.sum_cons]; omega
    · omega

/-- The range under way over the files z; its iterator is block r. -/
structure Ranging (w : World) (B r : Nat) (z : Fl Held) (left : Lit → Bool) (cnt : Nat) : Prop where
  at_ : w.ranges Tryz.prog 9 raw B r z.length (datum (mapT (·.1) z)) left cnt
  rise : Rising z
  reads : ∀ f ∈ z, Reads w f.2.1 f.2.2

theorem iter_cell {w : World} {B r n cnt : Nat} {D : DataW Value} {left : Lit → Bool} (h : w.ranges Tryz.prog 9 raw B r n D left cnt) {a : Addr} {u : Value} (hc : w.cell? a = some u) : a.block ≠ r := by
  obtain ⟨es, clock, since, sn, c0, _, _, _, _, hr, _⟩ := h
  rintro rfl
  simp [World.cell?, hr] at hc

theorem Ranging.files {w : World} {B r cnt : Nat} {z : Fl Held} {left : Lit → Bool} (h : Ranging w B r z left cnt) : FA w B z := ⟨h.at_.owns, h.rise, h.reads⟩
theorem Ranging.later {w w' : World} {B r cnt : Nat} {z : Fl Held} {left : Lit → Bool} (h : Ranging w B r z left cnt) (hl : Later w w') : Ranging w' B r z left cnt :=
  ⟨h.at_.kept (row := none) ⟨hl.os, hl.tape, hl.output, hl.size, fun i hi _ => hl.block i hi⟩ (by simp) (by simp), h.rise, fun f hf => (h.reads f hf).later hl⟩
theorem Ranging.other {w w' : World} {B B' r cnt : Nat} {z : Fl Held} {left : Lit → Bool} (h : Ranging w B r z left cnt) (hg : Turned B' w w') (hne : B ≠ B') {es : Array MapEntry} {c : Nat} (hm : w.heap[B']? = some (.map es c)) : Ranging w' B r z left cnt := by
  refine ⟨h.at_.kept hg (by simpa using hne) ?_, h.rise, fun f hf => (h.reads f hf).turned hg hm⟩
  obtain ⟨es', clock, since, sn, c0, _, _, _, _, hr, _⟩ := h.at_
  intro e
  cases e
  rw [hm] at hr; cases hr

section
variable {w : World} {ops : Array Oper} {rest : List Oper} {o : Oper} {a : Act} {Q : Exit → Act → World → Prop}

/-- 'range' over the files. -/
theorem wpList_range_files (hg : o.guard = none) (m : Operand) (hop : o.op = Op.range 70 m) (B : Nat) (z : Fl Held) (hm : a.eval m = .map (some B)) (h : FA w B z)
    (hK : ∀ w', Ranging w' B w.heap.size z (Maps.has (datum (mapT (·.1) z))) z.length → Later w w' → wpList Tryz.prog ops Q rest (a.put o.dst (.pointer (some ⟨w.heap.size, 0, none⟩))) w') :
    wpList Tryz.prog ops Q (o :: rest) a w := by
  refine wpList_range_own _ hg m _ hop 9 32 keyed9 Tryz.underlying70 raw B z.length _ hm h.own fun w' h1 h2 h3 => ?_
  have hl : Later w w' := ⟨h2.os, h2.tape, h2.output, h2.size, fun i hi => h2.block i hi (by simp)⟩
  rw [size_datum, mapT_length] at h1
  exact hK w' ⟨h1, h.rise, fun f hf => (h.reads f hf).later hl⟩ hl

/-- The step: nothing is left, or a file has come. -/
theorem wpList_next_files (hg : o.guard = none) (it : Operand) (hop : o.op = Op.next it false) (B r : Nat) (z : Fl Held) (left : Lit → Bool) (cnt : Nat) (hit : a.eval it = .pointer (some ⟨r, 0, none⟩)) (h : Ranging w B r z left cnt)
    (hDone : (∀ kl, left kl = false) → wpList Tryz.prog ops Q rest (a.put o.dst (.tuple #[.bool false])) w)
    (hMore : ∀ (nm : ByteArray) (A : Option Addr) (m c : Nat) (l : List ByteArray) (w' : World) (cnt' : Nat), (nm, (Value.slice A m c, l)) ∈ z → nm.size ≤ maxLen → m ≤ c → Row w' A m l → left (.string (bytes nm)) = true → Ranging w' B r z (but left nm) cnt' → cnt' < cnt → Turned r w w' →
      (Instr.entry (.pointer (some ⟨r, 0, none⟩))).run Tryz.prog w' = .ok (.tuple #[.string nm, .slice A m c]) w' → wpList Tryz.prog ops Q rest (a.put o.dst (.tuple #[.bool true, .string nm, .slice A m c])) w') :
    wpList Tryz.prog ops Q (o :: rest) a w := by
  refine wpList_plain hg fun K' hK' => ?_
  unfold Oper.wp
  rcases h.at_.next keyed9 o.type with ⟨h0, hl, hrun⟩ | ⟨key, v, kl, y, w', cnt', hkey, hlk, hv, hat, hrun, hrg, hlt, hgr, hsz, hen⟩
  · simp [execOp, hop, hit, hrun, Result.andThen]
    exact hK' _ _ (hDone hl)
  · obtain ⟨s, rfl, rfl, hs⟩ : ∃ s : ByteArray, key = .string s ∧ kl = .string (bytes s) ∧ s.size ≤ maxLen := by
      cases key <;> simp [keyOf, Tryz.underlying9, mapKey] at hkey
      rename_i s
      exact ⟨s, rfl, hkey.2.symm, hkey.1⟩
    obtain ⟨A, m, c, rfl, rfl⟩ := raw_inv hv
    have hz := hat .nil
    rw [atKey_datum, getT_map] at hz
    cases hg2 : getT z s with
    | none => rw [hg2] at hz; simp at hz
    | some x =>
      rw [hg2] at hz
      simp only [Option.map_some, DataW.held.injEq] at hz
      obtain ⟨v, l⟩ := x
      simp only at hz
      subst hz
      have hmem := getT_mem hg2
      obtain ⟨A', m', c', e, hmc, hrow⟩ := h.reads _ hmem
      simp only [Value.slice.injEq] at e
      obtain ⟨rfl, rfl, rfl⟩ := e
      have keep : ∀ {A : Option Addr} {n : Nat} {l : List ByteArray}, Row w A n l → Row w' A n l := fun {A n l} hr =>
        ⟨hr.1, fun hn => by
          obtain ⟨b, o, e, hc⟩ := hr.2 hn
          exact ⟨b, o, e, fun j s hs => Turned.cell (B := r) hgr (hc j s hs) (iter_cell h.at_ (hc j s hs))⟩⟩
      simp [execOp, hop, hit, hrun, Result.andThen]
      refine hK' _ _ (hMore s A m c l w' cnt' hmem hs hmc (keep hrow) hlk ⟨hrg, h.rise, fun f hf => ?_⟩ hlt hgr hen)
      obtain ⟨A1, m1, c1, e1, h1, h2⟩ := h.reads f hf
      exact ⟨A1, m1, c1, e1, h1, keep h2⟩
end

end Go.Proofs.YtboffgmaohcpfaaGreatDoor

/-
  What tree's Copy comes to, as a call.
-/
namespace Go.Proofs.YtboffgmaohcpfaaGreatDoor
open Go.RowKit Go.Maps

set_option maxRecDepth 100000 in
set_option maxHeartbeats 800000 in
theorem copy_any (p B : Nat) (t : Tr) (w : World) (ht : TreeAt w p B t) (hl : t.length ≤ 65536) (hb : ∀ f ∈ t, f.2.length ≤ 65536) :
    Calls Tryz.prog 49 #[.pointer (some ⟨p, 0, none⟩)] w (NewTree t w) := by
  obtain ⟨hc, z, hz, rfl⟩ := ht
  rw [mapT_length] at hl
  have HZ := Lib.hid hz
  have hBlt := hz.lt
  have HB := Lib.hid hb; clear hz hb
  go_enter Tryz.func49, Tryz.ntmps49
  go_wp2_with fail
  refine (new_any w).mono ?_
  rintro e w1 ⟨p1, B1, rfl, ht1, hp1, hB1, hl1⟩
  have hc1 := hl1.cell hc
  have hcell1 := ht1.cell
  have hne1 := ht1.ne
  have hp1lt := ht1.lt
  have HT1 := Lib.hid ht1; have HL1 := Lib.hid hl1; clear ht1
  have hle1 := hl1.le
  clear hl1
  go_wp2_with (at_range; refine wpList_range_files rfl _ rfl B z rfl (HZ.out.later HL1.out) ?_; intro w2 hrg2 hl2; have HR2 := Lib.hid hrg2; have HL2 := Lib.hid hl2; clear hrg2 hl2)
  go_frame
  go_loopg [] (z.length + 1) (fun g wr => ∃ (left : Lit → Bool) (cnt : Nat), cnt ≤ g ∧ Later w wr ∧ Hid (TreeAt wr p1 B1 (seen left (mapT (·.2) z))) ∧ Hid (Ranging wr B w1.heap.size z left cnt))
  case atStart =>
    refine ⟨_, _, Nat.le_succ _, HL1.out.trans HL2.out, ?_, HR2.out⟩
    have := HT1.out.later HL2.out
    rw [seen_map, seen_start]
    exact this
  case round =>
    obtain ⟨left, cnt, hcg, hwr, hct, hrg⟩ := hrel
    have hcellr := hct.out.cell
    have hle := hwr.le
    have HW := Lib.hid hwr; clear hwr
    go_wp2_with (at_next; refine wpList_next_files rfl _ rfl B w1.heap.size z left cnt rfl hrg.out ?_ ?_)
    · intro hdone
      have E : Hid (seen left (mapT (·.2) z) = mapT (·.2) z) := by rw [seen_end hdone]; rfl
      rw [E.out] at hct
      clear hdone E
      go_wp2
      go_ret
      exact ⟨p1, B1, rfl, hct.out, hp1, hB1, HW.out⟩
    · intro nm A m c l w' cnt' hmem hnm hmc hrow hlk hrg' hlt hturn hen
      have hmem2 : (nm, l) ∈ mapT (·.2) z := by simp only [mapT, List.mem_map]; exact ⟨_, hmem, rfl⟩
      have hm : m ≤ 65536 := by rw [← hrow.len]; exact HB.out _ hmem2
      have HS := Lib.hid (seen_step (left := left) (rising_map.2 hrg'.rise) hmem2)
      have hct' : TreeAt w' p1 B1 (seen left (mapT (·.2) z)) := by
        obtain ⟨h1, z1, h2, h3⟩ := hct.out
        have hit : B1 ≠ w1.heap.size := by have := HT1.out.files.lt; omega
        exact ⟨hturn.cell h1 (by show p1 ≠ w1.heap.size; omega), z1, ⟨h2.own.kept hturn (by simpa using hit), h2.rise, fun f hf => by
          obtain ⟨A2, m2, c2, e2, h4, h5⟩ := h2.reads f hf
          exact ⟨A2, m2, c2, e2, h4, h5.1, fun hn => by
            obtain ⟨b, o, e, hcc⟩ := h5.2 hn
            exact ⟨b, o, e, fun j s hs => hturn.cell (hcc j s hs) (iter_cell hrg.out.at_ (hcc j s hs))⟩⟩⟩, h3⟩
      have hcell' := hct'.cell
      have HCT := Lib.hid hct'
      have HRW := Lib.hid hrow
      have HRG := Lib.hid hrg'; have HT := Lib.hid hturn
      have hlw : Later w w' := HW.out.turn hturn hle1
      have HLW := Lib.hid hlw
      have HNM := Lib.hid hnm
      have hzl : Hid ((seen left z).length < maxLen) := by have := seen_length left z; simp only [Hid, maxLen]; omega
      clear hct' hrow hmem hlk hrg' hturn hmem2 hlw hct hrg hnm
      go_wp2_with fail
      go_region_held3 (fun w' => w'.cell? ⟨p1, 0, none⟩ = some (.map (some B1))) (go_keep)
        (first
          | (go_at_call 34; refine (clone_any A m c l _ (HRW.out.later (by first | exact Later.refl _ | exact (Later.refl _).drew | exact (Later.refl _).drewN _)) hm).mono ?_; rintro e w3 ⟨v3, rfl, hown⟩; have HL3 : Hid (Later w' w3) := Later.trans (by first | exact Later.refl _ | exact (Later.refl _).drew | exact (Later.refl _).drewN _) hown.later; have hc3 := HL3.out.cell hcell'; obtain ⟨A3, c3, rfl, hcc, hr3⟩ := hown.row; have HR := Lib.hid hr3; have H3 := HCT.out.later HL3.out; obtain ⟨-, z3, hz3, e3⟩ := H3; have hzl3 : z3.length < maxLen := (by have h9 := hzl.out; rw [← mapT_length (fun x : Held => x.2) z3, e3, seen_map, mapT_length]; exact h9); obtain ⟨w4, hrun4, hown4, hturn4⟩ := hz3.own.store keyed9 Tryz.underlying70 hzl3 (key9 HNM.out) (raw_mk A3 l.length c3); have HO4 := Lib.hid (hz3.put hown4 hturn4 ⟨A3, _, c3, rfl, hcc, hr3⟩); have HU4 := Lib.hid (Turned.of_map hturn4); have hc4 := HU4.out.cell hc3 hne1; have HM3 := Lib.hid hz3.map; have HE3 := Lib.hid e3; clear hown hr3 hown4 hturn4 hz3 hzl3 e3))
      go_wp2
      go_roundg cnt'
      case measure => omega
      case rel =>
        obtain ⟨mes, mcl, hmm⟩ := HM3.out
        refine ⟨but left nm, cnt', Nat.le_refl _, (HLW.out.trans HL3.out).turn HU4.out hB1, ?_, (HRG.out.later HL3.out).other HU4.out (by omega) hmm⟩
        refine (HCT.out.later HL3.out).to HU4.out ⟨_, HO4.out, ?_⟩
        rw [HS.out, ← HE3.out]
        exact (withT_map (fun x : Held => x.2) z3 nm (_, l)).symm

end Go.Proofs.YtboffgmaohcpfaaGreatDoor
