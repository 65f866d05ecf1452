import Derived.Test.YtejkgkgjgojlkaaGreatDoorPk10
import Derived.Test.YtejkgkgjgojlkaaGreatDoorPk7
import Derived.Test.YtejkgkgjgojlkaaGreatDoorPk5
import Derived.Test.YtejkgkgjgojlkaaGreatDoorPk26
import Derived.Deep.RegionHeld3
import Derived.Test.YtejkgkgjgojlkaaGreatDoorPk25
import Derived.Deep.LoopGhost
import Derived.Deep.QuietTactic
import Derived.BigQuiet
import Derived.Lib.Hide
import Derived.Test.YtejkgkgjgojlkaaGreatDoorPk24
import Derived.Test.YtejkgkgjgojlkaaGreatDoorPk4
import Derived.Test.YtejkgkgjgojlkaaGreatDoorPk9

/-
  What the document's Apply comes to, as a call.
-/
namespace Go.Proofs.YtejkgkgjgojlkaaGreatDoor
open Go.RowKit Go.Maps

section
variable (A : Option Addr) (n c : Nat) (z : Fl Held) (nm to : ByteArray) (pl : Int) (old new : List ByteArray) (Ao : Option Addr) (no co : Nat) (Aw : Option Addr) (nw cw : Nat) (w : World)

set_option maxRecDepth 100000 in
set_option maxHeartbeats 1000000 in
theorem refApply1 (hx : RefRow w A n z) (hc : n ≤ c) (hn : n ≤ 65536) (hp : PrOk w ⟨⟨1, nm, to, pl, old, new⟩, Ao, no, co, Aw, nw, cw⟩) (hr : rightP ⟨1, nm, to, pl, old, new⟩ = true) :
    Calls Tryz.prog 64 #[.slice A n c, .agg #[.int .i64 1, .string nm, .string to, .int .i64 pl, .slice Ao no co, .slice Aw nw cw]] w (GivesDo (applyP (mapT (·.2) z) ⟨1, nm, to, pl, old, new⟩) w) := by
  have hlb : Later w (w.alloc (.cells #[.int .i64 1, .string nm, .string to, .int .i64 pl, .slice Ao no co, .slice Aw nw cw] 72)) := (Later.refl w).alloc _
  have hri := refRightP_any ⟨⟨1, nm, to, pl, old, new⟩, Ao, no, co, Aw, nw, cw⟩ _ (hp.later hlb)
  unfold prV at hri
  dsimp only at hri
  rw [hr] at hri
  have HR := Lib.hid hri
  have HBX := Lib.hid (BoxAt.made w #[.int .i64 1, .string nm, .string to, .int .i64 pl, .slice Ao no co, .slice Aw nw cw] 72)
  have HLB := Lib.hid hlb; have HX := Lib.hid hx; have HP := Lib.hid hp
  have HG := Lib.hid (fun (w1 : World) (h : Later w w1) => refGet_any A n c z nm w1 (hx.later h) hn)
  have HG2 := Lib.hid (fun (w1 : World) (h : Later w w1) => refGet_any A n c z to w1 (hx.later h) hn)
  have same : Hid (∀ (w1 : World) (k : Int), Later w w1 → GivesDo (mapT (·.2) z, k) w (.returned (.tuple #[.slice A n c, .int .i64 k])) w1) := fun w1 k h => ⟨_, rfl, ⟨A, n, c, z, rfl, hc, hx.later h, rfl⟩, h⟩
  have HRT := Lib.hid hr
  clear hlb hri hp hr
  cases h1 : hasT z nm
  · have E : Hid (applyP (mapT (·.2) z) ⟨1, nm, to, pl, old, new⟩ = (withT (mapT (·.2) z) nm [], 0)) := by simp [Hid, applyP, HRT.out, hasT_map, h1]
    rw [E.out]
    rw [h1] at HG
    have HW := Lib.hid (fun (w1 : World) (h : Later w w1) => refWith_any A n c z nm none 0 0 [] w1 (hx.later h) (Reads.nil w1) hn)
    clear E h1 hx
    go_enter Tryz.func64, Tryz.ntmps64
    go_wp2_with fail
    refine HR.out.mono ?_
    rintro e w1 ⟨rfl, hl1⟩
    have hb1 := HBX.out.later hl1
    have HL1 := Lib.hid (HLB.out.trans hl1)
    have y0 := hb1.cell (i := 0) rfl; have y1 := hb1.cell (i := 1) rfl; have y2 := hb1.cell (i := 2) rfl; have y3 := hb1.cell (i := 3) rfl; have y4 := hb1.cell (i := 4) rfl; have y5 := hb1.cell (i := 5) rfl
    clear hl1 hb1
    go_wp2_with fail
    refine (HG.out _ HL1.out).mono ?_
    rintro e w2 ⟨rfl, rfl⟩
    generalize got (getT z nm) = gv
    go_wp2_with fail
    refine (HG2.out _ HL1.out).mono ?_
    rintro e w2 ⟨rfl, rfl⟩
    generalize got (getT z to) = gv2
    generalize hasT z to = gb2
    go_wp2_with fail
    refine (HW.out _ HL1.out).mono ?_
    rintro e w3 ⟨A3, n3, c3, rfl, hc3, hr3, hl3⟩
    have HR3 := Lib.hid hr3; have HL3 := Lib.hid hl3; clear hr3 hl3
    go_wp2
    go_ret2
    exact ⟨_, rfl, ⟨A3, n3, c3, _, rfl, hc3, HR3.out, (withT_map (fun x : Held => x.2) z nm (_, [])).symm⟩, HL1.out.trans HL3.out⟩
  · have E : Hid (applyP (mapT (·.2) z) ⟨1, nm, to, pl, old, new⟩ = (mapT (·.2) z, 31)) := by simp [Hid, applyP, HRT.out, hasT_map, h1]
    rw [E.out]
    rw [h1] at HG
    clear E h1 hx
    go_enter Tryz.func64, Tryz.ntmps64
    go_wp2_with fail
    refine HR.out.mono ?_
    rintro e w1 ⟨rfl, hl1⟩
    have hb1 := HBX.out.later hl1
    have HL1 := Lib.hid (HLB.out.trans hl1)
    have y0 := hb1.cell (i := 0) rfl; have y1 := hb1.cell (i := 1) rfl; have y2 := hb1.cell (i := 2) rfl; have y3 := hb1.cell (i := 3) rfl; have y4 := hb1.cell (i := 4) rfl; have y5 := hb1.cell (i := 5) rfl
    clear hl1 hb1
    go_wp2_with fail
    refine (HG.out _ HL1.out).mono ?_
    rintro e w2 ⟨rfl, rfl⟩
    generalize got (getT z nm) = gv
    go_wp2_with fail
    refine (HG2.out _ HL1.out).mono ?_
    rintro e w2 ⟨rfl, rfl⟩
    generalize got (getT z to) = gv2
    generalize hasT z to = gb2
    go_wp2
    go_ret2
    exact same.out _ _ HL1.out

set_option maxRecDepth 100000 in
set_option maxHeartbeats 1000000 in
theorem refApply2 (hx : RefRow w A n z) (hc : n ≤ c) (hn : n ≤ 65536) (hp : PrOk w ⟨⟨2, nm, to, pl, old, new⟩, Ao, no, co, Aw, nw, cw⟩) (hr : rightP ⟨2, nm, to, pl, old, new⟩ = true) (hb : ∀ f ∈ z, f.2.2.length ≤ 65536) :
    Calls Tryz.prog 64 #[.slice A n c, .agg #[.int .i64 2, .string nm, .string to, .int .i64 pl, .slice Ao no co, .slice Aw nw cw]] w (GivesDo (applyP (mapT (·.2) z) ⟨2, nm, to, pl, old, new⟩) w) := by
  have hlb : Later w (w.alloc (.cells #[.int .i64 2, .string nm, .string to, .int .i64 pl, .slice Ao no co, .slice Aw nw cw] 72)) := (Later.refl w).alloc _
  have hri := refRightP_any ⟨⟨2, nm, to, pl, old, new⟩, Ao, no, co, Aw, nw, cw⟩ _ (hp.later hlb)
  unfold prV at hri
  dsimp only at hri
  rw [hr] at hri
  have HR := Lib.hid hri
  have HBX := Lib.hid (BoxAt.made w #[.int .i64 2, .string nm, .string to, .int .i64 pl, .slice Ao no co, .slice Aw nw cw] 72)
  have HLB := Lib.hid hlb; have HX := Lib.hid hx; have HP := Lib.hid hp
  have HG := Lib.hid (fun (w1 : World) (h : Later w w1) => refGet_any A n c z nm w1 (hx.later h) hn)
  have HG2 := Lib.hid (fun (w1 : World) (h : Later w w1) => refGet_any A n c z to w1 (hx.later h) hn)
  have same : Hid (∀ (w1 : World) (k : Int), Later w w1 → GivesDo (mapT (·.2) z, k) w (.returned (.tuple #[.slice A n c, .int .i64 k])) w1) := fun w1 k h => ⟨_, rfl, ⟨A, n, c, z, rfl, hc, hx.later h, rfl⟩, h⟩
  have HRT := Lib.hid hr
  clear hlb hri hp hr
  cases hg : getT z nm with
  | none =>
    have h2 : hasT z nm = false := hasT_no.2 (getT_none.1 hg)
    have E : Hid (applyP (mapT (·.2) z) ⟨2, nm, to, pl, old, new⟩ = (mapT (·.2) z, 31)) := by simp [Hid, applyP, HRT.out, getT_map, hg]
    rw [E.out]
    rw [h2] at HG
    clear E h2 hg hx
    go_enter Tryz.func64, Tryz.ntmps64
    go_wp2_with fail
    refine HR.out.mono ?_
    rintro e w1 ⟨rfl, hl1⟩
    have hb1 := HBX.out.later hl1
    have HL1 := Lib.hid (HLB.out.trans hl1)
    have y0 := hb1.cell (i := 0) rfl; have y1 := hb1.cell (i := 1) rfl; have y2 := hb1.cell (i := 2) rfl; have y3 := hb1.cell (i := 3) rfl; have y4 := hb1.cell (i := 4) rfl; have y5 := hb1.cell (i := 5) rfl
    clear hl1 hb1
    go_wp2_with fail
    refine (HG.out _ HL1.out).mono ?_
    rintro e w2 ⟨rfl, rfl⟩
    generalize got (getT z nm) = gv
    go_wp2_with fail
    refine (HG2.out _ HL1.out).mono ?_
    rintro e w2 ⟨rfl, rfl⟩
    generalize got (getT z to) = gv2
    generalize hasT z to = gb2
    go_wp2
    go_ret2
    exact same.out _ _ HL1.out
  | some x =>
    have h2 : hasT z nm = true := getT_has hg
    obtain ⟨A2, n2, c2, hv2, hnc2, hr2⟩ := hx.reads _ (getT_mem hg)
    have hgot : got (getT z nm) = .slice A2 n2 c2 := by rw [hg]; exact hv2
    have hn2 : n2 ≤ 65536 := by rw [← hr2.len]; exact hb _ (getT_mem hg)
    rw [h2, hgot] at HG
    by_cases h0 : n2 = 0
    · have hl0 : x.2.length = 0 := hr2.len.trans h0
      have E : Hid (applyP (mapT (·.2) z) ⟨2, nm, to, pl, old, new⟩ = (withoutT (mapT (·.2) z) nm, 0)) := by simp [Hid, applyP, HRT.out, getT_map, hg, hl0]
      rw [E.out]
      have HW := Lib.hid (fun (w1 : World) (h : Later w w1) => refWithout_any A n c z nm w1 (hx.later h) hn)
      subst h0
      clear E h2 hg hx hr2 hv2 hgot hl0
      go_enter Tryz.func64, Tryz.ntmps64
      go_wp2_with fail
      refine HR.out.mono ?_
      rintro e w1 ⟨rfl, hl1⟩
      have hb1 := HBX.out.later hl1
      have HL1 := Lib.hid (HLB.out.trans hl1)
      have y0 := hb1.cell (i := 0) rfl; have y1 := hb1.cell (i := 1) rfl; have y2 := hb1.cell (i := 2) rfl; have y3 := hb1.cell (i := 3) rfl; have y4 := hb1.cell (i := 4) rfl; have y5 := hb1.cell (i := 5) rfl
      clear hl1 hb1
      go_wp2_with fail
      refine (HG.out _ HL1.out).mono ?_
      rintro e w2 ⟨rfl, rfl⟩
      go_wp2_with fail
      refine (HG2.out _ HL1.out).mono ?_
      rintro e w2 ⟨rfl, rfl⟩
      generalize got (getT z to) = gv2
      generalize hasT z to = gb2
      go_wp2_with fail
      refine (HW.out _ HL1.out).mono ?_
      rintro e w3 ⟨A3, n3, c3, rfl, hc3, hr3, hl3⟩
      have HR3 := Lib.hid hr3; have HL3 := Lib.hid hl3; clear hr3 hl3
      go_wp2
      go_ret2
      exact ⟨_, rfl, ⟨A3, n3, c3, _, rfl, hc3, HR3.out, (withoutT_map (fun x : Held => x.2) z nm).symm⟩, HL1.out.trans HL3.out⟩
    · have hl0 : 0 < x.2.length := by rw [hr2.len]; omega
      have E : Hid (applyP (mapT (·.2) z) ⟨2, nm, to, pl, old, new⟩ = (mapT (·.2) z, 31)) := by simp [Hid, applyP, HRT.out, getT_map, hg, hl0]
      rw [E.out]
      have h0' : ¬ (n2 : Int) = 0 := by omega
      clear E h2 hg hx hr2 hv2 hgot hl0
      go_enter Tryz.func64, Tryz.ntmps64
      go_wp2_with fail
      refine HR.out.mono ?_
      rintro e w1 ⟨rfl, hl1⟩
      have hb1 := HBX.out.later hl1
      have HL1 := Lib.hid (HLB.out.trans hl1)
      have y0 := hb1.cell (i := 0) rfl; have y1 := hb1.cell (i := 1) rfl; have y2 := hb1.cell (i := 2) rfl; have y3 := hb1.cell (i := 3) rfl; have y4 := hb1.cell (i := 4) rfl; have y5 := hb1.cell (i := 5) rfl
      clear hl1 hb1
      go_wp2_with fail
      refine (HG.out _ HL1.out).mono ?_
      rintro e w2 ⟨rfl, rfl⟩
      go_wp2_with fail
      refine (HG2.out _ HL1.out).mono ?_
      rintro e w2 ⟨rfl, rfl⟩
      generalize got (getT z to) = gv2
      generalize hasT z to = gb2
      go_wp2
      go_ret2
      exact same.out _ _ HL1.out

set_option maxRecDepth 100000 in
set_option maxHeartbeats 1000000 in
theorem refApply3 (hx : RefRow w A n z) (hc : n ≤ c) (hn : n ≤ 65536) (hp : PrOk w ⟨⟨3, nm, to, pl, old, new⟩, Ao, no, co, Aw, nw, cw⟩) (hr : rightP ⟨3, nm, to, pl, old, new⟩ = true) :
    Calls Tryz.prog 64 #[.slice A n c, .agg #[.int .i64 3, .string nm, .string to, .int .i64 pl, .slice Ao no co, .slice Aw nw cw]] w (GivesDo (applyP (mapT (·.2) z) ⟨3, nm, to, pl, old, new⟩) w) := by
  have hlb : Later w (w.alloc (.cells #[.int .i64 3, .string nm, .string to, .int .i64 pl, .slice Ao no co, .slice Aw nw cw] 72)) := (Later.refl w).alloc _
  have hri := refRightP_any ⟨⟨3, nm, to, pl, old, new⟩, Ao, no, co, Aw, nw, cw⟩ _ (hp.later hlb)
  unfold prV at hri
  dsimp only at hri
  rw [hr] at hri
  have HR := Lib.hid hri
  have HBX := Lib.hid (BoxAt.made w #[.int .i64 3, .string nm, .string to, .int .i64 pl, .slice Ao no co, .slice Aw nw cw] 72)
  have HLB := Lib.hid hlb; have HX := Lib.hid hx; have HP := Lib.hid hp
  have HG := Lib.hid (fun (w1 : World) (h : Later w w1) => refGet_any A n c z nm w1 (hx.later h) hn)
  have HG2 := Lib.hid (fun (w1 : World) (h : Later w w1) => refGet_any A n c z to w1 (hx.later h) hn)
  have same : Hid (∀ (w1 : World) (k : Int), Later w w1 → GivesDo (mapT (·.2) z, k) w (.returned (.tuple #[.slice A n c, .int .i64 k])) w1) := fun w1 k h => ⟨_, rfl, ⟨A, n, c, z, rfl, hc, hx.later h, rfl⟩, h⟩
  have HRT := Lib.hid hr
  clear hlb hri hp hr
  cases hg : getT z nm with
  | none =>
    have h2 : hasT z nm = false := hasT_no.2 (getT_none.1 hg)
    have E : Hid (applyP (mapT (·.2) z) ⟨3, nm, to, pl, old, new⟩ = (mapT (·.2) z, 31)) := by simp [Hid, applyP, HRT.out, getT_map, hg]
    rw [E.out]
    rw [h2] at HG
    clear E h2 hg hx
    go_enter Tryz.func64, Tryz.ntmps64
    go_wp2_with fail
    refine HR.out.mono ?_
    rintro e w1 ⟨rfl, hl1⟩
    have hb1 := HBX.out.later hl1
    have HL1 := Lib.hid (HLB.out.trans hl1)
    have y0 := hb1.cell (i := 0) rfl; have y1 := hb1.cell (i := 1) rfl; have y2 := hb1.cell (i := 2) rfl; have y3 := hb1.cell (i := 3) rfl; have y4 := hb1.cell (i := 4) rfl; have y5 := hb1.cell (i := 5) rfl
    clear hl1 hb1
    go_wp2_with fail
    refine (HG.out _ HL1.out).mono ?_
    rintro e w2 ⟨rfl, rfl⟩
    generalize got (getT z nm) = gv
    go_wp2_with fail
    refine (HG2.out _ HL1.out).mono ?_
    rintro e w2 ⟨rfl, rfl⟩
    generalize got (getT z to) = gv2
    generalize hasT z to = gb2
    go_wp2
    go_ret2
    exact same.out _ _ HL1.out
  | some x =>
    have h2 : hasT z nm = true := getT_has hg
    obtain ⟨A2, n2, c2, hv2, hnc2, hr2⟩ := hx.reads _ (getT_mem hg)
    have hgot : got (getT z nm) = .slice A2 n2 c2 := by rw [hg]; exact hv2
    rw [h2, hgot] at HG
    cases h3 : hasT z to
    · have E : Hid (applyP (mapT (·.2) z) ⟨3, nm, to, pl, old, new⟩ = (withT (withoutT (mapT (·.2) z) nm) to x.2, 0)) := by simp [Hid, applyP, HRT.out, getT_map, hg, hasT_map, h3]
      rw [E.out]
      rw [h3] at HG2
      have HW := Lib.hid (fun (w1 : World) (h : Later w w1) => refWithout_any A n c z nm w1 (hx.later h) hn)
      have hzn := without_length z nm
      rw [hx.len] at hzn
      have HR2 : Hid (Reads w (.slice A2 n2 c2) x.2) := ⟨A2, n2, c2, rfl, hnc2, hr2⟩
      clear E h2 hg hx hr2 hv2 hgot h3
      go_enter Tryz.func64, Tryz.ntmps64
      go_wp2_with fail
      refine HR.out.mono ?_
      rintro e w1 ⟨rfl, hl1⟩
      have hb1 := HBX.out.later hl1
      have HL1 := Lib.hid (HLB.out.trans hl1)
      have y0 := hb1.cell (i := 0) rfl; have y1 := hb1.cell (i := 1) rfl; have y2 := hb1.cell (i := 2) rfl; have y3 := hb1.cell (i := 3) rfl; have y4 := hb1.cell (i := 4) rfl; have y5 := hb1.cell (i := 5) rfl
      clear hl1 hb1
      go_wp2_with fail
      refine (HG.out _ HL1.out).mono ?_
      rintro e w2 ⟨rfl, rfl⟩
      go_wp2_with fail
      refine (HG2.out _ HL1.out).mono ?_
      rintro e w2 ⟨rfl, rfl⟩
      generalize got (getT z to) = gv2
      clear y3 y4 y5
      go_wp2_with fail
      go_region_held3 (fun w' => w'.cell? ⟨w.heap.size, 1, none⟩ = some (.string nm) ∧ w'.cell? ⟨w.heap.size, 2, none⟩ = some (.string to)) (go_keep)
        (first
          | (go_at_call 93; refine (HW.out _ (Later.trans HL1.out (by first | exact Later.refl _ | exact (Later.refl _).drew | exact (Later.refl _).drewN _))).mono ?_; rintro e w3 ⟨A1, n1, c1, rfl, hc1, hr1, hl1⟩; have HL3 : Hid (Later w1 w3) := Later.trans (by first | exact Later.refl _ | exact (Later.refl _).drew | exact (Later.refl _).drewN _) hl1; have HR1 := Lib.hid hr1; have hn1 : n1 ≤ 65536 := (by rw [← hr1.len]; omega); have cc1 := HL3.out.cell y1; have cc2 := HL3.out.cell y2; clear hr1 hl1)
          | (go_at_call 92; refine (refWith_any A1 n1 c1 (withoutT z nm) to A2 n2 c2 x.2 w3 HR1.out (HR2.out.later (HL1.out.trans HL3.out)) hn1).mono ?_; rintro e w4 ⟨A4, n4, c4, rfl, hc4, hr4, hl4⟩; have HL4 := Lib.hid hl4; have HR4 := Lib.hid hr4; have cd1 := HL4.out.cell cc1; have cd2 := HL4.out.cell cc2; clear hr4 hl4))
      go_wp2
      go_ret2
      refine ⟨_, rfl, ⟨A4, n4, c4, _, rfl, hc4, HR4.out, ?_⟩, (HL1.out.trans HL3.out).trans HL4.out⟩
      rw [withoutT_map, ← withT_map (fun x : Held => x.2)]
    · have E : Hid (applyP (mapT (·.2) z) ⟨3, nm, to, pl, old, new⟩ = (mapT (·.2) z, 31)) := by simp [Hid, applyP, HRT.out, getT_map, hg, hasT_map, h3]
      rw [E.out]
      rw [h3] at HG2
      clear E h2 hg hx hr2 hv2 hgot h3
      go_enter Tryz.func64, Tryz.ntmps64
      go_wp2_with fail
      refine HR.out.mono ?_
      rintro e w1 ⟨rfl, hl1⟩
      have hb1 := HBX.out.later hl1
      have HL1 := Lib.hid (HLB.out.trans hl1)
      have y0 := hb1.cell (i := 0) rfl; have y1 := hb1.cell (i := 1) rfl; have y2 := hb1.cell (i := 2) rfl; have y3 := hb1.cell (i := 3) rfl; have y4 := hb1.cell (i := 4) rfl; have y5 := hb1.cell (i := 5) rfl
      clear hl1 hb1
      go_wp2_with fail
      refine (HG.out _ HL1.out).mono ?_
      rintro e w2 ⟨rfl, rfl⟩
      go_wp2_with fail
      refine (HG2.out _ HL1.out).mono ?_
      rintro e w2 ⟨rfl, rfl⟩
      generalize got (getT z to) = gv2
      go_wp2
      go_ret2
      exact same.out _ _ HL1.out

set_option maxRecDepth 100000 in
set_option maxHeartbeats 1000000 in
theorem refApply0 (hx : RefRow w A n z) (hc : n ≤ c) (hn : n ≤ 65536) (hp : PrOk w ⟨⟨0, nm, to, pl, old, new⟩, Ao, no, co, Aw, nw, cw⟩) (hr : rightP ⟨0, nm, to, pl, old, new⟩ = true) (hb : ∀ f ∈ z, f.2.2.length ≤ 65536) :
    Calls Tryz.prog 64 #[.slice A n c, .agg #[.int .i64 0, .string nm, .string to, .int .i64 pl, .slice Ao no co, .slice Aw nw cw]] w (GivesDo (applyP (mapT (·.2) z) ⟨0, nm, to, pl, old, new⟩) w) := by
  have hlb : Later w (w.alloc (.cells #[.int .i64 0, .string nm, .string to, .int .i64 pl, .slice Ao no co, .slice Aw nw cw] 72)) := (Later.refl w).alloc _
  have hri := refRightP_any ⟨⟨0, nm, to, pl, old, new⟩, Ao, no, co, Aw, nw, cw⟩ _ (hp.later hlb)
  unfold prV at hri
  dsimp only at hri
  rw [hr] at hri
  have HR := Lib.hid hri
  have HBX := Lib.hid (BoxAt.made w #[.int .i64 0, .string nm, .string to, .int .i64 pl, .slice Ao no co, .slice Aw nw cw] 72)
  have HLB := Lib.hid hlb; have HX := Lib.hid hx; have HP := Lib.hid hp
  have HG := Lib.hid (fun (w1 : World) (h : Later w w1) => refGet_any A n c z nm w1 (hx.later h) hn)
  have HG2 := Lib.hid (fun (w1 : World) (h : Later w w1) => refGet_any A n c z to w1 (hx.later h) hn)
  have same : Hid (∀ (w1 : World) (k : Int), Later w w1 → GivesDo (mapT (·.2) z, k) w (.returned (.tuple #[.slice A n c, .int .i64 k])) w1) := fun w1 k h => ⟨_, rfl, ⟨A, n, c, z, rfl, hc, hx.later h, rfl⟩, h⟩
  have HRT := Lib.hid hr
  clear hlb hri hp hr
  cases hg : getT z nm with
  | none =>
    have h2 : hasT z nm = false := hasT_no.2 (getT_none.1 hg)
    have hgot : got (getT z nm) = .slice none 0 0 := by rw [hg]; rfl
    have E : Hid (applyP (mapT (·.2) z) ⟨0, nm, to, pl, old, new⟩ = (mapT (·.2) z, 31)) := by simp [Hid, applyP, HRT.out, hunkT, getT_map, hg]
    rw [E.out]
    rw [h2, hgot] at HG
    clear E h2 hg hx hgot
    go_enter Tryz.func64, Tryz.ntmps64
    go_wp2_with fail
    refine HR.out.mono ?_
    rintro e w1 ⟨rfl, hl1⟩
    have hb1 := HBX.out.later hl1
    have HL1 := Lib.hid (HLB.out.trans hl1)
    have y0 := hb1.cell (i := 0) rfl; have y1 := hb1.cell (i := 1) rfl; have y2 := hb1.cell (i := 2) rfl; have y3 := hb1.cell (i := 3) rfl; have y4 := hb1.cell (i := 4) rfl; have y5 := hb1.cell (i := 5) rfl
    clear hl1 hb1
    go_wp2_with fail
    refine (HG.out _ HL1.out).mono ?_
    rintro e w2 ⟨rfl, rfl⟩
    go_wp2_with fail
    refine (HG2.out _ HL1.out).mono ?_
    rintro e w2 ⟨rfl, rfl⟩
    generalize got (getT z to) = gv2
    generalize hasT z to = gb2
    go_wp2_with fail
    refine (refSplice_any none Ao Aw 0 0 no co nw cw [] old new pl w1 Row.none (HP.out.old.later HL1.out) (HP.out.new.later HL1.out) (Nat.le_refl _) (by omega) HP.out.omost HP.out.nmost HP.out.lo HP.out.hi).mono ?_
    rintro e w3 (⟨_, rfl, hl3⟩ | ⟨_, A3, c3, rfl, hc3, hr3, hl3⟩)
    · have HL3 := Lib.hid hl3; clear hl3
      go_wp2
      go_ret2
      exact same.out _ _ (HL1.out.trans HL3.out)
    · have HL3 := Lib.hid hl3; clear hl3 hr3 hc3
      generalize (spliced [] pl.toNat no new).length = q
      go_wp2
      go_ret2
      exact same.out _ _ (HL1.out.trans HL3.out)
  | some x =>
    have h2 : hasT z nm = true := getT_has hg
    obtain ⟨A2, n2, c2, hv2, hnc2, hr2⟩ := hx.reads _ (getT_mem hg)
    have hgot : got (getT z nm) = .slice A2 n2 c2 := by rw [hg]; exact hv2
    have hn2 : n2 ≤ 65536 := by rw [← hr2.len]; exact hb _ (getT_mem hg)
    have hol : old.length = no := HP.out.old.len
    have HR2 := Lib.hid hr2
    rw [h2, hgot] at HG
    cases hst : standsB x.2 pl old
    · have E : Hid (applyP (mapT (·.2) z) ⟨0, nm, to, pl, old, new⟩ = (mapT (·.2) z, 31)) := by simp [Hid, applyP, HRT.out, hunkT, getT_map, hg, hst]
      rw [E.out]
      clear E h2 hg hx hgot hr2 hv2
      go_enter Tryz.func64, Tryz.ntmps64
      go_wp2_with fail
      refine HR.out.mono ?_
      rintro e w1 ⟨rfl, hl1⟩
      have hb1 := HBX.out.later hl1
      have HL1 := Lib.hid (HLB.out.trans hl1)
      have y0 := hb1.cell (i := 0) rfl; have y1 := hb1.cell (i := 1) rfl; have y2 := hb1.cell (i := 2) rfl; have y3 := hb1.cell (i := 3) rfl; have y4 := hb1.cell (i := 4) rfl; have y5 := hb1.cell (i := 5) rfl
      clear hl1 hb1
      go_wp2_with fail
      refine (HG.out _ HL1.out).mono ?_
      rintro e w2 ⟨rfl, rfl⟩
      go_wp2_with fail
      refine (HG2.out _ HL1.out).mono ?_
      rintro e w2 ⟨rfl, rfl⟩
      generalize got (getT z to) = gv2
      generalize hasT z to = gb2
      go_wp2_with fail
      refine (refSplice_any A2 Ao Aw n2 c2 no co nw cw x.2 old new pl w1 (HR2.out.later HL1.out) (HP.out.old.later HL1.out) (HP.out.new.later HL1.out) hnc2 hn2 HP.out.omost HP.out.nmost HP.out.lo HP.out.hi).mono ?_
      rintro e w3 (⟨_, rfl, hl3⟩ | ⟨hs3, _⟩)
      · have HL3 := Lib.hid hl3; clear hl3
        go_wp2
        go_ret2
        exact same.out _ _ (HL1.out.trans HL3.out)
      · rw [hst] at hs3; cases hs3
    · have E : Hid (applyP (mapT (·.2) z) ⟨0, nm, to, pl, old, new⟩ = (withT (mapT (·.2) z) nm (spliced x.2 pl.toNat no new), 0)) := by simp [Hid, applyP, HRT.out, hunkT, getT_map, hg, hst, hol]
      rw [E.out]
      clear E h2 hg hx hgot hr2 hv2
      go_enter Tryz.func64, Tryz.ntmps64
      go_wp2_with fail
      refine HR.out.mono ?_
      rintro e w1 ⟨rfl, hl1⟩
      have hb1 := HBX.out.later hl1
      have HL1 := Lib.hid (HLB.out.trans hl1)
      have y0 := hb1.cell (i := 0) rfl; have y1 := hb1.cell (i := 1) rfl; have y2 := hb1.cell (i := 2) rfl; have y3 := hb1.cell (i := 3) rfl; have y4 := hb1.cell (i := 4) rfl; have y5 := hb1.cell (i := 5) rfl
      clear hl1 hb1
      go_wp2_with fail
      refine (HG.out _ HL1.out).mono ?_
      rintro e w2 ⟨rfl, rfl⟩
      go_wp2_with fail
      refine (HG2.out _ HL1.out).mono ?_
      rintro e w2 ⟨rfl, rfl⟩
      generalize got (getT z to) = gv2
      generalize hasT z to = gb2
      go_wp2_with fail
      refine (refSplice_any A2 Ao Aw n2 c2 no co nw cw x.2 old new pl w1 (HR2.out.later HL1.out) (HP.out.old.later HL1.out) (HP.out.new.later HL1.out) hnc2 hn2 HP.out.omost HP.out.nmost HP.out.lo HP.out.hi).mono ?_
      rintro e w3 (⟨hs3, _⟩ | ⟨_, A3, c3, rfl, hc3, hr3, hl3⟩)
      · rw [hst] at hs3; cases hs3
      have e1 := hl3.cell y1
      have HL3 := Lib.hid (HL1.out.trans hl3); have HR3 := Lib.hid hr3
      have HW := Lib.hid (refWith_any A n c z nm A3 (spliced x.2 pl.toNat no new).length c3 (spliced x.2 pl.toNat no new) w3 (HX.out.later HL3.out) ⟨A3, _, c3, rfl, hc3, hr3⟩ hn)
      clear hl3 hr3 hc3 y0 y1 y2 y3 y4 y5 hst
      go_wp2_with fail
      refine HW.out.mono ?_
      rintro e w4 ⟨A4, n4, c4, rfl, hc4, hr4, hl4⟩
      have HR4 := Lib.hid hr4; have HL4 := Lib.hid hl4; clear hr4 hl4
      go_wp2
      go_ret2
      exact ⟨_, rfl, ⟨A4, n4, c4, _, rfl, hc4, HR4.out, (withT_map (fun x : Held => x.2) z nm (_, spliced x.2 pl.toNat no new)).symm⟩, HL3.out.trans HL4.out⟩
end

set_option maxRecDepth 100000 in
set_option maxHeartbeats 400000 in
theorem refApply_any (v : Value) (t : Tr) (x : PrC) (w : World) (ht : RefAt w v t) (hx : PrOk w x) (hl : t.length ≤ 65536) (hb : ∀ f ∈ t, f.2.length ≤ 65536) :
    Calls Tryz.prog 64 #[v, prV x] w (GivesDo (applyP t x.v) w) := by
  obtain ⟨A, n, c, z, rfl, hc, hr, rfl⟩ := ht
  have hn : n ≤ 65536 := by rw [mapT_length, hr.len] at hl; exact hl
  have hbz : ∀ f ∈ z, f.2.2.length ≤ 65536 := fun f hf => hb (f.1, f.2.2) (by simp only [mapT, List.mem_map]; exact ⟨_, hf, rfl⟩)
  cases hri : rightP x.v
  · have hlb : Later w (w.alloc (.cells #[.int .i64 x.v.kind, .string x.v.name, .string x.v.to, .int .i64 x.v.place, .slice x.A x.n x.c, .slice x.B x.m x.d] 72)) := (Later.refl w).alloc _
    have hrr := refRightP_any x _ (hx.later hlb)
    rw [hri] at hrr
    rw [apply_wrong hri]
    have HR := Lib.hid hrr; have HLB := Lib.hid hlb; have HX := Lib.hid hr
    unfold prV at HR ⊢
    clear hrr hlb hri hx
    go_enter Tryz.func64, Tryz.ntmps64
    go_wp2_with fail
    refine HR.out.mono ?_
    rintro e w1 ⟨rfl, hl1⟩
    have HL1 := Lib.hid (HLB.out.trans hl1); clear hl1
    go_wp2
    go_ret2
    exact ⟨_, rfl, ⟨A, n, c, z, rfl, hc, HX.out.later HL1.out, rfl⟩, HL1.out⟩
  · obtain ⟨⟨kd, nm, to, pl, old, new⟩, Ao, no, co, Aw, nw, cw⟩ := x
    rcases (right_parts hri).2.1 with e | e | e | e
    · dsimp only at e; subst e
      exact refApply0 A n c z nm to pl old new Ao no co Aw nw cw w hr hc hn hx hri hbz
    · dsimp only at e; subst e
      exact refApply1 A n c z nm to pl old new Ao no co Aw nw cw w hr hc hn hx hri
    · dsimp only at e; subst e
      exact refApply2 A n c z nm to pl old new Ao no co Aw nw cw w hr hc hn hx hri hbz
    · dsimp only at e; subst e
      exact refApply3 A n c z nm to pl old new Ao no co Aw nw cw w hr hc hn hx hri

end Go.Proofs.YtejkgkgjgojlkaaGreatDoor

/-
  What the document's own Apply of a row comes to, as a call.
-/
namespace Go.Proofs.YtejkgkgjgojlkaaGreatDoor
open Go.RowKit Go.Maps

theorem Sized.lines5 {k h : Nat} {t : Tr} (hs : Sized k h t) (hh : h ≤ 65536) : ∀ f ∈ t, f.2.length ≤ 65536 := fun f hf => Nat.le_trans (hs.each f hf).2.2 hh

set_option maxRecDepth 100000 in
set_option maxHeartbeats 1600000 in
theorem refApply5_any (v : Value) (t : Tr) (k h : Nat) (A : Option Addr) (n c : Nat) (xs : List PrC) (w : World) (ht : RefAt w v t) (hx : PsOk w A n xs) (hs : Sized k h t) (hn : k + n ≤ 60000) (hh : h + 2 * linesS (valsP xs) ≤ 65536) :
    Calls Tryz.prog 28 #[v, .slice A n c] w (GivesDo (applyS t (valsP xs)) w) := by
  have hlen := hx.len
  have HX := Lib.hid hx; have HT := Lib.hid ht; have HS := Lib.hid hs
  clear hx ht hs
  go_enter Tryz.func28, Tryz.ntmps28
  go_wp2
  go_loopg [6, 7] (n + 1) (fun g s6 s7 wr => ∃ (kk : Nat) (u : Tr) (v1 : Value), kk ≤ n ∧ n - kk ≤ g ∧ s7 = .int .i64 kk ∧ s6 = v1 ∧ Hid (runS t ((valsP xs).take kk) = (u, 0)) ∧ Hid (RefAt wr v1 u) ∧ Hid (Later w wr))
  case atStart => exact ⟨0, t, v, Nat.zero_le _, by omega, rfl, rfl, by simp [Hid, runS], HT.out, Later.refl w⟩
  case round =>
    obtain ⟨kk, u, v1, hk, hg, rfl, hv, hran, htr, hwr⟩ := hrel
    obtain rfl := hv.symm
    clear hv
    by_cases hlt : kk < n
    · obtain ⟨b, o, x, rfl, hz, hok, g0, g1, g2, g3, g4, g5⟩ := (HX.out.later hwr.out).get hlt
      have hatv := valsP_at hz
      have hsz := runS_sized (l := (valsP xs).take kk) HS.out
      rw [hran.out] at hsz
      dsimp only at hsz
      have hln := linesS_at hatv
      have htl : ((valsP xs).take kk).length = kk := by rw [List.length_take, valsP_length, hlen]; omega
      rw [htl] at hsz
      have HC := Lib.hid (refApply_any v1 u x wr htr.out hok (by have := hsz.many; omega) (hsz.lines5 (by omega)))
      have HATV := Lib.hid hatv
      clear hok hz hatv hsz htl
      unfold prV at HC
      by_cases he : (applyP u x.v).2 = 0
      · have HN : Hid (runS t ((valsP xs).take (kk + 1)) = ((applyP u x.v).1, 0)) := by
          obtain ⟨hi, hxi⟩ := List.getElem?_eq_some_iff.1 HATV.out
          show _ = _
          rw [List.take_succ_eq_append_getElem hi, hxi, runS_snoc hran.out, ← he]
        unfold GivesDo at HC
        rw [he] at HC
        clear he
        go_wp2_with fail
        refine HC.out.mono ?_
        rintro e w2 ⟨v2, rfl, hr2, hl2⟩
        have HR2 := Lib.hid hr2; have HL2 := Lib.hid (hwr.out.trans hl2)
        clear HC hr2 hl2 g0 g1 g2 g3 g4 g5
        go_wp2
        go_roundg (n - (kk + 1))
        case measure => omega
        case rel => exact ⟨kk + 1, _, v2, by omega, Nat.le_refl _, by go_num, rfl, HN, HR2, HL2⟩
      · have HAS : Hid (applyS t (valsP xs) = (t, (applyP u x.v).2)) := by
          show _ = _
          have e1 : valsP xs = (valsP xs).take kk ++ x.v :: (valsP xs).drop (kk + 1) := by
            obtain ⟨hi, hxi⟩ := List.getElem?_eq_some_iff.1 HATV.out
            rw [← hxi, ← List.drop_eq_getElem_cons hi, List.take_append_drop]
          rw [e1]
          exact applyS_err hran.out he
        have hne : ((applyP u x.v).2 != 0) = true := by rw [bne_iff_ne]; exact he
        unfold GivesDo at HC
        generalize (applyP u x.v).2 = er at *
        clear he
        go_wp2_with fail
        refine HC.out.mono ?_
        rintro e w2 ⟨v2, rfl, hr2, hl2⟩
        have HL2 := Lib.hid (hwr.out.trans hl2)
        clear HC hr2 hl2 g0 g1 g2 g3 g4 g5
        go_wp2
        go_ret2
        rw [HAS.out]
        exact ⟨v, rfl, HT.out.later HL2.out, HL2.out⟩
    · have e : (valsP xs).take kk = valsP xs := List.take_of_length_le (by rw [valsP_length, hlen]; omega)
      rw [e] at hran
      clear e
      have HAS := Lib.hid (applyS_ok.2 hran.out)
      go_wp2
      go_ret2
      rw [HAS.out]
      exact ⟨v1, rfl, htr.out, hwr.out⟩

end Go.Proofs.YtejkgkgjgojlkaaGreatDoor

/-
  What the statements' own Old comes to, as a call: a tree, as the document has it.
-/
namespace Go.Proofs.YtejkgkgjgojlkaaGreatDoor
open Go.RowKit Go.Maps

/-- A row of files has grown: the rows of lines stand. -/
theorem Own.grown {w0 w w' : World} {u v : Value} {ss : List ByteArray} {css : List (List Value)} (h : Own 9 w0 w u ss) (hk : OwnK 106 2 w0 w v css) (hg : w.grownBy w' v.ownBlock) (hl : Later w0 w') : Own 9 w0 w' u ss := by
  refine ⟨h.1.kept hg ?_, hl⟩
  rcases h.1.2 with ⟨rfl, _⟩ | ⟨g, cap, cur, rfl, _, hh, _⟩
  · exact .inl rfl
  · right
    intro e
    rcases hk.1.2 with ⟨rfl, _⟩ | ⟨g', cap', cur', rfl, _, hh', _⟩
    · simp [Value.ownBlock] at e
    · simp only [Value.ownBlock, Option.some.injEq] at e
      subst e
      rw [hh] at hh'
      simp at hh'
theorem Own.reads {w0 w : World} {v : Value} {ss : List ByteArray} (h : Own 9 w0 w v ss) : Reads w v ss := by
  obtain ⟨A, c, hv, hc, hr⟩ := h.row
  exact ⟨A, _, c, hv, hc, hr⟩

/-- A tree of files, not too many, not too great. -/
structure Mid (t : Tr) : Prop where
  many : t.length ≤ 60000
  names : ∀ f ∈ t, f.1.size ≤ maxLen
  lines : ∀ f ∈ t, f.2.length ≤ 65536
theorem Small.mid {t : Tr} (h : Small t) : Mid t := ⟨Nat.le_trans h.many (by omega), h.names, h.lines⟩

set_option maxRecDepth 100000 in
set_option maxHeartbeats 800000 in
theorem oldM_any (p B : Nat) (t : Tr) (w : World) (ht : TreeAt w p B t) (hs : Mid t) :
    Calls Tryz.prog 31 #[.pointer (some ⟨p, 0, none⟩)] w fun e w' => ∃ v, e = .returned v ∧ RefAt w' v t ∧ Later w w' := by
  have hmany := hs.many
  have HN := Lib.hid (names_any p B t w ht (by omega))
  have HT := Lib.hid ht; have HS := Lib.hid hs
  obtain ⟨i0, hi, hz0, hz1, hz2⟩ := info_parts Tryz.fileInfo
  clear ht hs
  go_enter Tryz.func31, Tryz.ntmps31
  go_wp2_with fail
  refine HN.out.mono ?_
  rintro e w1 ⟨v1, rfl, hown1⟩
  obtain ⟨A1, c1, rfl, hcc1, hr1⟩ := hown1.row
  have hlen : (namesT t).length = t.length := by simp [namesT]
  rw [hlen] at hcc1 hr1 ⊢
  have HR1 := Lib.hid hr1; have HL1 := Lib.hid hown1.later
  clear hown1 hr1 hlen
  go_wp2
  go_loopg [3, 11] (t.length + 1) (fun g s3 s11 wr => ∃ (k : Nat) (v : Value) (z : Fl Held), k ≤ t.length ∧ t.length - k ≤ g ∧ s11 = .int .i64 k ∧ s3 = v ∧ z.length ≤ k ∧ Hid (mapT (·.2) z = t.take k) ∧ Hid (OwnK 106 2 w1 wr v (cellsF z)) ∧ Hid (∀ f ∈ z, Own 9 w1 wr f.2.1 f.2.2))
  case atStart => exact ⟨0, _, [], Nat.zero_le _, by omega, rfl, rfl, Nat.le_refl _, by simp [Hid, mapT], OwnK.nil (Later.refl w1), fun f hf => by cases hf⟩
  case round =>
    obtain ⟨k, v, z, hk, hg, rfl, hv, hzl, hzt, hown, hall⟩ := hrel
    obtain rfl := hv.symm
    clear hv
    by_cases hlt : k < t.length
    · have hf : t[k]? = some t[k] := List.getElem?_eq_getElem hlt
      generalize t[k] = f at hf
      have hmem := List.mem_of_getElem? hf
      obtain ⟨b1, o1, rfl, g1⟩ := (HR1.out.later hown.out.later).get hlt
      have hnm : (namesT t).getD k ByteArray.empty = f.1 := by simp [namesT, List.getD, hf]
      rw [hnm] at g1
      have hget : getT t f.1 = some f.2 := (getT_iff HT.out.files.rise).2 hmem
      have HG := Lib.hid (get_any p B f.1 t wr (HT.out.later (HL1.out.trans hown.out.later)) (HS.out.names f hmem) HS.out.lines)
      rw [hget] at HG
      have hnext : t.take (k + 1) = t.take k ++ [f] := by
        obtain ⟨hk', rfl⟩ := List.getElem?_eq_some_iff.1 hf
        exact List.take_succ_eq_append_getElem hk'
      have HNX := Lib.hid hnext
      have HF : Hid (f = (f.1, f.2)) := rfl
      generalize f.1 = fn at g1 HG HF
      generalize f.2 = fl at HG HF
      clear hf hmem hnm hget hnext
      go_wp2_with fail
      refine HG.out.mono ?_
      rintro e w2 ⟨v2, rfl, hown2⟩
      obtain ⟨A2, c2, hv2, hcc2, hr2⟩ := hown2.row
      subst hv2
      have hb2 := hown2.base hown.out.later
      have HB2 := Lib.hid hb2
      have HL2 := Lib.hid hown2.later
      have hown' := hown.out.on hown2.later
      have HOW := Lib.hid hown'
      clear hown2 hr2 hb2 hown'
      simp only [Option.getD_some, Option.isSome_some] at HB2 hcc2 ⊢
      go_wp2_with (at_builtin; refine wpList_append_rowK rfl _ _ 45 rfl i0 _ 40 Tryz.underlying45 hi hz0 hz1 hz2 rfl (by decide) (HOW.out.alloc _) rfl _ _ _ _ rfl (RowK.two _ _ _ _) (file_one _ _ _ _) (by rw [cellsF_length]; omega) (by omega) ?_; intro v4 w4 hown4 hg4; have HO4 := Lib.hid hown4; have HG4 := Lib.hid hg4; clear hown4 hg4)
      go_roundg (t.length - (k + 1))
      case measure => omega
      case rel =>
        refine ⟨k + 1, v4, z ++ [(fn, (.slice A2 fl.length c2, fl))], by omega, Nat.le_refl _, by go_num, rfl, by simp; omega, ?_, ?_, ?_⟩
        · show _ = _
          rw [HNX.out, ← hzt.out, HF.out]; simp [mapT]
        · have := HO4.out
          simpa [cellsF, Hid] using this
        · intro f hf
          rcases List.mem_append.1 hf with hf | hf
          · exact (((hall.out f hf).on HL2.out).alloc _).grown (HOW.out.alloc _) HG4.out HO4.out.later
          · simp at hf; subst hf
            exact (HB2.out.alloc _).grown (HOW.out.alloc _) HG4.out HO4.out.later
    · have e : t.take k = t := List.take_of_length_le (by omega)
      rw [e] at hzt
      clear e
      go_wp2
      go_ret
      obtain ⟨A9, n9, c9, h1, h2, h3, h4⟩ := gives_own hown.out fun f hf => (hall.out f hf).reads
      exact ⟨_, h1, ⟨A9, n9, c9, z, rfl, h2, h3, hzt.out⟩, HL1.out.trans h4⟩

theorem old_any (p B : Nat) (t : Tr) (w : World) (ht : TreeAt w p B t) (hs : Small t) :
    Calls Tryz.prog 31 #[.pointer (some ⟨p, 0, none⟩)] w fun e w' => ∃ v, e = .returned v ∧ RefAt w' v t ∧ Later w w' := oldM_any p B t w ht hs.mid

end Go.Proofs.YtejkgkgjgojlkaaGreatDoor

/-
  What the document's Same on trees comes to, as a call.
-/
namespace Go.Proofs.YtejkgkgjgojlkaaGreatDoor
open Go.RowKit Go.Maps

theorem take_sameT {a b : Tr} {k : Nat} {f : ByteArray × List ByteArray} (ha : a[k]? = some f) (hb : b[k]? = some f) (h : a.take k = b.take k) : a.take (k + 1) = b.take (k + 1) := by
  obtain ⟨h1, e1⟩ := List.getElem?_eq_some_iff.1 ha
  obtain ⟨h2, e2⟩ := List.getElem?_eq_some_iff.1 hb
  rw [List.take_succ_eq_append_getElem h1, List.take_succ_eq_append_getElem h2, h, e1, e2]

set_option maxRecDepth 100000 in
set_option maxHeartbeats 800000 in
theorem refSameT_any (A : Option Addr) (n c : Nat) (z : Fl Held) (B : Option Addr) (m d : Nat) (y : Fl Held) (w : World) (hx : RefRow w A n z) (hy : RefRow w B m y) (hn : n ≤ 65536) (hm : m ≤ 65536) (hbz : ∀ f ∈ z, f.2.2.length ≤ 65536) (hby : ∀ f ∈ y, f.2.2.length ≤ 65536) :
    Calls Tryz.prog 30 #[.slice A n c, .slice B m d] w fun e w' => e = .returned (.bool (sameT (mapT (·.2) z) (mapT (·.2) y))) ∧ Drew w w' := by
  by_cases hnm : n = m
  · subst hnm
    have HX := Lib.hid hx; clear hx
    have HY := Lib.hid hy; clear hy
    have HBZ := Lib.hid hbz; clear hbz
    have HBY := Lib.hid hby; clear hby
    go_enter Tryz.func30, Tryz.ntmps30
    go_wp2
    go_loopg [5] (n + 1) (fun g s5 wr => ∃ k : Nat, k ≤ n ∧ n - k ≤ g ∧ s5 = .int .i64 k ∧ Drew w wr ∧ Hid ((mapT (·.2) z).take k = (mapT (·.2) y).take k))
    case atStart => exact ⟨0, Nat.zero_le _, by omega, rfl, Drew.refl w, by simp [Hid]⟩
    case round =>
      obtain ⟨k, hk, hg, rfl, hwr, heq⟩ := hrel
      have HW := Lib.hid hwr
      by_cases hlt : k < n
      · obtain ⟨b1, o1, f, rfl, hz, g1, g2⟩ := (HX.out.later hwr.later).get hlt
        obtain ⟨b2, o2, h, rfl, hy, g3, g4⟩ := (HY.out.later hwr.later).get hlt
        have hfz : (mapT (·.2) z)[k]? = some (f.1, f.2.2) := by simp [mapT, hz]
        have hfy : (mapT (·.2) y)[k]? = some (h.1, h.2.2) := by simp [mapT, hy]
        clear hwr
        by_cases hxy : f.1 = h.1
        · rw [← hxy] at g3
          obtain ⟨A1, n1, c1, hv1, hnc1, hr1⟩ := HX.out.reads f (List.mem_of_getElem? hz)
          obtain ⟨A2, n2, c2, hv2, hnc2, hr2⟩ := HY.out.reads h (List.mem_of_getElem? hy)
          rw [hv1] at g2
          rw [hv2] at g4
          have HS := Lib.hid (fun (w1 : World) (hw1 : Drew w w1) => refSame_any A1 A2 n1 c1 n2 c2 f.2.2 h.2.2 w1 (hr1.later hw1.later) (hr2.later hw1.later) (by rw [← hr1.len]; exact HBZ.out f (List.mem_of_getElem? hz)) (by rw [← hr2.len]; exact HBY.out h (List.mem_of_getElem? hy)))
          by_cases hl : f.2.2 = h.2.2
          · rw [sameB_yes hl] at HS
            have HE : Hid ((mapT (·.2) z).take (k + 1) = (mapT (·.2) y).take (k + 1)) := take_sameT hfz (by rw [hfy, hxy, hl]) heq.out
            generalize f.1 = fn at g1 g3
            clear hxy hl hz hy hfz hfy hv1 hv2 hr1 hr2 heq
            go_wp2_with fail
            go_quiet ((go_at_call 66; exact Calls.quiet_of (HS.out _ (HW.out.more _))))
            go_wp2
            go_roundg (n - (k + 1))
            case measure => omega
            case rel => exact ⟨k + 1, by omega, Nat.le_refl _, by go_num, HW.out.more _, HE.out⟩
          · rw [sameB_no hl] at HS
            have E : Hid (sameT (mapT (·.2) z) (mapT (·.2) y) = false) := sameT_no fun e => by
              rw [e, hfy] at hfz
              simp only [Option.some.injEq, Prod.mk.injEq] at hfz
              exact hl hfz.2.symm
            generalize f.1 = fn at g1 g3
            clear hxy hl hz hy hfz hfy hv1 hv2 hr1 hr2 heq
            go_wp2_with fail
            go_quiet ((go_at_call 66; exact Calls.quiet_of (HS.out _ (HW.out.more _))))
            go_wp2
            go_ret
            exact ⟨ret_bool E.out.symm, HW.out.more _⟩
        · have hb := text_ne hxy
          have E : Hid (sameT (mapT (·.2) z) (mapT (·.2) y) = false) := sameT_no fun e => by
            rw [e, hfy] at hfz
            simp only [Option.some.injEq, Prod.mk.injEq] at hfz
            exact hxy hfz.1.symm
          generalize f.1 = fn at g1 hb
          generalize h.1 = hn' at g3 hb
          clear hxy hz hy hfz hfy heq g2 g4
          go_wp2_with fail
          go_quiet (fail)
          go_wp2
          go_ret
          exact ⟨ret_bool E.out.symm, HW.out.more _⟩
      · have e : sameT (mapT (·.2) z) (mapT (·.2) y) = true := by
          have h1 := heq.out
          rw [List.take_of_length_le (by rw [mapT_length, HX.out.len]; omega), List.take_of_length_le (by rw [mapT_length, HY.out.len]; omega)] at h1
          rw [h1]; exact sameT_self _
        have E := Lib.hid e; clear e heq hwr
        go_wp2
        go_ret
        exact ⟨ret_bool E.out.symm, HW.out⟩
  · have E : Hid (sameT (mapT (·.2) z) (mapT (·.2) y) = false) := sameT_no fun e => hnm (by have := congrArg List.length e; rw [mapT_length, mapT_length, hx.len, hy.len] at this; exact this)
    have hd : ((n : Int) != (m : Int)) = true := by rw [bne_iff_ne]; omega
    have hnm' : ¬ (n : Int) = (m : Int) := by omega
    clear hx hy hbz hby hnm
    go_enter Tryz.func30, Tryz.ntmps30
    go_wp2
    go_ret
    exact ⟨ret_bool E.out.symm, Drew.refl w⟩

theorem refSameAt_any (v1 v2 : Value) (t1 t2 : Tr) (w : World) (h1 : RefAt w v1 t1) (h2 : RefAt w v2 t2) (hl1 : t1.length ≤ 65536) (hl2 : t2.length ≤ 65536) (hb1 : ∀ f ∈ t1, f.2.length ≤ 65536) (hb2 : ∀ f ∈ t2, f.2.length ≤ 65536) :
    Calls Tryz.prog 30 #[v1, v2] w fun e w' => e = .returned (.bool (sameT t1 t2)) ∧ Drew w w' := by
  obtain ⟨A, n, c, z, rfl, hc, hr, rfl⟩ := h1
  obtain ⟨B, m, d, y, rfl, hd, hs, rfl⟩ := h2
  rw [mapT_length, hr.len] at hl1
  rw [mapT_length, hs.len] at hl2
  exact refSameT_any A n c z B m d y w hr hs hl1 hl2 (fun f hf => hb1 (f.1, f.2.2) (by simp only [mapT, List.mem_map]; exact ⟨_, hf, rfl⟩)) (fun f hf => hb2 (f.1, f.2.2) (by simp only [mapT, List.mem_map]; exact ⟨_, hf, rfl⟩))

end Go.Proofs.YtejkgkgjgojlkaaGreatDoor
