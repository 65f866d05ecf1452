/-
  What the document's Do comes to, as a call: the other kinds.
-/
import Derived.Test.YtbjbimahmbapdaaDoorRfDo
namespace Go.Proofs.YtbjbimahmbapdaaDoor
open Go.RowKit Go.Maps

section
variable (A : Option Addr) (n c : Nat) (z : Fl Held) (nm to : ByteArray) (Al : Option Addr) (nl cl : Nat) (l : List ByteArray) (w : World)

set_option maxRecDepth 100000 in
set_option maxHeartbeats 400000 in
theorem refDo1 (hx : RefRow w A n z) (hc : n ≤ c) (hn : n ≤ 65536) (hb : ∀ f ∈ z, f.2.2.length ≤ 65536) :
    Calls Tryd.prog 12 #[.slice A n c, .agg #[.int .i64 1, .string nm, .string to, .slice Al nl cl]] w (GivesDo (removeT (mapT (·.2) z) nm) w) := by
  have HX := Lib.hid hx
  have HG := Lib.hid (fun (w1 : World) (h : Later w w1) => refGet_any A n c z nm w1 (hx.later h) hn)
  have same : Hid (∀ (w1 : World) (k : Int), Later w w1 → GivesDo (mapT (·.2) z, k) w (.returned (.tuple #[.slice A n c, .int .i64 k])) w1) := fun w1 k h => ⟨_, rfl, ⟨A, n, c, z, rfl, hc, hx.later h, rfl⟩, h⟩
  have hlb : Later w (w.alloc (.cells #[.int .i64 1, .string nm, .string to, .slice Al nl cl] 31)) := (Later.refl w).alloc _
  have HLB := Lib.hid hlb
  clear hlb
  cases hg : getT z nm with
  | none =>
    have h2 : hasT z nm = false := hasT_no.2 (getT_none.1 hg)
    have E : Hid (removeT (mapT (·.2) z) nm = (mapT (·.2) z, 20)) := by simp [Hid, removeT, getT_map, hg]
    rw [E.out]
    rw [h2] at HG
    clear E h2 hg hx hb
    go_enter Tryd.func12, Tryd.ntmps12
    go_wp2_with fail
    refine (HG.out _ HLB.out).mono ?_
    rintro e w1 ⟨rfl, rfl⟩
    generalize got (getT z nm) = gv
    go_wp2
    go_ret2
    exact same.out _ _ HLB.out
  | some x =>
    have h2 : hasT z nm = true := getT_has hg
    obtain ⟨A2, n2, c2, hv2, hnc2, hr2⟩ := hx.reads _ (getT_mem hg)
    have hn2 : n2 ≤ 65536 := by rw [← hr2.len]; exact hb _ (getT_mem hg)
    have hgot : got (getT z nm) = .slice A2 n2 c2 := by rw [hg]; exact hv2
    rw [h2, hgot] at HG
    by_cases h0 : 0 < n2
    · have E : Hid (removeT (mapT (·.2) z) nm = (mapT (·.2) z, 22)) := by
        have := hr2.len
        simp only at this
        simp [Hid, removeT, getT_map, hg, this, h0]
      rw [E.out]
      have hd : decide (0 < n2) = true := by simpa using h0
      clear E h2 hg hx hb hr2 hv2 hgot
      go_enter Tryd.func12, Tryd.ntmps12
      go_wp2_with fail
      refine (HG.out _ HLB.out).mono ?_
      rintro e w1 ⟨rfl, rfl⟩
      go_wp2
      go_ret2
      exact same.out _ _ HLB.out
    · have E : Hid (removeT (mapT (·.2) z) nm = (withoutT (mapT (·.2) z) nm, 0)) := by
        have := hr2.len
        simp only at this
        simp [Hid, removeT, getT_map, hg, this, h0]
      rw [E.out]
      have hd : decide (0 < n2) = false := by simpa using h0
      have HW := Lib.hid (fun (w1 : World) (h : Later w w1) => refWithout_any A n c z nm w1 (hx.later h) hn)
      clear E h2 hg hx hb hr2 hv2 hgot
      go_enter Tryd.func12, Tryd.ntmps12
      go_wp2_with fail
      refine (HG.out _ HLB.out).mono ?_
      rintro e w1 ⟨rfl, rfl⟩
      go_wp2_with fail
      refine (HW.out _ HLB.out).mono ?_
      rintro e w1 ⟨A1, n1, c1, rfl, hc1, hr1, hl1⟩
      have HR1 := Lib.hid hr1; have HL1 := Lib.hid hl1; clear hr1 hl1
      go_wp2
      go_ret2
      exact ⟨_, rfl, ⟨A1, n1, c1, _, rfl, hc1, HR1.out, (withoutT_map (fun x : Held => x.2) z nm).symm⟩, HLB.out.trans HL1.out⟩

set_option maxRecDepth 100000 in
set_option maxHeartbeats 400000 in
theorem refDoElse (k : Int) (h0 : k ≠ 0) (h1 : k ≠ 1) (h2 : k ≠ 2) (h3 : k ≠ 3) (hx : RefRow w A n z) (hc : n ≤ c) (hn : n ≤ 65536) :
    Calls Tryd.prog 12 #[.slice A n c, .agg #[.int .i64 k, .string nm, .string to, .slice Al nl cl]] w (GivesDo (mapT (·.2) z, 0) w) := by
  have HG := Lib.hid (fun (w1 : World) (h : Later w w1) => refGet_any A n c z nm w1 (hx.later h) hn)
  have same : Hid (∀ (w1 : World) (k : Int), Later w w1 → GivesDo (mapT (·.2) z, k) w (.returned (.tuple #[.slice A n c, .int .i64 k])) w1) := fun w1 k h => ⟨_, rfl, ⟨A, n, c, z, rfl, hc, hx.later h, rfl⟩, h⟩
  have hlb : Later w (w.alloc (.cells #[.int .i64 k, .string nm, .string to, .slice Al nl cl] 31)) := (Later.refl w).alloc _
  have HLB := Lib.hid hlb
  have b0 : (k == 0) = false := by simpa using h0
  have b1 : (k == 1) = false := by simpa using h1
  have b2 : (k == 2) = false := by simpa using h2
  have b3 : (k == 3) = false := by simpa using h3
  clear hlb hx h0 h1 h2 h3
  go_enter Tryd.func12, Tryd.ntmps12
  go_wp2_with fail
  refine (HG.out _ HLB.out).mono ?_
  rintro e w1 ⟨rfl, rfl⟩
  generalize got (getT z nm) = gv
  generalize hasT z nm = gb
  go_wp2
  go_ret2
  exact same.out _ _ HLB.out

set_option maxRecDepth 100000 in
set_option maxHeartbeats 800000 in
theorem refDo2 (hx : RefRow w A n z) (hc : n ≤ c) (hn : n ≤ 65536) (hs2 : to.size ≤ maxLen) :
    Calls Tryd.prog 12 #[.slice A n c, .agg #[.int .i64 2, .string nm, .string to, .slice Al nl cl]] w (GivesDo (moveT (mapT (·.2) z) nm to) w) := by
  have HX := Lib.hid hx
  have HG := Lib.hid (fun (w1 : World) (h : Later w w1) => refGet_any A n c z nm w1 (hx.later h) hn)
  have HG2 := Lib.hid (fun (w1 : World) (h : Later w w1) => refGet_any A n c z to w1 (hx.later h) hn)
  have HN := Lib.hid (fun w1 => refNamed_any to w1 hs2)
  have same : Hid (∀ (w1 : World) (k : Int), Later w w1 → GivesDo (mapT (·.2) z, k) w (.returned (.tuple #[.slice A n c, .int .i64 k])) w1) := fun w1 k h => ⟨_, rfl, ⟨A, n, c, z, rfl, hc, hx.later h, rfl⟩, h⟩
  have hlb : Later w (w.alloc (.cells #[.int .i64 2, .string nm, .string to, .slice Al nl cl] 31)) := (Later.refl w).alloc _
  have HLB := Lib.hid hlb
  clear hlb hs2
  cases hg : getT z nm with
  | none =>
    have h2 : hasT z nm = false := hasT_no.2 (getT_none.1 hg)
    have E : Hid (moveT (mapT (·.2) z) nm to = (mapT (·.2) z, 20)) := by simp [Hid, moveT, getT_map, hg]
    rw [E.out]
    rw [h2] at HG
    clear E h2 hg hx
    go_enter Tryd.func12, Tryd.ntmps12
    go_wp2_with fail
    refine (HG.out _ HLB.out).mono ?_
    rintro e w1 ⟨rfl, rfl⟩
    generalize got (getT z nm) = gv
    go_wp2
    go_ret2
    exact same.out _ _ HLB.out
  | some x =>
    have h2 : hasT z nm = true := getT_has hg
    obtain ⟨A2, n2, c2, hv2, hnc2, hr2⟩ := hx.reads _ (getT_mem hg)
    have hgot : got (getT z nm) = .slice A2 n2 c2 := by rw [hg]; exact hv2
    rw [h2, hgot] at HG
    cases h1 : namedB to
    · have E : Hid (moveT (mapT (·.2) z) nm to = (mapT (·.2) z, 20)) := by simp [Hid, moveT, getT_map, hg, h1]
      rw [E.out]
      rw [h1] at HN
      clear E h2 hg hx hr2 hv2 hgot h1
      go_enter Tryd.func12, Tryd.ntmps12
      go_wp2_with fail
      refine (HG.out _ HLB.out).mono ?_
      rintro e w1 ⟨rfl, rfl⟩
      go_wp2_with fail
      refine (HN.out _).mono ?_
      rintro e w1 ⟨rfl, rfl⟩
      go_wp2
      go_ret2
      exact same.out _ _ HLB.out
    · rw [h1] at HN
      cases h3 : hasT z to
      · have E : Hid (moveT (mapT (·.2) z) nm to = (withT (withoutT (mapT (·.2) z) nm) to x.2, 0)) := by simp [Hid, moveT, getT_map, hg, h1, hasT_map, h3]
        rw [E.out]
        rw [h3] at HG2
        have HW := Lib.hid (fun (w1 : World) (h : Later w w1) => refWithout_any A n c z nm w1 (hx.later h) hn)
        have hzn := without_length z nm
        rw [hx.len] at hzn
        have HR2 : Hid (Reads w (.slice A2 n2 c2) x.2) := ⟨A2, n2, c2, rfl, hnc2, hr2⟩
        have HV : Hid (x = (.slice A2 n2 c2, x.2)) := by show x = _; rw [← hv2]
        have hlb := HLB.out
        have cb1 : (w.alloc (.cells #[.int .i64 2, .string nm, .string to, .slice Al nl cl] 31)).cell? ⟨w.heap.size, 1, none⟩ = some (.string nm) := by simp
        have cb2 : (w.alloc (.cells #[.int .i64 2, .string nm, .string to, .slice Al nl cl] 31)).cell? ⟨w.heap.size, 2, none⟩ = some (.string to) := by simp
        have CB := Lib.hid (And.intro cb1 cb2)
        clear E h2 hg hx hr2 hv2 hgot h1 h3 hlb cb1 cb2
        go_enter Tryd.func12, Tryd.ntmps12
        go_wp2_with fail
        refine (HG.out _ HLB.out).mono ?_
        rintro e w1 ⟨rfl, rfl⟩
        go_wp2_with fail
        refine (HN.out _).mono ?_
        rintro e w1 ⟨rfl, rfl⟩
        go_wp2_with fail
        refine (HG2.out _ HLB.out).mono ?_
        rintro e w1 ⟨rfl, rfl⟩
        generalize got (getT z to) = gv
        generalize hbx : w.alloc (.cells #[.int .i64 2, .string nm, .string to, .slice Al nl cl] 31) = wb at HLB CB ⊢
        have HBX := Lib.hid hbx; clear hbx
        obtain ⟨cb1, cb2⟩ := CB.out
        go_wp2_with fail
        go_region_held3 (fun w' => w'.cell? ⟨w.heap.size, 1, none⟩ = some (.string nm) ∧ w'.cell? ⟨w.heap.size, 2, none⟩ = some (.string to)) (go_keep)
          (first
            | (go_at_call 34; refine (HW.out _ (Later.trans HLB.out (by first | exact Later.refl _ | exact (Later.refl _).drew | exact (Later.refl _).drewN _))).mono ?_; rintro e w2 ⟨A1, n1, c1, rfl, hc1, hr1, hl1⟩; have HL2 : Hid (Later wb w2) := Later.trans (by first | exact Later.refl _ | exact (Later.refl _).drew | exact (Later.refl _).drewN _) hl1; have HR1 := Lib.hid hr1; have hn1 : n1 ≤ 65536 := (by rw [← hr1.len]; omega); have cc1 := HL2.out.cell cb1; have cc2 := HL2.out.cell cb2; clear hr1 hl1)
            | (go_at_call 33; refine (refWith_any A1 n1 c1 (withoutT z nm) to A2 n2 c2 x.2 w2 HR1.out (HR2.out.later (HLB.out.trans HL2.out)) hn1).mono ?_; rintro e w3 ⟨A3, n3, c3, rfl, hc3, hr3, hl3⟩; have HL3 := Lib.hid hl3; have HR3 := Lib.hid hr3; have cd1 := HL3.out.cell cc1; have cd2 := HL3.out.cell cc2; clear hr3 hl3))
        go_wp2
        go_ret2
        refine ⟨_, rfl, ⟨A3, n3, c3, _, rfl, hc3, HR3.out, ?_⟩, (HLB.out.trans HL2.out).trans HL3.out⟩
        rw [withoutT_map, ← withT_map (fun x : Held => x.2)]
      · have E : Hid (moveT (mapT (·.2) z) nm to = (mapT (·.2) z, 21)) := by simp [Hid, moveT, getT_map, hg, h1, hasT_map, h3]
        rw [E.out]
        rw [h3] at HG2
        clear E h2 hg hx hr2 hv2 hgot h1 h3
        go_enter Tryd.func12, Tryd.ntmps12
        go_wp2_with fail
        refine (HG.out _ HLB.out).mono ?_
        rintro e w1 ⟨rfl, rfl⟩
        go_wp2_with fail
        refine (HN.out _).mono ?_
        rintro e w1 ⟨rfl, rfl⟩
        go_wp2_with fail
        refine (HG2.out _ HLB.out).mono ?_
        rintro e w1 ⟨rfl, rfl⟩
        generalize got (getT z to) = gv
        go_wp2
        go_ret2
        exact same.out _ _ HLB.out
end

end Go.Proofs.YtbjbimahmbapdaaDoor
