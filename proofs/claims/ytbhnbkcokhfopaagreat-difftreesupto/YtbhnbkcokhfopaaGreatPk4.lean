import Derived.Test.YtbhnbkcokhfopaaGreatChecked
import Derived.Test.YtbhnbkcokhfopaaGreatPk1
import Derived.Deep.LoopGhost
import Derived.Deep.QuietTactic
import Derived.BigQuiet
import Derived.Lib.Hide
import Derived.Test.YtbhnbkcokhfopaaGreatPk3
import Derived.Deep.RegionHeld3
import Derived.Lib.SliceRun
import Derived.Shelf.Strings.Search3
import Derived.Test.YtbhnbkcokhfopaaGreatPk2

/-
  The element type of a row of lines.
-/
namespace Go.Proofs.YtbhnbkcokhfopaaGreat
open Go.RowKit

theorem Tryz.textInfo : (Tryz.prog.info? 9).map (fun i => (i.zero, i.size, i.bytes)) = some (some (.string ByteArray.empty), 1, 16) := by kernel_rfl

end Go.Proofs.YtbhnbkcokhfopaaGreat

/-
  What the document's Do comes to, as a call.
-/
namespace Go.Proofs.YtbhnbkcokhfopaaGreat
open Go.RowKit Go.Maps

/-- A tree of the document's, and an error's number. -/
def GivesDo (r : Tr × Int) (w : World) (e : Ending) (w' : World) : Prop := ∃ v, e = .returned (.tuple #[v, .int .i64 r.2]) ∧ RefAt w' v r.1 ∧ Later w w'

/-- append onto a row of the call's own, as a step of a region that draws its order. -/
theorem step_append_row {P : Program} {w0 w : World} {e : TypeId} {v : Value} {olds : List ByteArray} {ops : Array Oper} {o : Oper} {a : Act} {K : Act → World → Prop} {Q : Exit → Act → World → Prop} {E : Prop} (hgd : o.guard = none) (s x : Operand) (t : TypeId)
    (ho : o.op = .call { callee := .builtin .append, args := #[s, x], argTypes := #[t, t] }) (i : TypeInfo)
    (ht : P.underlying t = some (.slice e)) (hi : P.info? e = some i) (hz : i.zero = some (.string ByteArray.empty)) (hsize : i.size = 1) (hby : i.bytes = 16)
    (hown : Own e w0 w v olds) (hs : a.eval s = v) (A : Option Addr) (m c : Nat) (news : List ByteArray) (hx : a.eval x = .slice A m c) (hr : Row w A m news) (hb : olds.length + m ≤ 1000000)
    (h : ∀ v' w', Own e w0 w' v' (olds ++ news) → w.grownBy w' v.ownBlock → K (a.put o.dst v') w') :
    if Region.wanted o (yielded ops a.tmps) = true then Oper.wp P o a w K Q else E := by
  have hw : Region.wanted o (yielded ops a.tmps) = true := by simp [Region.wanted, hgd]
  rw [if_pos hw]
  obtain ⟨v', w', hrun, h2, h3⟩ := run_append_row (P := P) t o.type i ht hi hz hsize hby hown A m c news hr hb
  unfold Oper.wp execOp
  simp only [ho, resolve, invoke, builtin, Sem.run_bind, Sem.run_pure, Result.andThen_ok, List.map_toArray, List.map_cons, List.map_nil, hs, hx, hrun]
  exact h v' w' h2 h3

section
variable (A : Option Addr) (n c : Nat) (z : Fl Held) (nm to : ByteArray) (Al : Option Addr) (nl cl : Nat) (l : List ByteArray) (w : World)

set_option maxRecDepth 100000 in
set_option maxHeartbeats 400000 in
theorem refDo0 (hx : RefRow w A n z) (hc : n ≤ c) (hn : n ≤ 65536) (hs : nm.size ≤ maxLen) :
    Calls Tryz.prog 23 #[.slice A n c, .agg #[.int .i64 0, .string nm, .string to, .slice Al nl cl]] w (GivesDo (addT (mapT (·.2) z) nm) w) := by
  have HX := Lib.hid hx
  have HG := Lib.hid (fun (w1 : World) (h : Later w w1) => refGet_any A n c z nm w1 (hx.later h) hn)
  have HN := Lib.hid (fun w1 => refNamed_any nm w1 hs)
  have HS := Lib.hid hs
  have same : Hid (∀ (w1 : World) (k : Int), Later w w1 → GivesDo (mapT (·.2) z, k) w (.returned (.tuple #[.slice A n c, .int .i64 k])) w1) := fun w1 k h => ⟨_, rfl, ⟨A, n, c, z, rfl, hc, hx.later h, rfl⟩, h⟩
  have hlb : Later w (w.alloc (.cells #[.int .i64 0, .string nm, .string to, .slice Al nl cl] 47)) := (Later.refl w).alloc _
  have HLB := Lib.hid hlb
  clear hx hs hlb
  cases h1 : namedB nm
  · have E : Hid (addT (mapT (·.2) z) nm = (mapT (·.2) z, 20)) := by simp [Hid, addT, h1]
    rw [E.out]
    rw [h1] at HN
    clear E h1
    go_enter Tryz.func23, Tryz.ntmps23
    go_wp2_with fail
    refine (HG.out _ HLB.out).mono ?_
    rintro e w1 ⟨rfl, rfl⟩
    generalize got (getT z nm) = gv
    generalize hasT z nm = gb
    go_wp2_with fail
    refine (HN.out _).mono ?_
    rintro e w1 ⟨rfl, rfl⟩
    go_wp2
    go_ret2
    exact same.out _ _ HLB.out
  · rw [h1] at HN
    cases h2 : hasT z nm
    · have E : Hid (addT (mapT (·.2) z) nm = (withT (mapT (·.2) z) nm [], 0)) := by simp [Hid, addT, h1, hasT_map, h2]
      rw [E.out]
      rw [h2] at HG
      have HW := Lib.hid (fun (w1 : World) (h : Later w w1) => refWith_any A n c z nm none 0 0 [] w1 (HX.out.later h) (Reads.nil w1) hn)
      clear E h1 h2
      go_enter Tryz.func23, Tryz.ntmps23
      go_wp2_with fail
      refine (HG.out _ HLB.out).mono ?_
      rintro e w1 ⟨rfl, rfl⟩
      generalize got (getT z nm) = gv
      go_wp2_with fail
      refine (HN.out _).mono ?_
      rintro e w1 ⟨rfl, rfl⟩
      go_wp2_with fail
      refine (HW.out _ HLB.out).mono ?_
      rintro e w1 ⟨A1, n1, c1, rfl, hc1, hr1, hl1⟩
      have HR1 := Lib.hid hr1; have HL1 := Lib.hid hl1; clear hr1 hl1
      go_wp2
      go_ret2
      exact ⟨_, rfl, ⟨A1, n1, c1, _, rfl, hc1, HR1.out, (withT_map (fun x : Held => x.2) z nm (_, [])).symm⟩, HLB.out.trans HL1.out⟩
    · have E : Hid (addT (mapT (·.2) z) nm = (mapT (·.2) z, 21)) := by simp [Hid, addT, h1, hasT_map, h2]
      rw [E.out]
      rw [h2] at HG
      clear E h1 h2
      go_enter Tryz.func23, Tryz.ntmps23
      go_wp2_with fail
      refine (HG.out _ HLB.out).mono ?_
      rintro e w1 ⟨rfl, rfl⟩
      generalize got (getT z nm) = gv
      go_wp2_with fail
      refine (HN.out _).mono ?_
      rintro e w1 ⟨rfl, rfl⟩
      go_wp2
      go_ret2
      exact same.out _ _ HLB.out
end

end Go.Proofs.YtbhnbkcokhfopaaGreat

/-
  What the document's Do comes to, as a call: the other kinds.
-/
namespace Go.Proofs.YtbhnbkcokhfopaaGreat
open Go.RowKit Go.Maps

section
variable (A : Option Addr) (n c : Nat) (z : Fl Held) (nm to : ByteArray) (Al : Option Addr) (nl cl : Nat) (l : List ByteArray) (w : World)

set_option maxRecDepth 100000 in
set_option maxHeartbeats 400000 in
theorem refDo1 (hx : RefRow w A n z) (hc : n ≤ c) (hn : n ≤ 65536) (hb : ∀ f ∈ z, f.2.2.length ≤ 65536) :
    Calls Tryz.prog 23 #[.slice A n c, .agg #[.int .i64 1, .string nm, .string to, .slice Al nl cl]] w (GivesDo (removeT (mapT (·.2) z) nm) w) := by
  have HX := Lib.hid hx
  have HG := Lib.hid (fun (w1 : World) (h : Later w w1) => refGet_any A n c z nm w1 (hx.later h) hn)
  have same : Hid (∀ (w1 : World) (k : Int), Later w w1 → GivesDo (mapT (·.2) z, k) w (.returned (.tuple #[.slice A n c, .int .i64 k])) w1) := fun w1 k h => ⟨_, rfl, ⟨A, n, c, z, rfl, hc, hx.later h, rfl⟩, h⟩
  have hlb : Later w (w.alloc (.cells #[.int .i64 1, .string nm, .string to, .slice Al nl cl] 47)) := (Later.refl w).alloc _
  have HLB := Lib.hid hlb
  clear hlb
  cases hg : getT z nm with
  | none =>
    have h2 : hasT z nm = false := hasT_no.2 (getT_none.1 hg)
    have E : Hid (removeT (mapT (·.2) z) nm = (mapT (·.2) z, 20)) := by simp [Hid, removeT, getT_map, hg]
    rw [E.out]
    rw [h2] at HG
    clear E h2 hg hx hb
    go_enter Tryz.func23, Tryz.ntmps23
    go_wp2_with fail
    refine (HG.out _ HLB.out).mono ?_
    rintro e w1 ⟨rfl, rfl⟩
    generalize got (getT z nm) = gv
    go_wp2
    go_ret2
    exact same.out _ _ HLB.out
  | some x =>
    have h2 : hasT z nm = true := getT_has hg
    obtain ⟨A2, n2, c2, hv2, hnc2, hr2⟩ := hx.reads _ (getT_mem hg)
    have hn2 : n2 ≤ 65536 := by rw [← hr2.len]; exact hb _ (getT_mem hg)
    have hgot : got (getT z nm) = .slice A2 n2 c2 := by rw [hg]; exact hv2
    rw [h2, hgot] at HG
    by_cases h0 : 0 < n2
    · have E : Hid (removeT (mapT (·.2) z) nm = (mapT (·.2) z, 22)) := by
        have := hr2.len
        simp only at this
        simp [Hid, removeT, getT_map, hg, this, h0]
      rw [E.out]
      have hd : decide (0 < n2) = true := by simpa using h0
      clear E h2 hg hx hb hr2 hv2 hgot
      go_enter Tryz.func23, Tryz.ntmps23
      go_wp2_with fail
      refine (HG.out _ HLB.out).mono ?_
      rintro e w1 ⟨rfl, rfl⟩
      go_wp2
      go_ret2
      exact same.out _ _ HLB.out
    · have E : Hid (removeT (mapT (·.2) z) nm = (withoutT (mapT (·.2) z) nm, 0)) := by
        have := hr2.len
        simp only at this
        simp [Hid, removeT, getT_map, hg, this, h0]
      rw [E.out]
      have hd : decide (0 < n2) = false := by simpa using h0
      have HW := Lib.hid (fun (w1 : World) (h : Later w w1) => refWithout_any A n c z nm w1 (hx.later h) hn)
      clear E h2 hg hx hb hr2 hv2 hgot
      go_enter Tryz.func23, Tryz.ntmps23
      go_wp2_with fail
      refine (HG.out _ HLB.out).mono ?_
      rintro e w1 ⟨rfl, rfl⟩
      go_wp2_with fail
      refine (HW.out _ HLB.out).mono ?_
      rintro e w1 ⟨A1, n1, c1, rfl, hc1, hr1, hl1⟩
      have HR1 := Lib.hid hr1; have HL1 := Lib.hid hl1; clear hr1 hl1
      go_wp2
      go_ret2
      exact ⟨_, rfl, ⟨A1, n1, c1, _, rfl, hc1, HR1.out, (withoutT_map (fun x : Held => x.2) z nm).symm⟩, HLB.out.trans HL1.out⟩

set_option maxRecDepth 100000 in
set_option maxHeartbeats 400000 in
theorem refDoElse (k : Int) (h0 : k ≠ 0) (h1 : k ≠ 1) (h2 : k ≠ 2) (h3 : k ≠ 3) (hx : RefRow w A n z) (hc : n ≤ c) (hn : n ≤ 65536) :
    Calls Tryz.prog 23 #[.slice A n c, .agg #[.int .i64 k, .string nm, .string to, .slice Al nl cl]] w (GivesDo (mapT (·.2) z, 0) w) := by
  have HG := Lib.hid (fun (w1 : World) (h : Later w w1) => refGet_any A n c z nm w1 (hx.later h) hn)
  have same : Hid (∀ (w1 : World) (k : Int), Later w w1 → GivesDo (mapT (·.2) z, k) w (.returned (.tuple #[.slice A n c, .int .i64 k])) w1) := fun w1 k h => ⟨_, rfl, ⟨A, n, c, z, rfl, hc, hx.later h, rfl⟩, h⟩
  have hlb : Later w (w.alloc (.cells #[.int .i64 k, .string nm, .string to, .slice Al nl cl] 47)) := (Later.refl w).alloc _
  have HLB := Lib.hid hlb
  have b0 : (k == 0) = false := by simpa using h0
  have b1 : (k == 1) = false := by simpa using h1
  have b2 : (k == 2) = false := by simpa using h2
  have b3 : (k == 3) = false := by simpa using h3
  clear hlb hx h0 h1 h2 h3
  go_enter Tryz.func23, Tryz.ntmps23
  go_wp2_with fail
  refine (HG.out _ HLB.out).mono ?_
  rintro e w1 ⟨rfl, rfl⟩
  generalize got (getT z nm) = gv
  generalize hasT z nm = gb
  go_wp2
  go_ret2
  exact same.out _ _ HLB.out

set_option maxRecDepth 100000 in
set_option maxHeartbeats 800000 in
theorem refDo2 (hx : RefRow w A n z) (hc : n ≤ c) (hn : n ≤ 65536) (hs2 : to.size ≤ maxLen) :
    Calls Tryz.prog 23 #[.slice A n c, .agg #[.int .i64 2, .string nm, .string to, .slice Al nl cl]] w (GivesDo (moveT (mapT (·.2) z) nm to) w) := by
  have HX := Lib.hid hx
  have HG := Lib.hid (fun (w1 : World) (h : Later w w1) => refGet_any A n c z nm w1 (hx.later h) hn)
  have HG2 := Lib.hid (fun (w1 : World) (h : Later w w1) => refGet_any A n c z to w1 (hx.later h) hn)
  have HN := Lib.hid (fun w1 => refNamed_any to w1 hs2)
  have same : Hid (∀ (w1 : World) (k : Int), Later w w1 → GivesDo (mapT (·.2) z, k) w (.returned (.tuple #[.slice A n c, .int .i64 k])) w1) := fun w1 k h => ⟨_, rfl, ⟨A, n, c, z, rfl, hc, hx.later h, rfl⟩, h⟩
  have hlb : Later w (w.alloc (.cells #[.int .i64 2, .string nm, .string to, .slice Al nl cl] 47)) := (Later.refl w).alloc _
  have HLB := Lib.hid hlb
  clear hlb hs2
  cases hg : getT z nm with
  | none =>
    have h2 : hasT z nm = false := hasT_no.2 (getT_none.1 hg)
    have E : Hid (moveT (mapT (·.2) z) nm to = (mapT (·.2) z, 20)) := by simp [Hid, moveT, getT_map, hg]
    rw [E.out]
    rw [h2] at HG
    clear E h2 hg hx
    go_enter Tryz.func23, Tryz.ntmps23
    go_wp2_with fail
    refine (HG.out _ HLB.out).mono ?_
    rintro e w1 ⟨rfl, rfl⟩
    generalize got (getT z nm) = gv
    go_wp2
    go_ret2
    exact same.out _ _ HLB.out
  | some x =>
    have h2 : hasT z nm = true := getT_has hg
    obtain ⟨A2, n2, c2, hv2, hnc2, hr2⟩ := hx.reads _ (getT_mem hg)
    have hgot : got (getT z nm) = .slice A2 n2 c2 := by rw [hg]; exact hv2
    rw [h2, hgot] at HG
    cases h1 : namedB to
    · have E : Hid (moveT (mapT (·.2) z) nm to = (mapT (·.2) z, 20)) := by simp [Hid, moveT, getT_map, hg, h1]
      rw [E.out]
      rw [h1] at HN
      clear E h2 hg hx hr2 hv2 hgot h1
      go_enter Tryz.func23, Tryz.ntmps23
      go_wp2_with fail
      refine (HG.out _ HLB.out).mono ?_
      rintro e w1 ⟨rfl, rfl⟩
      go_wp2_with fail
      refine (HN.out _).mono ?_
      rintro e w1 ⟨rfl, rfl⟩
      go_wp2
      go_ret2
      exact same.out _ _ HLB.out
    · rw [h1] at HN
      cases h3 : hasT z to
      · have E : Hid (moveT (mapT (·.2) z) nm to = (withT (withoutT (mapT (·.2) z) nm) to x.2, 0)) := by simp [Hid, moveT, getT_map, hg, h1, hasT_map, h3]
        rw [E.out]
        rw [h3] at HG2
        have HW := Lib.hid (fun (w1 : World) (h : Later w w1) => refWithout_any A n c z nm w1 (hx.later h) hn)
        have hzn := without_length z nm
        rw [hx.len] at hzn
        have HR2 : Hid (Reads w (.slice A2 n2 c2) x.2) := ⟨A2, n2, c2, rfl, hnc2, hr2⟩
        have HV : Hid (x = (.slice A2 n2 c2, x.2)) := by show x = _; rw [← hv2]
        have hlb := HLB.out
        have cb1 : (w.alloc (.cells #[.int .i64 2, .string nm, .string to, .slice Al nl cl] 47)).cell? ⟨w.heap.size, 1, none⟩ = some (.string nm) := by simp
        have cb2 : (w.alloc (.cells #[.int .i64 2, .string nm, .string to, .slice Al nl cl] 47)).cell? ⟨w.heap.size, 2, none⟩ = some (.string to) := by simp
        have CB := Lib.hid (And.intro cb1 cb2)
        clear E h2 hg hx hr2 hv2 hgot h1 h3 hlb cb1 cb2
        go_enter Tryz.func23, Tryz.ntmps23
        go_wp2_with fail
        refine (HG.out _ HLB.out).mono ?_
        rintro e w1 ⟨rfl, rfl⟩
        go_wp2_with fail
        refine (HN.out _).mono ?_
        rintro e w1 ⟨rfl, rfl⟩
        go_wp2_with fail
        refine (HG2.out _ HLB.out).mono ?_
        rintro e w1 ⟨rfl, rfl⟩
        generalize got (getT z to) = gv
        generalize hbx : w.alloc (.cells #[.int .i64 2, .string nm, .string to, .slice Al nl cl] 47) = wb at HLB CB ⊢
        have HBX := Lib.hid hbx; clear hbx
        obtain ⟨cb1, cb2⟩ := CB.out
        go_wp2_with fail
        go_region_held3 (fun w' => w'.cell? ⟨w.heap.size, 1, none⟩ = some (.string nm) ∧ w'.cell? ⟨w.heap.size, 2, none⟩ = some (.string to)) (go_keep)
          (first
            | (go_at_call 47; refine (HW.out _ (Later.trans HLB.out (by first | exact Later.refl _ | exact (Later.refl _).drew | exact (Later.refl _).drewN _))).mono ?_; rintro e w2 ⟨A1, n1, c1, rfl, hc1, hr1, hl1⟩; have HL2 : Hid (Later wb w2) := Later.trans (by first | exact Later.refl _ | exact (Later.refl _).drew | exact (Later.refl _).drewN _) hl1; have HR1 := Lib.hid hr1; have hn1 : n1 ≤ 65536 := (by rw [← hr1.len]; omega); have cc1 := HL2.out.cell cb1; have cc2 := HL2.out.cell cb2; clear hr1 hl1)
            | (go_at_call 46; refine (refWith_any A1 n1 c1 (withoutT z nm) to A2 n2 c2 x.2 w2 HR1.out (HR2.out.later (HLB.out.trans HL2.out)) hn1).mono ?_; rintro e w3 ⟨A3, n3, c3, rfl, hc3, hr3, hl3⟩; have HL3 := Lib.hid hl3; have HR3 := Lib.hid hr3; have cd1 := HL3.out.cell cc1; have cd2 := HL3.out.cell cc2; clear hr3 hl3))
        go_wp2
        go_ret2
        refine ⟨_, rfl, ⟨A3, n3, c3, _, rfl, hc3, HR3.out, ?_⟩, (HLB.out.trans HL2.out).trans HL3.out⟩
        rw [withoutT_map, ← withT_map (fun x : Held => x.2)]
      · have E : Hid (moveT (mapT (·.2) z) nm to = (mapT (·.2) z, 21)) := by simp [Hid, moveT, getT_map, hg, h1, hasT_map, h3]
        rw [E.out]
        rw [h3] at HG2
        clear E h2 hg hx hr2 hv2 hgot h1 h3
        go_enter Tryz.func23, Tryz.ntmps23
        go_wp2_with fail
        refine (HG.out _ HLB.out).mono ?_
        rintro e w1 ⟨rfl, rfl⟩
        go_wp2_with fail
        refine (HN.out _).mono ?_
        rintro e w1 ⟨rfl, rfl⟩
        go_wp2_with fail
        refine (HG2.out _ HLB.out).mono ?_
        rintro e w1 ⟨rfl, rfl⟩
        generalize got (getT z to) = gv
        go_wp2
        go_ret2
        exact same.out _ _ HLB.out
end

end Go.Proofs.YtbhnbkcokhfopaaGreat

/-
  What the document's Do comes to, as a call: Put, and all kinds together.
-/
namespace Go.Proofs.YtbhnbkcokhfopaaGreat
open Go.RowKit Go.Maps

section
variable (A : Option Addr) (n c : Nat) (z : Fl Held) (nm to : ByteArray) (Al : Option Addr) (nl cl : Nat) (l : List ByteArray) (w : World)

set_option maxRecDepth 100000 in
set_option maxHeartbeats 800000 in
theorem refDo3 (hx : RefRow w A n z) (hc : n ≤ c) (hn : n ≤ 65536) (hl : Row w Al nl l) (hnl : nl ≤ 65536) (hb : ∀ s ∈ l, s.size ≤ maxLen) :
    Calls Tryz.prog 23 #[.slice A n c, .agg #[.int .i64 3, .string nm, .string to, .slice Al nl cl]] w (GivesDo (putT (mapT (·.2) z) nm l) w) := by
  have HX := Lib.hid hx
  have HG := Lib.hid (fun (w1 : World) (h : Later w w1) => refGet_any A n c z nm w1 (hx.later h) hn)
  have HA := Lib.hid (fun (w1 : World) (h : Later w w1) => refAll_any Al nl cl l w1 (hl.later h) hnl hb)
  have same : Hid (∀ (w1 : World) (k : Int), Later w w1 → GivesDo (mapT (·.2) z, k) w (.returned (.tuple #[.slice A n c, .int .i64 k])) w1) := fun w1 k h => ⟨_, rfl, ⟨A, n, c, z, rfl, hc, hx.later h, rfl⟩, h⟩
  have hlb : Later w (w.alloc (.cells #[.int .i64 3, .string nm, .string to, .slice Al nl cl] 47)) := (Later.refl w).alloc _
  have HLB := Lib.hid hlb
  have HLL := Lib.hid hl
  clear hlb hx hl hb
  cases h1 : hasT z nm
  · have E : Hid (putT (mapT (·.2) z) nm l = (mapT (·.2) z, 20)) := by simp [Hid, putT, hasT_map, h1]
    rw [E.out]
    rw [h1] at HG
    clear E h1
    go_enter Tryz.func23, Tryz.ntmps23
    go_wp2_with fail
    refine (HG.out _ HLB.out).mono ?_
    rintro e w1 ⟨rfl, rfl⟩
    generalize got (getT z nm) = gv
    go_wp2
    go_ret2
    exact same.out _ _ HLB.out
  · rw [h1] at HG
    cases h2 : allB l
    · have E : Hid (putT (mapT (·.2) z) nm l = (mapT (·.2) z, 1)) := by simp [Hid, putT, hasT_map, h1, h2]
      rw [E.out]
      rw [h2] at HA
      clear E h1 h2
      go_enter Tryz.func23, Tryz.ntmps23
      go_wp2_with fail
      refine (HG.out _ HLB.out).mono ?_
      rintro e w1 ⟨rfl, rfl⟩
      generalize got (getT z nm) = gv
      go_wp2_with fail
      refine (HA.out _ HLB.out).mono ?_
      rintro e w1 ⟨rfl, rfl⟩
      go_wp2
      go_ret2
      exact same.out _ _ HLB.out
    · have E : Hid (putT (mapT (·.2) z) nm l = (withT (mapT (·.2) z) nm l, 0)) := by simp [Hid, putT, hasT_map, h1, h2]
      rw [E.out]
      rw [h2] at HA
      obtain ⟨i0, hi, hz0, hz1, hz2⟩ := info_parts Tryz.textInfo
      have cb1 : (w.alloc (.cells #[.int .i64 3, .string nm, .string to, .slice Al nl cl] 47)).cell? ⟨w.heap.size, 1, none⟩ = some (.string nm) := by simp
      have cb2 : (w.alloc (.cells #[.int .i64 3, .string nm, .string to, .slice Al nl cl] 47)).cell? ⟨w.heap.size, 3, none⟩ = some (.slice Al nl cl) := by simp
      have CB := Lib.hid (And.intro cb1 cb2)
      clear E h1 h2 cb1 cb2
      go_enter Tryz.func23, Tryz.ntmps23
      go_wp2_with fail
      refine (HG.out _ HLB.out).mono ?_
      rintro e w1 ⟨rfl, rfl⟩
      generalize got (getT z nm) = gv
      go_wp2_with fail
      refine (HA.out _ HLB.out).mono ?_
      rintro e w1 ⟨rfl, rfl⟩
      generalize hbx : w.alloc (.cells #[.int .i64 3, .string nm, .string to, .slice Al nl cl] 47) = wb at HLB CB ⊢
      have HBX := Lib.hid hbx; clear hbx
      obtain ⟨cb1, cb2⟩ := CB.out
      have ne1 := World.new_ne wb _ cb1
      have ne2 := World.new_ne wb _ cb2
      go_wp2_with fail
      go_region_held3 (fun w' => w'.cell? ⟨w.heap.size, 1, none⟩ = some (.string nm) ∧ w'.cell? ⟨w.heap.size, 3, none⟩ = some (.slice Al nl cl)) (go_keep)
        (first
          | (go_at_call 46; refine (refWith_any A n c z nm A2 _ c2 l w2 (HX.out.later (HLB.out.trans HL2.out)) HR2.out hn).mono ?_; rintro e w3 ⟨A3, n3, c3, rfl, hc3, hr3, hl3⟩; have HL3 := Lib.hid hl3; have HR3 := Lib.hid hr3; have cd1 := HL3.out.cell cc1; have cd2 := HL3.out.cell cc2; clear hr3 hl3)
          | (refine step_append_row (w0 := wb) rfl _ _ 45 rfl i0 Tryz.underlying45 hi hz0 hz1 hz2 ((Own.empty (Later.refl wb)).drew) rfl Al nl cl l rfl (HLL.out.later (HLB.out.trans (((Later.refl wb).alloc _).drew))) (by simp; omega) ?_; intro v2 w2 hown2 hg2; have HL2 := Lib.hid hown2.later; obtain ⟨A2, c2, rfl, hcc2, hr2⟩ := hown2.row; have HR2 : Hid (Reads w2 (.slice A2 ([] ++ l).length c2) l) := ⟨A2, _, c2, rfl, hcc2, by simpa using hr2⟩; have cc1 := HL2.out.cell cb1; have cc2 := HL2.out.cell cb2; clear hown2 hg2 hr2))
      go_wp2
      go_ret2
      refine ⟨_, rfl, ⟨A3, n3, c3, _, rfl, hc3, HR3.out, ?_⟩, (HLB.out.trans HL2.out).trans HL3.out⟩
      rw [← withT_map (fun x : Held => x.2)]

end

/-- What is asked of a call that is handed in: its lines are there, and nothing is too long. -/
structure OpOk (w : World) (o : OpV) (Al : Option Addr) (nl : Nat) : Prop where
  row : Row w Al nl o.l
  most : nl ≤ 65536
  name : o.name.size ≤ maxLen
  to : o.to.size ≤ maxLen
  lines : ∀ s ∈ o.l, s.size ≤ maxLen
theorem OpOk.later {w w' : World} {o : OpV} {Al : Option Addr} {nl : Nat} (h : OpOk w o Al nl) (hl : Later w w') : OpOk w' o Al nl := ⟨h.row.later hl, h.most, h.name, h.to, h.lines⟩

/-- The value of a call. -/
def opVal (o : OpV) (Al : Option Addr) (nl cl : Nat) : Value := .agg #[.int .i64 o.kind, .string o.name, .string o.to, .slice Al nl cl]

theorem refDo_any (v : Value) (t : Tr) (o : OpV) (Al : Option Addr) (nl cl : Nat) (w : World) (ht : RefAt w v t) (ho : OpOk w o Al nl) (hl : t.length ≤ 65536) (hb : ∀ f ∈ t, f.2.length ≤ 65536) :
    Calls Tryz.prog 23 #[v, opVal o Al nl cl] w (GivesDo (doT t o) w) := by
  obtain ⟨A, n, c, z, rfl, hc, hr, rfl⟩ := ht
  have hn : n ≤ 65536 := by rw [mapT_length, hr.len] at hl; exact hl
  obtain ⟨kind, nm, to, l⟩ := o
  by_cases h0 : kind = 0
  · subst h0
    exact refDo0 A n c z nm to Al nl cl w hr hc hn ho.name
  by_cases h1 : kind = 1
  · subst h1
    exact refDo1 A n c z nm to Al nl cl w hr hc hn fun f hf => hb (f.1, f.2.2) (by simp only [mapT, List.mem_map]; exact ⟨_, hf, rfl⟩)
  by_cases h2 : kind = 2
  · subst h2
    exact refDo2 A n c z nm to Al nl cl w hr hc hn ho.to
  by_cases h3 : kind = 3
  · subst h3
    exact refDo3 A n c z nm to Al nl cl l w hr hc hn ho.row ho.most ho.lines
  have e : doT (mapT (·.2) z) ⟨kind, nm, to, l⟩ = (mapT (·.2) z, 0) := by simp [doT, h0, h1, h2, h3]
  rw [e]
  exact refDoElse A n c z nm to Al nl cl w kind h0 h1 h2 h3 hr hc hn

end Go.Proofs.YtbhnbkcokhfopaaGreat

/-
  What tree.New, Named, has and Get come to, as calls.
-/
namespace Go.Proofs.YtbhnbkcokhfopaaGreat
open Go.RowKit Go.Maps

set_option maxHeartbeats 400000 in
theorem has_any (p B : Nat) (nm : ByteArray) (t : Tr) (w : World) (ht : TreeAt w p B t) (hs : nm.size ≤ maxLen) :
    Calls Tryz.prog 44 #[.pointer (some ⟨p, 0, none⟩), .string nm] w fun e w' => e = .returned (.bool (hasT t nm)) ∧ w = w' := by
  obtain ⟨hc, z, hz, rfl⟩ := ht
  rw [hasT_map]
  cases hg : getT z nm with
  | none =>
    have e : hasT z nm = false := hasT_no.2 (getT_none.1 hg)
    have E := Lib.hid e
    have hl := hz.look_no hs hg
    clear e hz hg
    go_enter Tryz.func44, Tryz.ntmps44
    go_wp2
    go_ret
    exact ⟨ret_bool E.out.symm, rfl⟩
  | some x =>
    have e : hasT z nm = true := getT_has hg
    have E := Lib.hid e
    have hl := hz.look_yes hs hg
    clear e hz hg
    go_enter Tryz.func44, Tryz.ntmps44
    go_wp2
    go_ret
    exact ⟨ret_bool E.out.symm, rfl⟩

/-- A new tree. -/
def NewTree (t : Tr) (w : World) (e : Ending) (w' : World) : Prop :=
  ∃ p B, e = .returned (.pointer (some ⟨p, 0, none⟩)) ∧ TreeAt w' p B t ∧ w.heap.size ≤ p ∧ w.heap.size ≤ B ∧ Later w w'

set_option maxHeartbeats 400000 in
theorem new_any (w : World) : Calls Tryz.prog 20 #[] w (NewTree [] w) := by
  have hmm := @run_makeMap Tryz.prog
  go_enter Tryz.func20, Tryz.ntmps20
  go_wp2
  go_ret
  refine ⟨_, _, rfl, ⟨?_, [], (FA.made w).later ((Later.refl _).alloc _), rfl⟩, by simp, Nat.le_refl _, ((Later.refl _).alloc _).alloc _⟩
  simp

end Go.Proofs.YtbhnbkcokhfopaaGreat

/-
  What slices.Clone at rows of texts comes to, as a call.
-/
namespace Go.Proofs.YtbhnbkcokhfopaaGreat
open Go.RowKit

theorem Own.on {e : TypeId} {w0 w w' : World} {v : Value} {ss : List ByteArray} (h : Own e w0 w v ss) (hl : Later w w') : Own e w0 w' v ss :=
  ⟨h.1.kept (row := none) ⟨hl.os, hl.tape, hl.output, hl.size, fun i hi _ => hl.block i hi⟩ (by cases v.ownBlock <;> simp), h.2.trans hl⟩
theorem Own.base {e : TypeId} {w0 w1 w : World} {v : Value} {ss : List ByteArray} (h : Own e w1 w v ss) (hl : Later w0 w1) : Own e w0 w v ss :=
  ⟨by
    obtain ⟨hx, h1 | ⟨g, cap, cur, hv, hg, h2⟩⟩ := h.1
    · exact ⟨hx, .inl h1⟩
    · exact ⟨hx, .inr ⟨g, cap, cur, hv, Nat.le_trans hl.le hg, h2⟩⟩, hl.trans h.2⟩

/-- A row of new memory, the call's own. -/
def GivesOwn (ss : List ByteArray) (w : World) (e : Ending) (w' : World) : Prop := ∃ v, e = .returned v ∧ Own 9 w w' v ss

set_option maxHeartbeats 400000 in
theorem clone_any (A : Option Addr) (n c : Nat) (l : List ByteArray) (w : World) (hx : Row w A n l) (hn : n ≤ 65536) :
    Calls Tryz.prog 33 #[.slice A n c] w (GivesOwn l w) := by
  have q29 : ∀ (w : World) (a : Option Addr) (n c n' c' : Nat), (binOp .eql 45 (.slice a n c) (.slice none n' c')).run Tryz.prog w = .ok (.bool a.isNone) w := fun w a n c n' c' => Lib.run_eql_slice_nil w _ _ a n c n' c' Tryz.underlying45
  cases A with
  | none =>
    have e : l = [] := by
      rcases Nat.eq_zero_or_pos n with h | h
      · exact List.eq_nil_of_length_eq_zero (hx.len.trans h)
      · obtain ⟨_, _, e, _⟩ := hx.2 h; cases e
    subst e
    clear hx
    go_enter Tryz.func33, Tryz.ntmps33
    go_wp2
    go_ret
    exact ⟨_, rfl, Own.nil (Later.refl w)⟩
  | some a =>
    have HX := Lib.hid hx; clear hx
    obtain ⟨i0, hi, hz0, hz1, hz2⟩ := info_parts Tryz.textInfo
    go_enter Tryz.func33, Tryz.ntmps33
    go_wp2_with (at_builtin; refine wpList_append_row (w0 := w) rfl _ _ 45 rfl i0 Tryz.underlying45 hi hz0 hz1 hz2 (Own.empty (Later.refl w)) rfl _ _ _ _ rfl (HX.out.later ((Later.refl w).alloc _)) (by simp; omega) ?_; intro v2 w2 hown2 hg2; have HO2 := Lib.hid hown2; clear hown2 hg2)
    go_ret
    exact ⟨_, rfl, by simpa using HO2.out⟩

end Go.Proofs.YtbhnbkcokhfopaaGreat

/-
  What calls of the library come to, laid at this program: whether a text has a byte.
-/
namespace Go.Proofs
open Go.Shelf
def Tryz.lays144_ren : Go.Shelf.Ren := ⟨fun | 144 => 82 | 143 => 96 | 219 => 103 | 217 => 105 | 225 => 106 | 224 => 107 | 267 => 108 | 266 => 109 | 314 => 110 | n => n, fun | 9 => 9 | 4 => 4 | 3 => 3 | 5 => 5 | 46 => 115 | 146 => 144 | 51 => 127 | n => n, fun | 1 => 0 | n => n⟩
theorem Tryz.lays144 : Go.Proofs.Lays.n144 Tryz.prog Tryz.lays144_ren := {
  mixed := by kernel_rfl
  f143 := Tryz.func96.trans (congrArg some (by kernel_rfl))
  f144 := Tryz.func82.trans (congrArg some (by kernel_rfl))
  f217 := Tryz.func105.trans (congrArg some (by kernel_rfl))
  f219 := Tryz.func103.trans (congrArg some (by kernel_rfl))
  f224 := Tryz.func107.trans (congrArg some (by kernel_rfl))
  f225 := Tryz.func106.trans (congrArg some (by kernel_rfl))
  f266 := Tryz.func109.trans (congrArg some (by kernel_rfl))
  f267 := Tryz.func108.trans (congrArg some (by kernel_rfl))
  f314 := Tryz.func110.trans (congrArg some (by kernel_rfl))
  t3 := Tryz.underlying3
  a3 := Tryz.isAgg3
  z3 := Tryz.sizeOf3
  v3 := Tryz.zeroValue3
  t4 := Tryz.underlying4
  a4 := Tryz.isAgg4
  z4 := Tryz.sizeOf4
  v4 := Tryz.zeroValue4
  t5 := Tryz.underlying5
  a5 := Tryz.isAgg5
  z5 := Tryz.sizeOf5
  v5 := Tryz.zeroValue5
  t9 := Tryz.underlying9
  a9 := Tryz.isAgg9
  z9 := Tryz.sizeOf9
  v9 := Tryz.zeroValue9
  t46 := Tryz.underlying115
  a46 := Tryz.isAgg115
  z46 := Tryz.sizeOf115
  v46 := Tryz.zeroValue115
  t51 := Tryz.underlying127
  a51 := Tryz.isAgg127
  z51 := Tryz.sizeOf127
  v51 := Tryz.zeroValue127
  t146 := Tryz.underlying144
  a146 := Tryz.isAgg144
  z146 := Tryz.sizeOf144
  v146 := Tryz.zeroValue144
  g1 := by kernel_rfl }
open Go.RowKit Go.Lib in
theorem Tryz.strings_Contains_one (s : ByteArray) (c : UInt8) (w : World) :
    Calls Tryz.prog 82 #[.string s, .string ⟨#[c]⟩] w fun e w' => e = .returned (.bool (decide (0 ≤ Lib.indexByte s.data.toList c))) ∧ w' = w := Any.strings_Contains_one Tryz.lays144 s c w
end Go.Proofs

/-
  What line.Right comes to, as a call.
-/
namespace Go.Proofs.YtbhnbkcokhfopaaGreat
open Go.RowKit

set_option maxHeartbeats 400000 in
theorem right_any (s : ByteArray) (w : World) (hs : s.size ≤ maxLen) :
    Calls Tryz.prog 77 #[.string s] w fun e w' => e = .returned (.bool (rightB s)) ∧ w = w' := by
  unfold maxLen at hs
  have hr : rightB s = (decide (s.size ≤ 60) && !hasEnd s) := rfl
  by_cases h : s.size ≤ 60
  · rw [decide_eq_true h, Bool.true_and] at hr
    have HR := Lib.hid hr; clear hr
    have hd : decide ((s.size : Int) ≤ 60) = true := by simp; omega
    have H := Lib.hid (Tryz.strings_Contains_one s 10 w)
    go_enter Tryz.func77, Tryz.ntmps77
    go_wp2_with (go_at_call 82; refine H.out.mono ?_; rintro e w' ⟨rfl, rfl⟩)
    go_ret
    exact ⟨by rw [HR.out]; rfl, rfl⟩
  · rw [decide_eq_false h, Bool.false_and] at hr
    have HR := Lib.hid hr; clear hr
    have hd : decide ((s.size : Int) ≤ 60) = false := by simp; omega
    go_enter Tryz.func77, Tryz.ntmps77
    go_wp2
    go_ret
    exact ⟨by rw [HR.out]; rfl, rfl⟩

end Go.Proofs.YtbhnbkcokhfopaaGreat

/-
  What line.All comes to, as a call.
-/
namespace Go.Proofs.YtbhnbkcokhfopaaGreat
open Go.RowKit

set_option maxHeartbeats 400000 in
theorem all_any (A : Option Addr) (n c : Nat) (l : List ByteArray) (w : World) (hx : Row w A n l) (hn : n ≤ 65536) (hs : ∀ x ∈ l, x.size ≤ maxLen) :
    Calls Tryz.prog 64 #[.slice A n c] w fun e w' => e = .returned (.bool (allB l)) ∧ w = w' := by
  have HX := Lib.hid hx; clear hx
  have HS := Lib.hid hs; clear hs
  go_enter Tryz.func64, Tryz.ntmps64
  go_wp2
  go_loop [7] (fun i => ∃ k : Nat, k ≤ n ∧ i = .int .i64 k ∧ Hid (∀ j : Nat, j < k → rightB (l.getD j ByteArray.empty) = true)) (fun i => n - (intOf i).toNat)
  case atStart => exact ⟨0, Nat.zero_le _, rfl, fun j hj => absurd hj (Nat.not_lt_zero _)⟩
  case round =>
    obtain ⟨k, hk, rfl, hall⟩ := hrel
    by_cases hlt : k < n
    · obtain ⟨b1, o1, rfl, g1⟩ := HX.out.get hlt
      have hkl : k < l.length := by rw [HX.out.len]; exact hlt
      have hsz : (l.getD k ByteArray.empty).size ≤ maxLen := by
        simp only [List.getD, List.getElem?_eq_getElem hkl, Option.getD_some]
        exact HS.out _ (List.getElem_mem hkl)
      have hr := right_any (l.getD k ByteArray.empty) w hsz
      cases hb : rightB (l.getD k ByteArray.empty)
      · rw [hb] at hr
        have e := allB_get hkl hb
        have E := Lib.hid e
        have HR := Lib.hid hr; clear hr hb hsz e hkl hall
        generalize l.getD k ByteArray.empty = x at g1 HR
        go_wp2_with (go_at_call 77; refine HR.out.mono ?_; rintro e w' ⟨rfl, rfl⟩)
        go_ret
        exact ⟨ret_bool E.out.symm, rfl⟩
      · rw [hb] at hr
        have HA : Hid (∀ j : Nat, j < k + 1 → rightB (l.getD j ByteArray.empty) = true) := fun j hj => by
          by_cases e : j = k
          · rw [e]; exact hb
          · exact hall.out j (by omega)
        have HR := Lib.hid hr; clear hr hb hsz hkl hall
        generalize l.getD k ByteArray.empty = x at g1 HR
        go_wp2_with (go_at_call 77; refine HR.out.mono ?_; rintro e w' ⟨rfl, rfl⟩)
        exact ⟨⟨k + 1, by omega, by go_num, HA⟩, by simp [intOf]; omega⟩
    · have e : allB l = true := allB_all fun j hj => hall.out j (by rw [HX.out.len] at hj; omega)
      have E := Lib.hid e; clear e hall
      go_wp2
      go_ret
      exact ⟨ret_bool E.out.symm, rfl⟩

end Go.Proofs.YtbhnbkcokhfopaaGreat

/-
  What tree's Add, Remove, Move, Put and Get come to, as calls.
-/
namespace Go.Proofs.YtbhnbkcokhfopaaGreat
open Go.RowKit Go.Maps

/-- An error's number; the tree is what the document says; nothing else has turned. -/
def Does (r : Tr × Int) (p B : Nat) (w : World) (e : Ending) (w' : World) : Prop := e = .returned (.int .i64 r.2) ∧ TreeAt w' p B r.1 ∧ Turned B w w'

theorem Does.same {t : Tr} {p B : Nat} {w : World} {k : Int} (h : TreeAt w p B t) : Does (t, k) p B w (.returned (.int .i64 k)) w := ⟨rfl, h, Turned.refl _ _⟩

set_option maxHeartbeats 400000 in
theorem add_any (p B : Nat) (nm : ByteArray) (t : Tr) (w : World) (ht : TreeAt w p B t) (hs : nm.size ≤ maxLen) (hl : t.length ≤ 65536) :
    Calls Tryz.prog 21 #[.pointer (some ⟨p, 0, none⟩), .string nm] w (Does (addT t nm) p B w) := by
  have hn := named_any nm w hs
  have hh := has_any p B nm t w ht hs
  cases h1 : namedB nm
  · rw [h1] at hn
    have E : Hid (addT t nm = (t, 20)) := by simp [Hid, addT, h1]
    rw [E.out]
    have HN := Lib.hid hn; have HT := Lib.hid ht
    clear hn hh h1 ht E
    go_enter Tryz.func21, Tryz.ntmps21
    go_wp2_with (go_at_call 43; refine HN.out.mono ?_; rintro e w' ⟨rfl, rfl⟩)
    go_ret
    exact Does.same HT.out
  · rw [h1] at hn
    cases h2 : hasT t nm
    · rw [h2] at hh
      have E : Hid (addT t nm = (withT t nm [], 0)) := by simp [Hid, addT, h1, h2]
      rw [E.out]
      have HT := Lib.hid ht
      obtain ⟨hc, z, hz, rfl⟩ := ht
      have HZ := Lib.hid hz
      have HN := Lib.hid hn; have HH := Lib.hid hh
      have hzl : z.length < maxLen := by rw [mapT_length] at hl; simp only [maxLen]; omega
      clear hn hh h1 h2 E hl hz
      go_enter Tryz.func21, Tryz.ntmps21
      go_wp2_with (first
        | (go_at_call 43; refine HN.out.mono ?_; rintro e w' ⟨rfl, rfl⟩)
        | (go_at_call 44; refine HH.out.mono ?_; rintro e w' ⟨rfl, rfl⟩)
        | (at_mapUpdate; refine wpList_mapUpdate_in _ rfl _ _ _ 73 rfl 9 45 keyed9 Tryz.underlying73 raw B z.length _ rfl HZ.out.own hzl _ _ _ rfl rfl (key9 hs) _ [] (raw_mk none 0 0) ?_; intro w1 hown1 hturn1; have HO := Lib.hid hown1; have HU := Lib.hid hturn1; clear hown1 hturn1))
      go_ret
      have hg := Turned.of_map HU.out
      exact ⟨rfl, HT.out.to hg ⟨_, HZ.out.put HO.out HU.out (Reads.nil w), (withT_map (fun x : Held => x.2) z nm (_, [])).symm⟩, hg⟩
    · rw [h2] at hh
      have E : Hid (addT t nm = (t, 21)) := by simp [Hid, addT, h1, h2]
      rw [E.out]
      have HN := Lib.hid hn; have HH := Lib.hid hh; have HT := Lib.hid ht
      clear hn hh h1 h2 ht E
      go_enter Tryz.func21, Tryz.ntmps21
      go_wp2_with (first
        | (go_at_call 43; refine HN.out.mono ?_; rintro e w' ⟨rfl, rfl⟩)
        | (go_at_call 44; refine HH.out.mono ?_; rintro e w' ⟨rfl, rfl⟩))
      go_ret
      exact Does.same HT.out

set_option maxHeartbeats 400000 in
theorem remove_any (p B : Nat) (nm : ByteArray) (t : Tr) (w : World) (ht : TreeAt w p B t) (hs : nm.size ≤ maxLen) (hl : ∀ f ∈ t, f.2.length ≤ 65536) :
    Calls Tryz.prog 49 #[.pointer (some ⟨p, 0, none⟩), .string nm] w (Does (removeT t nm) p B w) := by
  have HT := Lib.hid ht
  obtain ⟨hc, z, hz, rfl⟩ := ht
  cases hg : getT z nm with
  | none =>
    have E : Hid (removeT (mapT (·.2) z) nm = (mapT (·.2) z, 20)) := by simp [Hid, removeT, getT_map, hg]
    rw [E.out]
    have hl := hz.look_no hs hg
    clear hz hg E
    go_enter Tryz.func49, Tryz.ntmps49
    go_wp2
    go_ret
    exact Does.same HT.out
  | some x =>
    have hlk := hz.look_yes hs hg
    obtain ⟨A, n, c, hv, hnc, hr⟩ := hz.get hg
    have hlen : n ≤ 65536 := by
      have := hl (nm, x.2) (by simp only [mapT, List.mem_map]; exact ⟨_, getT_mem hg, rfl⟩)
      rw [← hr.len]; exact this
    rw [hv] at hlk
    by_cases h0 : 0 < n
    · have E : Hid (removeT (mapT (·.2) z) nm = (mapT (·.2) z, 22)) := by simp [Hid, removeT, getT_map, hg, hr.len, h0]
      rw [E.out]
      have hd : decide (0 < n) = true := by simpa using h0
      clear hz hg E hr hv hl
      go_enter Tryz.func49, Tryz.ntmps49
      go_wp2
      go_ret
      exact Does.same HT.out
    · have E : Hid (removeT (mapT (·.2) z) nm = (withoutT (mapT (·.2) z) nm, 0)) := by simp [Hid, removeT, getT_map, hg, hr.len, h0]
      rw [E.out]
      have hd : decide (0 < n) = false := by simpa using h0
      have HZ := Lib.hid hz
      clear hz hg E hr hv hl
      go_enter Tryz.func49, Tryz.ntmps49
      go_wp2_with (at_delete; refine wpList_delete_own _ rfl _ _ 73 9 rfl 45 keyed9 Tryz.underlying73 raw B z.length _ rfl HZ.out.own _ _ rfl (key9 hs) ?_; intro w1 hown1 hturn1; have HO := Lib.hid hown1; have HU := Lib.hid hturn1; clear hown1 hturn1)
      go_ret
      have hg := Turned.of_map HU.out
      exact ⟨rfl, HT.out.to hg ⟨_, HZ.out.del HO.out HU.out, (withoutT_map (fun x : Held => x.2) z nm).symm⟩, hg⟩

end Go.Proofs.YtbhnbkcokhfopaaGreat
