/-
  What the document's Do comes to, as a call.
-/
import Derived.Test.YtbjbimahmbapdaaDoorRfWith
import Derived.Test.YtbjbimahmbapdaaDoorTrNamed
import Derived.Test.YtbjbimahmbapdaaDoorRAll
import Derived.Test.YtbjbimahmbapdaaDoorInfo
import Derived.Deep.RegionHeld3
namespace Go.Proofs.YtbjbimahmbapdaaDoor
open Go.RowKit Go.Maps

/-- A tree of the document's, and an error's number. -/
def GivesDo (r : Tr × Int) (w : World) (e : Ending) (w' : World) : Prop := ∃ v, e = .returned (.tuple #[v, .int .i64 r.2]) ∧ RefAt w' v r.1 ∧ Later w w'

/-- append onto a row of the call's own, as a step of a region that draws its order. -/
theorem step_append_row {P : Program} {w0 w : World} {e : TypeId} {v : Value} {olds : List ByteArray} {ops : Array Oper} {o : Oper} {a : Act} {K : Act → World → Prop} {Q : Exit → Act → World → Prop} {E : Prop} (hgd : o.guard = none) (s x : Operand) (t : TypeId)
    (ho : o.op = .call { callee := .builtin .append, args := #[s, x], argTypes := #[t, t] }) (i : TypeInfo)
    (ht : P.underlying t = some (.slice e)) (hi : P.info? e = some i) (hz : i.zero = some (.string ByteArray.empty)) (hsize : i.size = 1) (hby : i.bytes = 16)
    (hown : Own e w0 w v olds) (hs : a.eval s = v) (A : Option Addr) (m c : Nat) (news : List ByteArray) (hx : a.eval x = .slice A m c) (hr : Row w A m news) (hb : olds.length + m ≤ 1000000)
    (h : ∀ v' w', Own e w0 w' v' (olds ++ news) → w.grownBy w' v.ownBlock → K (a.put o.dst v') w') :
    if Region.wanted o (yielded ops a.tmps) = true then Oper.wp P o a w K Q else E := by
  have hw : Region.wanted o (yielded ops a.tmps) = true := by simp [Region.wanted, hgd]
  rw [if_pos hw]
  obtain ⟨v', w', hrun, h2, h3⟩ := run_append_row (P := P) t o.type i ht hi hz hsize hby hown A m c news hr hb
  unfold Oper.wp execOp
  simp only [ho, resolve, invoke, builtin, Sem.run_bind, Sem.run_pure, Result.andThen_ok, List.map_toArray, List.map_cons, List.map_nil, hs, hx, hrun]
  exact h v' w' h2 h3

section
variable (A : Option Addr) (n c : Nat) (z : Fl Held) (nm to : ByteArray) (Al : Option Addr) (nl cl : Nat) (l : List ByteArray) (w : World)

set_option maxRecDepth 100000 in
set_option maxHeartbeats 400000 in
theorem refDo0 (hx : RefRow w A n z) (hc : n ≤ c) (hn : n ≤ 65536) (hs : nm.size ≤ maxLen) :
    Calls Tryd.prog 12 #[.slice A n c, .agg #[.int .i64 0, .string nm, .string to, .slice Al nl cl]] w (GivesDo (addT (mapT (·.2) z) nm) w) := by
  have HX := Lib.hid hx
  have HG := Lib.hid (fun (w1 : World) (h : Later w w1) => refGet_any A n c z nm w1 (hx.later h) hn)
  have HN := Lib.hid (fun w1 => refNamed_any nm w1 hs)
  have HS := Lib.hid hs
  have same : Hid (∀ (w1 : World) (k : Int), Later w w1 → GivesDo (mapT (·.2) z, k) w (.returned (.tuple #[.slice A n c, .int .i64 k])) w1) := fun w1 k h => ⟨_, rfl, ⟨A, n, c, z, rfl, hc, hx.later h, rfl⟩, h⟩
  have hlb : Later w (w.alloc (.cells #[.int .i64 0, .string nm, .string to, .slice Al nl cl] 31)) := (Later.refl w).alloc _
  have HLB := Lib.hid hlb
  clear hx hs hlb
  cases h1 : namedB nm
  · have E : Hid (addT (mapT (·.2) z) nm = (mapT (·.2) z, 20)) := by simp [Hid, addT, h1]
    rw [E.out]
    rw [h1] at HN
    clear E h1
    go_enter Tryd.func12, Tryd.ntmps12
    go_wp2_with fail
    refine (HG.out _ HLB.out).mono ?_
    rintro e w1 ⟨rfl, rfl⟩
    generalize got (getT z nm) = gv
    generalize hasT z nm = gb
    go_wp2_with fail
    refine (HN.out _).mono ?_
    rintro e w1 ⟨rfl, rfl⟩
    go_wp2
    go_ret2
    exact same.out _ _ HLB.out
  · rw [h1] at HN
    cases h2 : hasT z nm
    · have E : Hid (addT (mapT (·.2) z) nm = (withT (mapT (·.2) z) nm [], 0)) := by simp [Hid, addT, h1, hasT_map, h2]
      rw [E.out]
      rw [h2] at HG
      have HW := Lib.hid (fun (w1 : World) (h : Later w w1) => refWith_any A n c z nm none 0 0 [] w1 (HX.out.later h) (Reads.nil w1) hn)
      clear E h1 h2
      go_enter Tryd.func12, Tryd.ntmps12
      go_wp2_with fail
      refine (HG.out _ HLB.out).mono ?_
      rintro e w1 ⟨rfl, rfl⟩
      generalize got (getT z nm) = gv
      go_wp2_with fail
      refine (HN.out _).mono ?_
      rintro e w1 ⟨rfl, rfl⟩
      go_wp2_with fail
      refine (HW.out _ HLB.out).mono ?_
      rintro e w1 ⟨A1, n1, c1, rfl, hc1, hr1, hl1⟩
      have HR1 := Lib.hid hr1; have HL1 := Lib.hid hl1; clear hr1 hl1
      go_wp2
      go_ret2
      exact ⟨_, rfl, ⟨A1, n1, c1, _, rfl, hc1, HR1.out, (withT_map (fun x : Held => x.2) z nm (_, [])).symm⟩, HLB.out.trans HL1.out⟩
    · have E : Hid (addT (mapT (·.2) z) nm = (mapT (·.2) z, 21)) := by simp [Hid, addT, h1, hasT_map, h2]
      rw [E.out]
      rw [h2] at HG
      clear E h1 h2
      go_enter Tryd.func12, Tryd.ntmps12
      go_wp2_with fail
      refine (HG.out _ HLB.out).mono ?_
      rintro e w1 ⟨rfl, rfl⟩
      generalize got (getT z nm) = gv
      go_wp2_with fail
      refine (HN.out _).mono ?_
      rintro e w1 ⟨rfl, rfl⟩
      go_wp2
      go_ret2
      exact same.out _ _ HLB.out
end

end Go.Proofs.YtbjbimahmbapdaaDoor
