/-
  What prim's deeds comes to, as a call: a new map from kinds to functions.
-/
import Derived.Test.YtboffgmaohcpfaaDoorPrMem
import Derived.Test.YtboffgmaohcpfaaDoorTrMem
import Derived.Test.YtboffgmaohcpfaaDoorTrHas
import Derived.Lib.Hide
namespace Go.Proofs.YtboffgmaohcpfaaDoor
open Go.RowKit Go.Maps

/-- How a function reads: as itself. -/
def rawF (v : Value) : Option (DataW Value × List MemPlace) := some (.held v, [])

def deedV (f : FuncId) : Value := .func (.func f) #[] #[]
def deedsD : DataW Value := ((((DataW.map []).put (.int .i64 0) (.held (deedV 46))).put (.int .i64 1) (.held (deedV 47))).put (.int .i64 2) (.held (deedV 48))).put (.int .i64 3) (.held (deedV 49))

/-- Block B is the map of deeds. -/
def Deeds (w : World) (B : Nat) : Prop := w.ownsMap Tryd.prog 3 rawF B 4 deedsD

theorem keyed3 : Keyed Tryd.prog 3 := int_keyed Tryd.underlying3
theorem key3 {a : Int} (h : (Lit.int .i64 a).wf = true) : keyOf Tryd.prog 3 (.int .i64 a) = some (.int .i64 a) := keyOf_int_mk Tryd.underlying3 h

set_option maxHeartbeats 400000 in
theorem deeds_any (w : World) : Calls Tryd.prog 35 #[] w fun e w' => ∃ B, e = .returned (.map (some B)) ∧ Deeds w' B ∧ Later w w' := by
  have hmm := @run_makeMap Tryd.prog
  have o1 := World.ownsMap_made (H := Value) w Tryd.prog 3 rawF
  obtain ⟨w2, r2, o2, t2⟩ := o1.store keyed3 Tryd.underlying53 (by decide) (key3 (a := 0) (by decide)) (show rawF (deedV 46) = _ from rfl)
  obtain ⟨w3, r3, o3, t3⟩ := o2.store keyed3 Tryd.underlying53 (by decide) (key3 (a := 1) (by decide)) (show rawF (deedV 47) = _ from rfl)
  obtain ⟨w4, r4, o4, t4⟩ := o3.store keyed3 Tryd.underlying53 (by decide) (key3 (a := 2) (by decide)) (show rawF (deedV 48) = _ from rfl)
  obtain ⟨w5, r5, o5, t5⟩ := o4.store keyed3 Tryd.underlying53 (by decide) (key3 (a := 3) (by decide)) (show rawF (deedV 49) = _ from rfl)
  have hl : Later w w5 := ((((Later.refl w).alloc _).turn (Turned.of_map t2) (Nat.le_refl _)).turn (Turned.of_map t3) (Nat.le_refl _)).turn (Turned.of_map t4) (Nat.le_refl _) |>.turn (Turned.of_map t5) (Nat.le_refl _)
  have O5 := Lib.hid o5; have HL := Lib.hid hl
  unfold deedV at r2 r3 r4 r5
  clear o1 o2 o3 o4 o5 t2 t3 t4 t5 hl
  go_enter Tryd.func35, Tryd.ntmps35
  go_wp2
  go_ret
  exact ⟨_, rfl, O5.out, HL.out⟩

/-- What is found there. -/
def deedAt (k : Int) : FuncId := if k = 0 then 46 else if k = 1 then 47 else if k = 2 then 48 else 49
theorem Deeds.look {w : World} {B : Nat} (h : Deeds w B) {k : Int} (hk : k = 0 ∨ k = 1 ∨ k = 2 ∨ k = 3) :
    (Instr.lookup 53 (.map (some B)) (.int .i64 k) false).run Tryd.prog w = .ok (.func (.func (deedAt k)) #[] #[]) w := by
  have hz : (zeroValue 52).run Tryd.prog w = .ok .nilFunc w := by kernel_rfl
  have hw : (Lit.int .i64 k).wf = true := by rcases hk with rfl | rfl | rfl | rfl <;> decide
  obtain ⟨v, ps, hrun, hv⟩ := World.ownsMap.lookup h keyed3 Tryd.underlying53 hz (show rawF .nilFunc = _ from rfl) (key3 hw)
  have e : deedsD.atKey (.int .i64 k) (.held .nilFunc) = .held (deedV (deedAt k)) := by rcases hk with rfl | rfl | rfl | rfl <;> rfl
  rw [e] at hv
  simp only [rawF, Option.some.injEq, Prod.mk.injEq, DataW.held.injEq] at hv
  rw [hrun, hv.1]
  rfl
theorem Deeds.later {w w' : World} {B : Nat} (h : Deeds w B) (hl : Later w w') : Deeds w' B := h.kept (row := none) ⟨hl.os, hl.tape, hl.output, hl.size, fun i hi _ => hl.block i hi⟩ (by simp)

end Go.Proofs.YtboffgmaohcpfaaDoor
