/-
  What tree.New, Named, has and Get come to, as calls.
-/
import Derived.Test.YtboffgmaohcpfaaDoorChecked
import Derived.Test.YtboffgmaohcpfaaDoorTrMem
import Derived.Test.YtboffgmaohcpfaaDoorWords
import Derived.Deep.LoopGhost
import Derived.Deep.QuietTactic
import Derived.BigQuiet
import Derived.Lib.Hide
namespace Go.Proofs.YtboffgmaohcpfaaDoor
open Go.RowKit Go.Maps

set_option maxHeartbeats 400000 in
theorem has_any (p B : Nat) (nm : ByteArray) (t : Tr) (w : World) (ht : TreeAt w p B t) (hs : nm.size ≤ maxLen) :
    Calls Tryd.prog 33 #[.pointer (some ⟨p, 0, none⟩), .string nm] w fun e w' => e = .returned (.bool (hasT t nm)) ∧ w = w' := by
  obtain ⟨hc, z, hz, rfl⟩ := ht
  rw [hasT_map]
  cases hg : getT z nm with
  | none =>
    have e : hasT z nm = false := hasT_no.2 (getT_none.1 hg)
    have E := Lib.hid e
    have hl := hz.look_no hs hg
    clear e hz hg
    go_enter Tryd.func33, Tryd.ntmps33
    go_wp2
    go_ret
    exact ⟨ret_bool E.out.symm, rfl⟩
  | some x =>
    have e : hasT z nm = true := getT_has hg
    have E := Lib.hid e
    have hl := hz.look_yes hs hg
    clear e hz hg
    go_enter Tryd.func33, Tryd.ntmps33
    go_wp2
    go_ret
    exact ⟨ret_bool E.out.symm, rfl⟩

/-- A new tree. -/
def NewTree (t : Tr) (w : World) (e : Ending) (w' : World) : Prop :=
  ∃ p B, e = .returned (.pointer (some ⟨p, 0, none⟩)) ∧ TreeAt w' p B t ∧ w.heap.size ≤ p ∧ w.heap.size ≤ B ∧ Later w w'

set_option maxHeartbeats 400000 in
theorem new_any (w : World) : Calls Tryd.prog 19 #[] w (NewTree [] w) := by
  have hmm := @run_makeMap Tryd.prog
  go_enter Tryd.func19, Tryd.ntmps19
  go_wp2
  go_ret
  refine ⟨_, _, rfl, ⟨?_, [], (FA.made w).later ((Later.refl _).alloc _), rfl⟩, by simp, Nat.le_refl _, ((Later.refl _).alloc _).alloc _⟩
  simp

end Go.Proofs.YtboffgmaohcpfaaDoor
