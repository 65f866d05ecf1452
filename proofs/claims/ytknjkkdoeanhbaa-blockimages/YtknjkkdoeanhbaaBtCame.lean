/-
  Bytes that come in: from what is read as data to what the calls ask.
-/
import Derived.Test.YtknjkkdoeanhbaaRows
import Derived.Test.YtknjkkdoeanhbaaChecked
import Derived.Test.YtknjkkdoeanhbaaBtMem
import Derived.ProofKit
import Derived.OpenShut
import Derived.SizedLaws
import Derived.SliceStrings
namespace Go.Proofs.Ytknjkkdoeanhbaa
open Go.ChangeShapes Go.WideShapes Go.ChangeAt Go.RowKit

theorem Try.cells5_9 : Try.prog.cellsOf 5 = 1 := by kernel_rfl
/-- Bytes that came in, nil or not. -/
theorem came_bytes {H : Type} {enc : TypeId × Value → H} {W : World} {v : Value} {fuel : Nat} {x : DataW H × List MemPlace}
    (hf : DataW.trod enc Try.prog W 0 (fun _ => true) true fuel 33 [v] = some x) : ∃ (A : Option Addr) (n c : Nat) (bs : Bs), v = .slice A n c ∧ n ≤ c ∧ (A = none → c = 0) ∧ BsAt W A n bs := by
  rcases open_ints Try.underlying33 Try.underlying5 Try.cells5_9 hf with ⟨hcs, hx⟩ | ⟨a, len, cap, zs, hcs, _, hl, hm, hz, hx, hcell, hwf⟩
  · simp at hcs
    exact ⟨none, 0, 0, [], hcs, Nat.le_refl _, fun _ => rfl, BsAt.none _ _⟩
  · simp at hcs
    simp only [if_true] at hz
    obtain ⟨b, off, spot⟩ := a
    refine ⟨_, len, cap, (zs.take len).map fun z => UInt8.ofNat z.toNat, hcs, hl, (fun e => by cases e), ⟨by rw [List.length_map, List.length_take]; omega, fun h0 => ?_⟩⟩
    have hspot : spot = none := by simpa [Addr.add] using World.cell?_spot (hcell 0 (by omega))
    subst hspot
    refine ⟨b, off, rfl, fun j x hj => ?_⟩
    rw [List.getElem?_map] at hj
    obtain ⟨z, hzj, rfl⟩ := Option.map_eq_some_iff.1 hj
    have hjl : j < len := by
      have := (List.getElem?_eq_some_iff.1 hzj).1
      rw [List.length_take] at this; omega
    rw [List.getElem?_take_of_lt hjl] at hzj
    have hw := hwf z (List.mem_of_getElem? hzj)
    have h256 : 0 ≤ z ∧ z ≤ 255 := by
      simp only [Lit.wf, Bool.and_eq_true, decide_eq_true_eq] at hw
      exact hw
    have hc := hcell j (by omega)
    rw [plain_add] at hc
    rw [hc]
    have e1 : zs.getD j 0 = z := by simp [List.getD, hzj]
    rw [e1]
    have e2 : ((UInt8.ofNat z.toNat).toNat : Int) = z := by
      rw [UInt8.toNat_ofNat']
      omega
    rw [e2]

end Go.Proofs.Ytknjkkdoeanhbaa
