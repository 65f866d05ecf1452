/-
  More operations of a region that draws its order, over a device.
-/
import Derived.Test.YtknjkkdoeanhbaaBkOps
namespace Go.Proofs.Ytknjkkdoeanhbaa
open Go.RowKit

section
variable {ops : Array Oper} {Q : Exit → Act → World → Prop} {K : Act → World → Prop} {i : Nat} {dst : Option Tmp} {js : List Nat} {a : Act} {w : World}
theorem OpIs.loadDP {k : Tmp} {g o : Nat} {u : Value} (h : OpIs ops i (.load 25 (.tmp k)) dst js) (he : a.eval (.tmp k) = .pointer (some ⟨g, o, none⟩)) (hc : w.cell? ⟨g, o, none⟩ = some u) (hk : K (a.put dst (u)) w) : wpOp Try.prog ops Q i K a w :=
  h.go fun op h1 h2 => by
    have hr : (execOp a.eval op).run Try.prog w = .ok (.value (u)) w := by
      clear hk
      unfold execOp
      rw [h1]
      dsimp only
      rw [he]
      go_simp
    unfold Oper.wp
    rw [hr]
    show K _ _
    rw [h2]
    exact hk
theorem OpIs.loadDI {k : Tmp} {g o : Nat} {x : Int} (h : OpIs ops i (.load 3 (.tmp k)) dst js) (he : a.eval (.tmp k) = .pointer (some ⟨g, o, none⟩)) (hc : w.cell? ⟨g, o, none⟩ = some (.int .i64 x)) (hk : K (a.put dst (.int .i64 x)) w) : wpOp Try.prog ops Q i K a w :=
  h.go fun op h1 h2 => by
    have hr : (execOp a.eval op).run Try.prog w = .ok (.value (.int .i64 x)) w := by
      clear hk
      unfold execOp
      rw [h1]
      dsimp only
      rw [he]
      go_simp
    unfold Oper.wp
    rw [hr]
    show K _ _
    rw [h2]
    exact hk
theorem OpIs.fieldW0 {k : Tmp} {g : Nat} (h : OpIs ops i (.fieldAddr 75 (.tmp k) 0) dst js) (he : a.eval (.tmp k) = .pointer (some ⟨g, 0, none⟩)) (hk : K (a.put dst (.pointer (some ⟨g, 0, none⟩))) w) : wpOp Try.prog ops Q i K a w :=
  h.go fun op h1 h2 => by
    have hr : (execOp a.eval op).run Try.prog w = .ok (.value (.pointer (some ⟨g, 0, none⟩))) w := by
      clear hk
      unfold execOp
      rw [h1]
      dsimp only
      rw [he]
      go_simp
    unfold Oper.wp
    rw [hr]
    show K _ _
    rw [h2]
    exact hk
theorem OpIs.fieldW1 {k : Tmp} {g : Nat} (h : OpIs ops i (.fieldAddr 75 (.tmp k) 1) dst js) (he : a.eval (.tmp k) = .pointer (some ⟨g, 0, none⟩)) (hk : K (a.put dst (.pointer (some ⟨g, 1, none⟩))) w) : wpOp Try.prog ops Q i K a w :=
  h.go fun op h1 h2 => by
    have hr : (execOp a.eval op).run Try.prog w = .ok (.value (.pointer (some ⟨g, 1, none⟩))) w := by
      clear hk
      unfold execOp
      rw [h1]
      dsimp only
      rw [he]
      go_simp
    unfold Oper.wp
    rw [hr]
    show K _ _
    rw [h2]
    exact hk
theorem OpIs.fieldW2 {k : Tmp} {g : Nat} (h : OpIs ops i (.fieldAddr 75 (.tmp k) 2) dst js) (he : a.eval (.tmp k) = .pointer (some ⟨g, 0, none⟩)) (hk : K (a.put dst (.pointer (some ⟨g, 65, none⟩))) w) : wpOp Try.prog ops Q i K a w :=
  h.go fun op h1 h2 => by
    have hr : (execOp a.eval op).run Try.prog w = .ok (.value (.pointer (some ⟨g, 65, none⟩))) w := by
      clear hk
      unfold execOp
      rw [h1]
      dsimp only
      rw [he]
      go_simp
    unfold Oper.wp
    rw [hr]
    show K _ _
    rw [h2]
    exact hk
theorem OpIs.indexDC {j k : Tmp} {g n c m : Nat} (h : OpIs ops i (.indexAddr 64 (.tmp j) (.tmp k)) dst js) (hj : a.eval (.tmp j) = .slice (some ⟨g, 0, none⟩) n c) (hv : a.eval (.tmp k) = .int .i64 (m : Nat)) (hm : m < n) (hk : K (a.put dst (.pointer (some ⟨g, m * 64, none⟩))) w) : wpOp Try.prog ops Q i K a w :=
  h.go fun op h1 h2 => by
    have hr : (execOp a.eval op).run Try.prog w = .ok (.value (.pointer (some ⟨g, m * 64, none⟩))) w := by
      clear hk
      unfold execOp
      rw [h1]
      dsimp only
      rw [hj, hv]
      go_simp
    unfold Oper.wp
    rw [hr]
    show K _ _
    rw [h2]
    exact hk
/-- An array is stored into a row. -/
theorem OpIs.storeMid {ty : TypeId} {j k : Tmp} {b o : Nat} {cs : List Value} (h : OpIs ops i (.store ty (.tmp j) (.tmp k)) none js) (hj : a.eval (.tmp j) = .pointer (some ⟨b, o, none⟩)) (hv : a.eval (.tmp k) = .agg cs.toArray) (ht : w.there b o cs.length) (hi : (Try.prog.info? ty).map (·.size) = some cs.length) (h1 : ∀ v ∈ cs, v.oneCell' = true)
    (hk : ∀ w', w' = w.setCells b o cs → K a w') : wpOp Try.prog ops Q i K a w :=
  h.go fun op h3 h2 => wp_store_mid ty _ _ h3 b o cs.toArray hj hv (by simpa using ht) (by simpa using hi) (all_oneCell_toArray h1) (by rw [h2]; exact hk _ rfl)
end

end Go.Proofs.Ytknjkkdoeanhbaa
