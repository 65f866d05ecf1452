/-
  What the document's Invert comes to, as a call.
-/
import Derived.Test.YtboffgmaohcpfaaDoorPmClone
namespace Go.Proofs.YtboffgmaohcpfaaDoor
open Go.RowKit

/-- The prim that undoes it, over the same rows. -/
def invC (x : PrC) : PrC := if x.v.kind = 0 then ⟨invertP x.v, x.B, x.m, x.d, x.A, x.n, x.c⟩ else ⟨invertP x.v, x.A, x.n, x.c, x.B, x.m, x.d⟩
theorem invC_v (x : PrC) : (invC x).v = invertP x.v := by unfold invC; split <;> rfl
theorem Tryd.refPrimSize : (Tryd.prog.info? 24).map (·.size) = some 6 := by kernel_rfl

set_option maxRecDepth 100000 in
set_option maxHeartbeats 800000 in
theorem refInvert_any (x : PrC) (w : World) :
    Calls Tryd.prog 13 #[prV x] w fun e w' => e = .returned (prV (invC x)) ∧ Later w w' := by
  obtain ⟨⟨kd, nm, to, pl, old, new⟩, A, n, c, B, m, d⟩ := x
  unfold prV
  dsimp only
  by_cases h0 : kd = 0
  · subst h0
    have E : Hid (invC ⟨⟨0, nm, to, pl, old, new⟩, A, n, c, B, m, d⟩ = ⟨⟨0, nm, to, pl, new, old⟩, B, m, d, A, n, c⟩) := by simp [Hid, invC, invertP]
    rw [E.out]
    clear E
    dsimp only
    go_enter Tryd.func13, Tryd.ntmps13
    go_wp2
    exact bodyPost_ret (results_cell_row rfl _ _ (w.heap.size + 1) 24 _ (0, 0) _ rfl (heap_alloc2_new w _ _) Tryd.underlying24 rfl Tryd.refPrimSize) rfl ⟨rfl, ((Later.refl w).alloc _).alloc _⟩
  by_cases h1 : kd = 1
  · subst h1
    have E : Hid (invC ⟨⟨1, nm, to, pl, old, new⟩, A, n, c, B, m, d⟩ = ⟨⟨2, nm, to, pl, old, new⟩, A, n, c, B, m, d⟩) := by simp [Hid, invC, invertP]
    rw [E.out]
    clear E
    dsimp only
    go_enter Tryd.func13, Tryd.ntmps13
    go_wp2
    exact bodyPost_ret (results_cell_row rfl _ _ (w.heap.size + 1) 24 _ (0, 0) _ rfl (heap_alloc2_new w _ _) Tryd.underlying24 rfl Tryd.refPrimSize) rfl ⟨rfl, ((Later.refl w).alloc _).alloc _⟩
  by_cases h2 : kd = 2
  · subst h2
    have E : Hid (invC ⟨⟨2, nm, to, pl, old, new⟩, A, n, c, B, m, d⟩ = ⟨⟨1, nm, to, pl, old, new⟩, A, n, c, B, m, d⟩) := by simp [Hid, invC, invertP]
    rw [E.out]
    clear E
    dsimp only
    go_enter Tryd.func13, Tryd.ntmps13
    go_wp2
    exact bodyPost_ret (results_cell_row rfl _ _ (w.heap.size + 1) 24 _ (0, 0) _ rfl (heap_alloc2_new w _ _) Tryd.underlying24 rfl Tryd.refPrimSize) rfl ⟨rfl, ((Later.refl w).alloc _).alloc _⟩
  by_cases h3 : kd = 3
  · subst h3
    have E : Hid (invC ⟨⟨3, nm, to, pl, old, new⟩, A, n, c, B, m, d⟩ = ⟨⟨3, to, nm, pl, old, new⟩, A, n, c, B, m, d⟩) := by simp [Hid, invC, invertP]
    rw [E.out]
    clear E
    dsimp only
    go_enter Tryd.func13, Tryd.ntmps13
    go_wp2
    exact bodyPost_ret (results_cell_row rfl _ _ (w.heap.size + 1) 24 _ (0, 0) _ rfl (heap_alloc2_new w _ _) Tryd.underlying24 rfl Tryd.refPrimSize) rfl ⟨rfl, ((Later.refl w).alloc _).alloc _⟩
  have E : Hid (invC ⟨⟨kd, nm, to, pl, old, new⟩, A, n, c, B, m, d⟩ = ⟨⟨kd, nm, to, pl, old, new⟩, A, n, c, B, m, d⟩) := by simp [Hid, invC, invertP, h0, h1, h2, h3]
  rw [E.out]
  clear E
  dsimp only
  go_enter Tryd.func13, Tryd.ntmps13
  go_wp2
  exact bodyPost_ret (results_cell_row rfl _ _ (w.heap.size + 1) 24 _ (0, 0) _ rfl (heap_alloc2_new w _ _) Tryd.underlying24 rfl Tryd.refPrimSize) rfl ⟨rfl, ((Later.refl w).alloc _).alloc _⟩

end Go.Proofs.YtboffgmaohcpfaaDoor
