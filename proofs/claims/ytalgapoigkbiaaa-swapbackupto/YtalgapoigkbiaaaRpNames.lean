/-
  What the document's Names comes to, as a call.
-/
import Derived.Test.YtalgapoigkbiaaaPmNames
namespace Go.Proofs.Ytalgapoigkbiaaa
open Go.RowKit Go.Maps

set_option maxRecDepth 100000 in
set_option maxHeartbeats 800000 in
theorem refNamesP_any (x : PrC) (w : World) : Calls Try.prog 73 #[prV x] w (GivesRow (namesP x.v) w) := by
  obtain ⟨⟨kd, nm, to, pl, old, new⟩, A, n, c, B, m, d⟩ := x
  unfold prV
  dsimp only
  by_cases h3 : kd = 3
  · subst h3
    rw [namesP_move]
    have hlt := less_is nm to
    by_cases h : ltN nm to = true
    · rw [if_pos h]
      rw [h] at hlt
      go_enter Try.func73, Try.ntmps73
      go_wp2
      go_ret
      exact ⟨_, _, rfl, Nat.le_refl _, Row.lit2 w _ [nm, to] 9, ((Later.refl w).alloc _).alloc _⟩
    · rw [if_neg h]
      rw [Bool.eq_false_iff.2 h] at hlt
      go_enter Try.func73, Try.ntmps73
      go_wp2
      go_ret
      exact ⟨_, _, rfl, Nat.le_refl _, Row.lit2 w _ [to, nm] 9, ((Later.refl w).alloc _).alloc _⟩
  · rw [namesP_one kd nm to pl old new h3]
    go_enter Try.func73, Try.ntmps73
    go_wp2
    go_ret
    exact ⟨_, _, rfl, Nat.le_refl _, Row.lit2 w _ [nm] 9, ((Later.refl w).alloc _).alloc _⟩

end Go.Proofs.Ytalgapoigkbiaaa
