/-
  What swap's turnMoveAndHunk comes to, as a call.
-/
import Derived.Test.YtalgapoigkbiaaaSwTurnHM
import Derived.RegionTactic
import Derived.Deep.Cut
namespace Go.Proofs.Ytalgapoigkbiaaa
open Go.RowKit Go.Maps

set_option maxRecDepth 100000 in
set_option maxHeartbeats 800000 in
theorem turnMH_any (x y : PrC) (w : World) (hx : PrOk w x) (hy : PrOk w y) :
    Calls Try.prog 45 #[prV x, prV y] w (GivesW x y (turnMH x.v y.v) w) := by
  have HX := Lib.hid hx; have HY := Lib.hid hy
  clear hx hy
  obtain ⟨⟨kd, nm, to, pl, old, new⟩, A, n, c, B, m, d⟩ := x
  obtain ⟨⟨ke, nn, tt, pk, pold, pnew⟩, C, i, e, D, j, f⟩ := y
  unfold prV turnMH
  dsimp only at *
  by_cases h1 : nn = nm
  · subst h1
    rw [if_pos rfl]
    go_enter Try.func45, Try.ntmps45
    go_wp2
    obtain ⟨_, _, b2, b3, hl⟩ := four_boxes w _ _ _ _ 27
    exact bodyPost_ret (results_two rfl _ _ _ _ _ _ _ _ _ _ _ _ rfl rfl rfl b2 b3 Try.underlying27 rfl Try.primSize Try.primSize) rfl ⟨zeroC, zeroC, rfl, rfl, rfl, (fun _ _ _ => ⟨zeroC_ok _, zeroC_ok _⟩), hl⟩
  · rw [if_neg h1]
    by_cases h2 : nn = to
    · subst h2
      rw [if_pos rfl]
      have t1 := text_ne h1
      go_enter Try.func45, Try.ntmps45
      go_upto_region 6 with fail
      go_region
      go_wp2
      obtain ⟨_, _, b2, b3, hl⟩ := four_boxes w _ _ _ _ 27
      exact bodyPost_ret (results_two rfl _ _ _ _ _ _ _ _ _ _ _ _ rfl rfl rfl (b2.later (Later.refl _).drew) (b3.later (Later.refl _).drew) Try.underlying27 rfl Try.primSize Try.primSize) rfl
        ⟨inC ⟨⟨ke, nn, tt, pk, pold, pnew⟩, C, i, e, D, j, f⟩ nm, ⟨⟨kd, nm, nn, pl, old, new⟩, A, n, c, B, m, d⟩, rfl, rfl, rfl, (fun _ hx9 hy9 => ⟨(inC_ok hy9 hx9.name), hx9⟩), hl.drew⟩
    · rw [if_neg h2]
      have t1 := text_ne h1
      have t2 := text_ne h2
      go_enter Try.func45, Try.ntmps45
      go_upto_region 6 with fail
      go_region
      go_wp2
      obtain ⟨_, _, b2, b3, hl⟩ := four_boxes w _ _ _ _ 27
      exact bodyPost_ret (results_two rfl _ _ _ _ _ _ _ _ _ _ _ _ rfl rfl rfl (b2.later (Later.refl _).drew) (b3.later (Later.refl _).drew) Try.underlying27 rfl Try.primSize Try.primSize) rfl
        ⟨⟨⟨ke, nn, tt, pk, pold, pnew⟩, C, i, e, D, j, f⟩, ⟨⟨kd, nm, to, pl, old, new⟩, A, n, c, B, m, d⟩, rfl, rfl, rfl, (fun _ hx9 hy9 => ⟨hy9, hx9⟩), hl.drew⟩

end Go.Proofs.Ytalgapoigkbiaaa
