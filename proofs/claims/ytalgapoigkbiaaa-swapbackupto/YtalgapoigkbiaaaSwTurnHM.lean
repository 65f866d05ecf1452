/-
  What swap's turnHunkAndMove comes to, as a call.
-/
import Derived.Test.YtalgapoigkbiaaaSwMem
import Derived.RegionTactic
import Derived.Deep.Cut
namespace Go.Proofs.Ytalgapoigkbiaaa
open Go.RowKit Go.Maps

theorem four_boxes (w : World) (a b c d : Array Value) (t : TypeId) : BoxAt ((((w.alloc (.cells a t)).alloc (.cells b t)).alloc (.cells c t)).alloc (.cells d t)) w.heap.size a t ∧ BoxAt ((((w.alloc (.cells a t)).alloc (.cells b t)).alloc (.cells c t)).alloc (.cells d t)) (w.heap.size + 1) b t ∧
    BoxAt ((((w.alloc (.cells a t)).alloc (.cells b t)).alloc (.cells c t)).alloc (.cells d t)) (w.heap.size + 1 + 1) c t ∧ BoxAt ((((w.alloc (.cells a t)).alloc (.cells b t)).alloc (.cells c t)).alloc (.cells d t)) (w.heap.size + 1 + 1 + 1) d t ∧ Later w ((((w.alloc (.cells a t)).alloc (.cells b t)).alloc (.cells c t)).alloc (.cells d t)) := by
  refine ⟨(((BoxAt.made w a t).alloc _).alloc _).alloc _, ?_, ?_, ?_, ((((Later.refl w).alloc _).alloc _).alloc _).alloc _⟩
  · have := ((BoxAt.made (w.alloc (.cells a t)) b t).alloc (.cells c t)).alloc (.cells d t)
    simpa using this
  · have := (BoxAt.made ((w.alloc (.cells a t)).alloc (.cells b t)) c t).alloc (.cells d t)
    simpa using this
  · have := BoxAt.made (((w.alloc (.cells a t)).alloc (.cells b t)).alloc (.cells c t)) d t
    simpa using this

set_option maxRecDepth 100000 in
set_option maxHeartbeats 800000 in
theorem turnHM_any (x y : PrC) (w : World) (hx : PrOk w x) (hy : PrOk w y) :
    Calls Try.prog 44 #[prV x, prV y] w (GivesW x y (turnHM x.v y.v) w) := by
  have HX := Lib.hid hx; have HY := Lib.hid hy
  clear hx hy
  obtain ⟨⟨kd, nm, to, pl, old, new⟩, A, n, c, B, m, d⟩ := x
  obtain ⟨⟨ke, nn, tt, pk, pold, pnew⟩, C, i, e, D, j, f⟩ := y
  unfold prV turnHM
  dsimp only at *
  by_cases h1 : nm = tt
  · subst h1
    rw [if_pos rfl]
    go_enter Try.func44, Try.ntmps44
    go_wp2
    obtain ⟨_, _, b2, b3, hl⟩ := four_boxes w _ _ _ _ 27
    exact bodyPost_ret (results_two rfl _ _ _ _ _ _ _ _ _ _ _ _ rfl rfl rfl b2 b3 Try.underlying27 rfl Try.primSize Try.primSize) rfl ⟨zeroC, zeroC, rfl, rfl, rfl, (fun _ _ _ => ⟨zeroC_ok _, zeroC_ok _⟩), hl⟩
  · rw [if_neg h1]
    by_cases h2 : nm = nn
    · subst h2
      rw [if_pos rfl]
      have t1 := text_ne h1
      go_enter Try.func44, Try.ntmps44
      go_upto_region 6 with fail
      go_region
      go_wp2
      obtain ⟨_, _, b2, b3, hl⟩ := four_boxes w _ _ _ _ 27
      exact bodyPost_ret (results_two rfl _ _ _ _ _ _ _ _ _ _ _ _ rfl rfl rfl (b2.later (Later.refl _).drew) (b3.later (Later.refl _).drew) Try.underlying27 rfl Try.primSize Try.primSize) rfl
        ⟨⟨⟨ke, nm, tt, pk, pold, pnew⟩, C, i, e, D, j, f⟩, inC ⟨⟨kd, nm, to, pl, old, new⟩, A, n, c, B, m, d⟩ tt, rfl, rfl, rfl, (fun _ hx9 hy9 => ⟨hy9, (inC_ok hx9 hy9.to)⟩), hl.drew⟩
    · rw [if_neg h2]
      have t1 := text_ne h1
      have t2 := text_ne h2
      go_enter Try.func44, Try.ntmps44
      go_upto_region 6 with fail
      go_region
      go_wp2
      obtain ⟨_, _, b2, b3, hl⟩ := four_boxes w _ _ _ _ 27
      exact bodyPost_ret (results_two rfl _ _ _ _ _ _ _ _ _ _ _ _ rfl rfl rfl (b2.later (Later.refl _).drew) (b3.later (Later.refl _).drew) Try.underlying27 rfl Try.primSize Try.primSize) rfl
        ⟨⟨⟨ke, nn, tt, pk, pold, pnew⟩, C, i, e, D, j, f⟩, ⟨⟨kd, nm, to, pl, old, new⟩, A, n, c, B, m, d⟩, rfl, rfl, rfl, (fun _ hx9 hy9 => ⟨hy9, hx9⟩), hl.drew⟩

end Go.Proofs.Ytalgapoigkbiaaa
