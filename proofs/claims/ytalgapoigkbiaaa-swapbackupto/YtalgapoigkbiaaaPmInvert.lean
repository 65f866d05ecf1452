/-
  What prim's Invert comes to, as a call.
-/
import Derived.Test.YtalgapoigkbiaaaPmClone
namespace Go.Proofs.Ytalgapoigkbiaaa
open Go.RowKit

set_option maxRecDepth 100000 in
set_option maxHeartbeats 800000 in
theorem primInvert_any (x : PrC) (w : World) (hx : PrOk w x) :
    Calls Try.prog 23 #[prV x] w (GivesPr (invertP x.v) w) := by
  have hlb : Later w ((w.alloc (.cells #[.int .i64 x.v.kind, .string x.v.name, .string x.v.to, .int .i64 x.v.place, .slice x.A x.n x.c, .slice x.B x.m x.d] 27)).alloc (.cells #[.int .i64 0, .string ⟨#[]⟩, .string ⟨#[]⟩, .int .i64 0, .slice none 0 0, .slice none 0 0] 27)) := ((Later.refl w).alloc _).alloc _
  have HC := Lib.hid (primClone_any x _ (hx.later hlb))
  clear hx
  obtain ⟨⟨kd, nm, to, pl, old, new⟩, A, n, c, B, m, d⟩ := x
  unfold prV at HC ⊢
  dsimp only at HC hlb ⊢
  go_enter Try.func23, Try.ntmps23
  go_wp2_with fail
  have hb0 : BoxAt ((w.alloc (.cells #[.int .i64 kd, .string nm, .string to, .int .i64 pl, .slice A n c, .slice B m d] 27)).alloc (.cells #[.int .i64 0, .string ⟨#[]⟩, .string ⟨#[]⟩, .int .i64 0, .slice none 0 0, .slice none 0 0] 27)) w.heap.size #[.int .i64 kd, .string nm, .string to, .int .i64 pl, .slice A n c, .slice B m d] 27 := (BoxAt.made w _ _).alloc _
  have hb1 : BoxAt ((w.alloc (.cells #[.int .i64 kd, .string nm, .string to, .int .i64 pl, .slice A n c, .slice B m d] 27)).alloc (.cells #[.int .i64 0, .string ⟨#[]⟩, .string ⟨#[]⟩, .int .i64 0, .slice none 0 0, .slice none 0 0] 27)) (w.heap.size + 1) #[.int .i64 0, .string ⟨#[]⟩, .string ⟨#[]⟩, .int .i64 0, .slice none 0 0, .slice none 0 0] 27 := by
    have := BoxAt.made (w.alloc (.cells #[.int .i64 kd, .string nm, .string to, .int .i64 pl, .slice A n c, .slice B m d] 27)) #[.int .i64 0, .string ⟨#[]⟩, .string ⟨#[]⟩, .int .i64 0, .slice none 0 0, .slice none 0 0] 27
    simpa using this
  refine HC.out.mono ?_
  clear HC
  generalize (w.alloc (.cells #[.int .i64 kd, .string nm, .string to, .int .i64 pl, .slice A n c, .slice B m d] 27)).alloc (.cells #[.int .i64 0, .string ⟨#[]⟩, .string ⟨#[]⟩, .int .i64 0, .slice none 0 0, .slice none 0 0] 27) = wb at hb0 hb1 hlb ⊢
  rintro e w1 ⟨u, v, rfl, hpr⟩
  obtain ⟨A1, c1, hv1, hcc1, hr1⟩ := hpr.old.row
  obtain ⟨A2, c2, hv2, hcc2, hr2⟩ := hpr.new.row
  subst hv1 hv2
  dsimp only at *
  have hlt := hb1.lt
  have hle := hpr.later.le
  have hb0' := (hb0.later hpr.later).alloc (.cells #[.int .i64 kd, .string nm, .string to, .int .i64 pl, .slice A1 old.length c1, .slice A2 new.length c2] 27)
  have k0 := hb0'.cell (i := 0) rfl
  have HB1 := Lib.hid (hb1.later hpr.later)
  have HP := Lib.hid (hpr.base hlb)
  have HUB : Hid (∀ b, (Value.slice A1 old.length c1).ownBlock = some b → wb.heap.size ≤ b) := hpr.old.block
  have HVB : Hid (∀ b, (Value.slice A2 new.length c2).ownBlock = some b → wb.heap.size ≤ b) := hpr.new.block
  clear hr1 hr2 hpr hb0 hb0' hb1 hlb hcc1 hcc2
  by_cases h0 : kd = 0
  · subst h0
    have E : Hid (invertP ⟨0, nm, to, pl, old, new⟩ = ⟨0, nm, to, pl, new, old⟩) := by simp [Hid, invertP]
    have d1 := HB1.out.alloc (.cells #[.int .i64 0, .string nm, .string to, .int .i64 pl, .slice A2 new.length c2, .slice A1 old.length c1] 27)
    have y0 := d1.cell (i := 0) rfl; have y1 := d1.cell (i := 1) rfl; have y2 := d1.cell (i := 2) rfl; have y3 := d1.cell (i := 3) rfl; have y4 := d1.cell (i := 4) rfl; have y5 := d1.cell (i := 5) rfl
    have z0 := d1.frozen 0; have z1 := d1.frozen 1; have z2 := d1.frozen 2; have z3 := d1.frozen 3; have z4 := d1.frozen 4; have z5 := d1.frozen 5
    have HD1 := Lib.hid d1
    clear d1
    go_wp2
    have hset := turned_set6 (w1.alloc (.cells #[.int .i64 0, .string nm, .string to, .int .i64 pl, .slice A2 new.length c2, .slice A1 old.length c1] 27)) (w.heap.size + 1) (.int .i64 0) (.string nm) (.string to) (.int .i64 pl) (.slice A2 new.length c2) (.slice A1 old.length c1)
    have hlw := (HP.out.later.alloc (.cells #[.int .i64 0, .string nm, .string to, .int .i64 pl, .slice A2 new.length c2, .slice A1 old.length c1] 27)).turn hset (by omega)
    refine bodyPost_ret (results_cell_row rfl _ _ (w.heap.size + 1) 27 _ (0, 0) _ rfl (HD1.out.set6 (.int .i64 0) (.string nm) (.string to) (.int .i64 pl) (.slice A2 new.length c2) (.slice A1 old.length c1)) Try.underlying27 rfl Try.primSize) rfl ?_
    rw [E.out]
    exact ⟨(.slice A2 new.length c2), (.slice A1 old.length c1), rfl, ((HP.out.new.alloc _).other hset (fun e => by have := HVB.out _ e; omega) hlw), ((HP.out.old.alloc _).other hset (fun e => by have := HUB.out _ e; omega) hlw), fun b h1 h2 => HP.out.apart b h2 h1⟩
  by_cases h1 : kd = 1
  · subst h1
    have E : Hid (invertP ⟨1, nm, to, pl, old, new⟩ = ⟨2, nm, to, pl, old, new⟩) := by simp [Hid, invertP]
    have d1 := HB1.out.alloc (.cells #[.int .i64 2, .string nm, .string to, .int .i64 pl, .slice A1 old.length c1, .slice A2 new.length c2] 27)
    have y0 := d1.cell (i := 0) rfl; have y1 := d1.cell (i := 1) rfl; have y2 := d1.cell (i := 2) rfl; have y3 := d1.cell (i := 3) rfl; have y4 := d1.cell (i := 4) rfl; have y5 := d1.cell (i := 5) rfl
    have z0 := d1.frozen 0; have z1 := d1.frozen 1; have z2 := d1.frozen 2; have z3 := d1.frozen 3; have z4 := d1.frozen 4; have z5 := d1.frozen 5
    have HD1 := Lib.hid d1
    clear d1
    go_wp2
    have hset := turned_set6 (w1.alloc (.cells #[.int .i64 2, .string nm, .string to, .int .i64 pl, .slice A1 old.length c1, .slice A2 new.length c2] 27)) (w.heap.size + 1) (.int .i64 2) (.string nm) (.string to) (.int .i64 pl) (.slice A1 old.length c1) (.slice A2 new.length c2)
    have hlw := (HP.out.later.alloc (.cells #[.int .i64 2, .string nm, .string to, .int .i64 pl, .slice A1 old.length c1, .slice A2 new.length c2] 27)).turn hset (by omega)
    refine bodyPost_ret (results_cell_row rfl _ _ (w.heap.size + 1) 27 _ (0, 0) _ rfl (HD1.out.set6 (.int .i64 2) (.string nm) (.string to) (.int .i64 pl) (.slice A1 old.length c1) (.slice A2 new.length c2)) Try.underlying27 rfl Try.primSize) rfl ?_
    rw [E.out]
    exact ⟨(.slice A1 old.length c1), (.slice A2 new.length c2), rfl, ((HP.out.old.alloc _).other hset (fun e => by have := HUB.out _ e; omega) hlw), ((HP.out.new.alloc _).other hset (fun e => by have := HVB.out _ e; omega) hlw), HP.out.apart⟩
  by_cases h2 : kd = 2
  · subst h2
    have E : Hid (invertP ⟨2, nm, to, pl, old, new⟩ = ⟨1, nm, to, pl, old, new⟩) := by simp [Hid, invertP]
    have d1 := HB1.out.alloc (.cells #[.int .i64 1, .string nm, .string to, .int .i64 pl, .slice A1 old.length c1, .slice A2 new.length c2] 27)
    have y0 := d1.cell (i := 0) rfl; have y1 := d1.cell (i := 1) rfl; have y2 := d1.cell (i := 2) rfl; have y3 := d1.cell (i := 3) rfl; have y4 := d1.cell (i := 4) rfl; have y5 := d1.cell (i := 5) rfl
    have z0 := d1.frozen 0; have z1 := d1.frozen 1; have z2 := d1.frozen 2; have z3 := d1.frozen 3; have z4 := d1.frozen 4; have z5 := d1.frozen 5
    have HD1 := Lib.hid d1
    clear d1
    go_wp2
    have hset := turned_set6 (w1.alloc (.cells #[.int .i64 1, .string nm, .string to, .int .i64 pl, .slice A1 old.length c1, .slice A2 new.length c2] 27)) (w.heap.size + 1) (.int .i64 1) (.string nm) (.string to) (.int .i64 pl) (.slice A1 old.length c1) (.slice A2 new.length c2)
    have hlw := (HP.out.later.alloc (.cells #[.int .i64 1, .string nm, .string to, .int .i64 pl, .slice A1 old.length c1, .slice A2 new.length c2] 27)).turn hset (by omega)
    refine bodyPost_ret (results_cell_row rfl _ _ (w.heap.size + 1) 27 _ (0, 0) _ rfl (HD1.out.set6 (.int .i64 1) (.string nm) (.string to) (.int .i64 pl) (.slice A1 old.length c1) (.slice A2 new.length c2)) Try.underlying27 rfl Try.primSize) rfl ?_
    rw [E.out]
    exact ⟨(.slice A1 old.length c1), (.slice A2 new.length c2), rfl, ((HP.out.old.alloc _).other hset (fun e => by have := HUB.out _ e; omega) hlw), ((HP.out.new.alloc _).other hset (fun e => by have := HVB.out _ e; omega) hlw), HP.out.apart⟩
  by_cases h3 : kd = 3
  · subst h3
    have E : Hid (invertP ⟨3, nm, to, pl, old, new⟩ = ⟨3, to, nm, pl, old, new⟩) := by simp [Hid, invertP]
    have d1 := HB1.out.alloc (.cells #[.int .i64 3, .string to, .string nm, .int .i64 pl, .slice A1 old.length c1, .slice A2 new.length c2] 27)
    have y0 := d1.cell (i := 0) rfl; have y1 := d1.cell (i := 1) rfl; have y2 := d1.cell (i := 2) rfl; have y3 := d1.cell (i := 3) rfl; have y4 := d1.cell (i := 4) rfl; have y5 := d1.cell (i := 5) rfl
    have z0 := d1.frozen 0; have z1 := d1.frozen 1; have z2 := d1.frozen 2; have z3 := d1.frozen 3; have z4 := d1.frozen 4; have z5 := d1.frozen 5
    have HD1 := Lib.hid d1
    clear d1
    go_wp2
    have hset := turned_set6 (w1.alloc (.cells #[.int .i64 3, .string to, .string nm, .int .i64 pl, .slice A1 old.length c1, .slice A2 new.length c2] 27)) (w.heap.size + 1) (.int .i64 3) (.string to) (.string nm) (.int .i64 pl) (.slice A1 old.length c1) (.slice A2 new.length c2)
    have hlw := (HP.out.later.alloc (.cells #[.int .i64 3, .string to, .string nm, .int .i64 pl, .slice A1 old.length c1, .slice A2 new.length c2] 27)).turn hset (by omega)
    refine bodyPost_ret (results_cell_row rfl _ _ (w.heap.size + 1) 27 _ (0, 0) _ rfl (HD1.out.set6 (.int .i64 3) (.string to) (.string nm) (.int .i64 pl) (.slice A1 old.length c1) (.slice A2 new.length c2)) Try.underlying27 rfl Try.primSize) rfl ?_
    rw [E.out]
    exact ⟨(.slice A1 old.length c1), (.slice A2 new.length c2), rfl, ((HP.out.old.alloc _).other hset (fun e => by have := HUB.out _ e; omega) hlw), ((HP.out.new.alloc _).other hset (fun e => by have := HVB.out _ e; omega) hlw), HP.out.apart⟩
  have E : Hid (invertP ⟨kd, nm, to, pl, old, new⟩ = ⟨kd, nm, to, pl, old, new⟩) := by simp [Hid, invertP, h0, h1, h2, h3]
  have d1 := HB1.out.alloc (.cells #[.int .i64 kd, .string nm, .string to, .int .i64 pl, .slice A1 old.length c1, .slice A2 new.length c2] 27)
  have y0 := d1.cell (i := 0) rfl; have y1 := d1.cell (i := 1) rfl; have y2 := d1.cell (i := 2) rfl; have y3 := d1.cell (i := 3) rfl; have y4 := d1.cell (i := 4) rfl; have y5 := d1.cell (i := 5) rfl
  have z0 := d1.frozen 0; have z1 := d1.frozen 1; have z2 := d1.frozen 2; have z3 := d1.frozen 3; have z4 := d1.frozen 4; have z5 := d1.frozen 5
  have HD1 := Lib.hid d1
  clear d1
  go_wp2
  have hset := turned_set6 (w1.alloc (.cells #[.int .i64 kd, .string nm, .string to, .int .i64 pl, .slice A1 old.length c1, .slice A2 new.length c2] 27)) (w.heap.size + 1) (.int .i64 kd) (.string nm) (.string to) (.int .i64 pl) (.slice A1 old.length c1) (.slice A2 new.length c2)
  have hlw := (HP.out.later.alloc (.cells #[.int .i64 kd, .string nm, .string to, .int .i64 pl, .slice A1 old.length c1, .slice A2 new.length c2] 27)).turn hset (by omega)
  refine bodyPost_ret (results_cell_row rfl _ _ (w.heap.size + 1) 27 _ (0, 0) _ rfl (HD1.out.set6 (.int .i64 kd) (.string nm) (.string to) (.int .i64 pl) (.slice A1 old.length c1) (.slice A2 new.length c2)) Try.underlying27 rfl Try.primSize) rfl ?_
  rw [E.out]
  exact ⟨(.slice A1 old.length c1), (.slice A2 new.length c2), rfl, ((HP.out.old.alloc _).other hset (fun e => by have := HUB.out _ e; omega) hlw), ((HP.out.new.alloc _).other hset (fun e => by have := HVB.out _ e; omega) hlw), HP.out.apart⟩

end Go.Proofs.Ytalgapoigkbiaaa
