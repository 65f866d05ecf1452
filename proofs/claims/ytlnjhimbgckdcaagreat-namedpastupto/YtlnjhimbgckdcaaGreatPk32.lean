import Derived.Test.YtlnjhimbgckdcaaGreatPk31
import Derived.Test.YtlnjhimbgckdcaaGreatPk7

/-
  What the document's two comes to, as a call.
-/
namespace Go.Proofs.YtlnjhimbgckdcaaGreat
open Go.RowKit Go.Maps

theorem refAt_v (x : PrC) (k : Int) (w : World) : Calls Tryz.prog 76 #[prV x, .int .i64 k] w fun e w' => e = .returned (.agg #[.int .i64 x.v.kind, .string x.v.name, .string x.v.to, .int .i64 k, .slice x.A x.n x.c, .slice x.B x.m x.d]) /\ Later w w' :=
  (refAt_exact _ _ _ _ _ _ _ _ _ _ k w).mono fun e w' ⟨h1, h2⟩ => ⟨h1, by rw [h2]; exact ((Later.refl w).alloc _).alloc _⟩
theorem refIn_v (x : PrC) (k : ByteArray) (w : World) : Calls Tryz.prog 77 #[prV x, .string k] w fun e w' => e = .returned (.agg #[.int .i64 x.v.kind, .string k, .string x.v.to, .int .i64 x.v.place, .slice x.A x.n x.c, .slice x.B x.m x.d]) /\ Later w w' :=
  (refIn_exact _ _ _ _ _ _ _ _ _ _ k w).mono fun e w' ⟨h1, h2⟩ => ⟨h1, by rw [h2]; exact ((Later.refl w).alloc _).alloc _⟩

set_option maxRecDepth 100000 in
set_option maxHeartbeats 3200000 in
theorem refTwo_HH (x y : PrC) (w : World) (hx : PrOk w x) (hy : PrOk w y) (hp : rightP x.v = true) (hq : rightP y.v = true) (kp : x.v.kind = 0) (kq : y.v.kind = 0) :
    Calls Tryz.prog 65 #[prV x, prV y] w (GivesW x y (twoP x.v y.v) w) := by
  have l1 := hx.old.len; have l2 := hx.new.len; have l3 := hy.old.len; have l4 := hy.new.len
  have m1 := hx.omost; have m2 := hx.nmost; have m3 := hy.omost; have m4 := hy.nmost
  have hp2 := place_in hp kp
  have hq2 := place_in hq kq
  have da0 : (x.v.kind == 0) = true := by rw [beq_iff_eq]; omega
  have db0 : (y.v.kind == 0) = true := by rw [beq_iff_eq]; omega
  have da3 : (x.v.kind == 3) = false := by rw [beq_eq_false_iff_ne]; omega
  have db3 : (y.v.kind == 3) = false := by rw [beq_eq_false_iff_ne]; omega
  have hE : twoP x.v y.v = if x.v.name = y.v.name then (if y.v.place > x.v.place + x.m then (placed y.v (y.v.place - x.m + x.n), x.v, true) else if y.v.place + y.n < x.v.place then (y.v, placed x.v (x.v.place + y.m - y.n), true) else (x.v, y.v, false)) else (y.v, x.v, true) := by
    simp only [twoP, kp, kq, true_and, l1, l2, l3, l4, and_self, if_true, Int.reduceEq, false_and, if_false]
  rw [hE]
  clear hE l1 l2 l3 l4 hp hq hx hy kp kq
  unfold prV
  by_cases hn : x.v.name = y.v.name
  case neg =>
    rw [if_neg hn]
    have tn := text_ne hn
    go_enter Tryz.func65, Tryz.ntmps65
    go_upto_region 12 with fail
    go_region
    go_wp2
    obtain ⟨_, _, b2, b3, hl⟩ := four_boxes w _ _ _ _ 89
    exact bodyPost_ret (results_two rfl _ _ _ _ _ _ _ _ _ _ _ _ rfl rfl rfl (b2.later (Later.refl _).drew) (b3.later (Later.refl _).drew) Tryz.underlying89 rfl Tryz.refPrimSize Tryz.refPrimSize) rfl
      ⟨y, x, rfl, rfl, rfl, (fun _ hx9 hy9 => ⟨hy9, hx9⟩), hl.drew⟩
  rw [if_pos hn]
  have tn : (x.v.name.toList == y.v.name.toList) = true := by rw [hn]; exact beq_self_eq_true _
  clear hn
  by_cases h1 : y.v.place > x.v.place + x.m
  case pos =>
    rw [if_pos h1]
    have w1 : IntKind.i64.wrap (y.v.place - (x.m : Int)) = y.v.place - (x.m : Int) := IntWalk.i64_in _ (by omega)
    have w2 : IntKind.i64.wrap (y.v.place - (x.m : Int) + (x.n : Int)) = y.v.place - (x.m : Int) + (x.n : Int) := IntWalk.i64_in _ (by omega)
    have HM := Lib.hid (fun w' => refAt_v y (y.v.place - x.m + x.n) w')
    obtain ⟨b0, b1, b2, b3, hl⟩ := four_boxes w #[.int .i64 x.v.kind, .string x.v.name, .string x.v.to, .int .i64 x.v.place, .slice x.A x.n x.c, .slice x.B x.m x.d] #[.int .i64 y.v.kind, .string y.v.name, .string y.v.to, .int .i64 y.v.place, .slice y.A y.n y.c, .slice y.B y.m y.d] #[.int .i64 0, .string ⟨#[]⟩, .string ⟨#[]⟩, .int .i64 0, .slice none 0 0, .slice none 0 0] #[.int .i64 0, .string ⟨#[]⟩, .string ⟨#[]⟩, .int .i64 0, .slice none 0 0, .slice none 0 0] 89
    unfold prV at HM
    go_enter Tryz.func65, Tryz.ntmps65
    go_upto_region 3 with fail
    generalize (((w.alloc (.cells #[.int .i64 x.v.kind, .string x.v.name, .string x.v.to, .int .i64 x.v.place, .slice x.A x.n x.c, .slice x.B x.m x.d] 89)).alloc (.cells #[.int .i64 y.v.kind, .string y.v.name, .string y.v.to, .int .i64 y.v.place, .slice y.A y.n y.c, .slice y.B y.m y.d] 89)).alloc (.cells #[.int .i64 0, .string ⟨#[]⟩, .string ⟨#[]⟩, .int .i64 0, .slice none 0 0, .slice none 0 0] 89)).alloc (.cells #[.int .i64 0, .string ⟨#[]⟩, .string ⟨#[]⟩, .int .i64 0, .slice none 0 0, .slice none 0 0] 89) = wb at b0 b1 b2 b3 hl ⊢
    have hsz := b3.lt
    have HB0 := Lib.hid b0; have HB1 := Lib.hid b1; have HB2 := Lib.hid b2; have HB3 := Lib.hid b3; have HL := Lib.hid hl
    have s0 := both_all (x := x) (y := y) (b0.later (Later.refl wb).drew) (b1.later (Later.refl wb).drew)
    clear b0 b1 b2 b3 hl
    go_region_held3 (fun w' => w'.cell? ⟨w.heap.size, 0, none⟩ = some (.int .i64 x.v.kind) /\ w'.cell? ⟨w.heap.size, 1, none⟩ = some (.string x.v.name) /\ w'.cell? ⟨w.heap.size, 2, none⟩ = some (.string x.v.to) /\ w'.cell? ⟨w.heap.size, 3, none⟩ = some (.int .i64 x.v.place) /\ w'.cell? ⟨w.heap.size, 4, none⟩ = some (.slice x.A x.n x.c) /\ w'.cell? ⟨w.heap.size, 5, none⟩ = some (.slice x.B x.m x.d) /\ w'.cell? ⟨w.heap.size + 1, 0, none⟩ = some (.int .i64 y.v.kind) /\ w'.cell? ⟨w.heap.size + 1, 1, none⟩ = some (.string y.v.name) /\ w'.cell? ⟨w.heap.size + 1, 2, none⟩ = some (.string y.v.to) /\ w'.cell? ⟨w.heap.size + 1, 3, none⟩ = some (.int .i64 y.v.place) /\ w'.cell? ⟨w.heap.size + 1, 4, none⟩ = some (.slice y.A y.n y.c) /\ w'.cell? ⟨w.heap.size + 1, 5, none⟩ = some (.slice y.B y.m y.d))
      (first | with_reducible exact s3 | with_reducible exact s2 | with_reducible exact s1 | with_reducible exact s0)
      (first | (go_at_call 76; refine (HM.out _).mono ?_; rintro e w1 ⟨rfl, hl1⟩; have hlw : Later wb w1 := Later.trans (by first | exact Later.refl _ | exact (Later.refl _).drew | exact (Later.refl _).drewN _) hl1; have s1 := both_all (x := x) (y := y) (HB0.out.later hlw) (HB1.out.later hlw); have c2 := HB2.out.later hlw; have u0 := c2.cell (i := 0) rfl; have u1 := c2.cell (i := 1) rfl; have u2 := c2.cell (i := 2) rfl; have u3 := c2.cell (i := 3) rfl; have u4 := c2.cell (i := 4) rfl; have u5 := c2.cell (i := 5) rfl; have v0 := c2.frozen 0; have v1 := c2.frozen 1; have v2 := c2.frozen 2; have v3 := c2.frozen 3; have v4 := c2.frozen 4; have v5 := c2.frozen 5; have k2 := turned_set6 w1 (w.heap.size + 1 + 1) (.int .i64 y.v.kind) (.string y.v.name) (.string y.v.to) (.int .i64 (y.v.place - (x.m : Int) + (x.n : Int))) (.slice y.A y.n y.c) (.slice y.B y.m y.d); have c3 := (HB3.out.later hlw).other k2 (by omega); have r0 := c3.cell (i := 0) rfl; have r1 := c3.cell (i := 1) rfl; have r2 := c3.cell (i := 2) rfl; have r3 := c3.cell (i := 3) rfl; have r4 := c3.cell (i := 4) rfl; have r5 := c3.cell (i := 5) rfl; have t0 := c3.frozen 0; have t1 := c3.frozen 1; have t2 := c3.frozen 2; have t3 := c3.frozen 3; have t4 := c3.frozen 4; have t5 := c3.frozen 5; have s2 := both_all (x := x) (y := y) ((HB0.out.later hlw).other k2 (by omega)) ((HB1.out.later hlw).other k2 (by omega)); have k3 := turned_set6 ((((((w1.setCell ⟨w.heap.size + 1 + 1, 0, none⟩ (.int .i64 y.v.kind)).setCell ⟨w.heap.size + 1 + 1, 1, none⟩ (.string y.v.name)).setCell ⟨w.heap.size + 1 + 1, 2, none⟩ (.string y.v.to)).setCell ⟨w.heap.size + 1 + 1, 3, none⟩ (.int .i64 (y.v.place - (x.m : Int) + (x.n : Int)))).setCell ⟨w.heap.size + 1 + 1, 4, none⟩ (.slice y.A y.n y.c)).setCell ⟨w.heap.size + 1 + 1, 5, none⟩ (.slice y.B y.m y.d)) (w.heap.size + 1 + 1 + 1) (.int .i64 x.v.kind) (.string x.v.name) (.string x.v.to) (.int .i64 x.v.place) (.slice x.A x.n x.c) (.slice x.B x.m x.d); have s3 := both_all (x := x) (y := y) (((HB0.out.later hlw).other k2 (by omega)).other k3 (by omega)) (((HB1.out.later hlw).other k2 (by omega)).other k3 (by omega)); have HLW := Lib.hid hlw; have HK2 := Lib.hid k2; have HK3 := Lib.hid k3; have HC2 := Lib.hid c2; have HC3 := Lib.hid c3; clear hl1 hlw k2 k3 c2 c3))
    go_wp2
    exact bodyPost_ret (results_two rfl _ _ _ _ _ _ _ _ _ _ _ _ rfl rfl rfl ((HC2.out.set6 (.int .i64 y.v.kind) (.string y.v.name) (.string y.v.to) (.int .i64 (y.v.place - (x.m : Int) + (x.n : Int))) (.slice y.A y.n y.c) (.slice y.B y.m y.d)).other HK3.out (by omega)) (HC3.out.set6 (.int .i64 x.v.kind) (.string x.v.name) (.string x.v.to) (.int .i64 x.v.place) (.slice x.A x.n x.c) (.slice x.B x.m x.d)) Tryz.underlying89 rfl Tryz.refPrimSize Tryz.refPrimSize) rfl
      ⟨atC y (y.v.place - x.m + x.n), x, rfl, rfl, rfl, (fun _ hx9 hy9 => ⟨atC_ok hy9 (by omega) (by omega), hx9⟩), ((HL.out.trans HLW.out).turn HK2.out (by omega)).turn HK3.out (by omega)⟩
  rw [if_neg h1]
  by_cases h2 : y.v.place + y.n < x.v.place
  case pos =>
    rw [if_pos h2]
    have w1 : IntKind.i64.wrap (x.v.place + (y.m : Int)) = x.v.place + (y.m : Int) := IntWalk.i64_in _ (by omega)
    have w2 : IntKind.i64.wrap (x.v.place + (y.m : Int) - (y.n : Int)) = x.v.place + (y.m : Int) - (y.n : Int) := IntWalk.i64_in _ (by omega)
    have HM := Lib.hid (fun w' => refAt_v x (x.v.place + y.m - y.n) w')
    obtain ⟨b0, b1, b2, b3, hl⟩ := four_boxes w #[.int .i64 x.v.kind, .string x.v.name, .string x.v.to, .int .i64 x.v.place, .slice x.A x.n x.c, .slice x.B x.m x.d] #[.int .i64 y.v.kind, .string y.v.name, .string y.v.to, .int .i64 y.v.place, .slice y.A y.n y.c, .slice y.B y.m y.d] #[.int .i64 0, .string ⟨#[]⟩, .string ⟨#[]⟩, .int .i64 0, .slice none 0 0, .slice none 0 0] #[.int .i64 0, .string ⟨#[]⟩, .string ⟨#[]⟩, .int .i64 0, .slice none 0 0, .slice none 0 0] 89
    unfold prV at HM
    go_enter Tryz.func65, Tryz.ntmps65
    go_upto_region 5 with fail
    generalize (((w.alloc (.cells #[.int .i64 x.v.kind, .string x.v.name, .string x.v.to, .int .i64 x.v.place, .slice x.A x.n x.c, .slice x.B x.m x.d] 89)).alloc (.cells #[.int .i64 y.v.kind, .string y.v.name, .string y.v.to, .int .i64 y.v.place, .slice y.A y.n y.c, .slice y.B y.m y.d] 89)).alloc (.cells #[.int .i64 0, .string ⟨#[]⟩, .string ⟨#[]⟩, .int .i64 0, .slice none 0 0, .slice none 0 0] 89)).alloc (.cells #[.int .i64 0, .string ⟨#[]⟩, .string ⟨#[]⟩, .int .i64 0, .slice none 0 0, .slice none 0 0] 89) = wb at b0 b1 b2 b3 hl ⊢
    have hsz := b3.lt
    have HB0 := Lib.hid b0; have HB1 := Lib.hid b1; have HB2 := Lib.hid b2; have HB3 := Lib.hid b3; have HL := Lib.hid hl
    have s0 := both_all (x := x) (y := y) (b0.later (Later.refl wb).drew) (b1.later (Later.refl wb).drew)
    clear b0 b1 b2 b3 hl
    go_region_held3 (fun w' => w'.cell? ⟨w.heap.size, 0, none⟩ = some (.int .i64 x.v.kind) /\ w'.cell? ⟨w.heap.size, 1, none⟩ = some (.string x.v.name) /\ w'.cell? ⟨w.heap.size, 2, none⟩ = some (.string x.v.to) /\ w'.cell? ⟨w.heap.size, 3, none⟩ = some (.int .i64 x.v.place) /\ w'.cell? ⟨w.heap.size, 4, none⟩ = some (.slice x.A x.n x.c) /\ w'.cell? ⟨w.heap.size, 5, none⟩ = some (.slice x.B x.m x.d) /\ w'.cell? ⟨w.heap.size + 1, 0, none⟩ = some (.int .i64 y.v.kind) /\ w'.cell? ⟨w.heap.size + 1, 1, none⟩ = some (.string y.v.name) /\ w'.cell? ⟨w.heap.size + 1, 2, none⟩ = some (.string y.v.to) /\ w'.cell? ⟨w.heap.size + 1, 3, none⟩ = some (.int .i64 y.v.place) /\ w'.cell? ⟨w.heap.size + 1, 4, none⟩ = some (.slice y.A y.n y.c) /\ w'.cell? ⟨w.heap.size + 1, 5, none⟩ = some (.slice y.B y.m y.d))
      (first | with_reducible exact s3 | with_reducible exact s2 | with_reducible exact s1 | with_reducible exact s0)
      (first | (go_at_call 76; refine (HM.out _).mono ?_; rintro e w1 ⟨rfl, hl1⟩; have hlw : Later wb w1 := Later.trans (by first | exact Later.refl _ | exact (Later.refl _).drew | exact (Later.refl _).drewN _) hl1; have s1 := both_all (x := x) (y := y) (HB0.out.later hlw) (HB1.out.later hlw); have c2 := HB2.out.later hlw; have u0 := c2.cell (i := 0) rfl; have u1 := c2.cell (i := 1) rfl; have u2 := c2.cell (i := 2) rfl; have u3 := c2.cell (i := 3) rfl; have u4 := c2.cell (i := 4) rfl; have u5 := c2.cell (i := 5) rfl; have v0 := c2.frozen 0; have v1 := c2.frozen 1; have v2 := c2.frozen 2; have v3 := c2.frozen 3; have v4 := c2.frozen 4; have v5 := c2.frozen 5; have k2 := turned_set6 w1 (w.heap.size + 1 + 1) (.int .i64 y.v.kind) (.string y.v.name) (.string y.v.to) (.int .i64 y.v.place) (.slice y.A y.n y.c) (.slice y.B y.m y.d); have c3 := (HB3.out.later hlw).other k2 (by omega); have r0 := c3.cell (i := 0) rfl; have r1 := c3.cell (i := 1) rfl; have r2 := c3.cell (i := 2) rfl; have r3 := c3.cell (i := 3) rfl; have r4 := c3.cell (i := 4) rfl; have r5 := c3.cell (i := 5) rfl; have t0 := c3.frozen 0; have t1 := c3.frozen 1; have t2 := c3.frozen 2; have t3 := c3.frozen 3; have t4 := c3.frozen 4; have t5 := c3.frozen 5; have s2 := both_all (x := x) (y := y) ((HB0.out.later hlw).other k2 (by omega)) ((HB1.out.later hlw).other k2 (by omega)); have k3 := turned_set6 ((((((w1.setCell ⟨w.heap.size + 1 + 1, 0, none⟩ (.int .i64 y.v.kind)).setCell ⟨w.heap.size + 1 + 1, 1, none⟩ (.string y.v.name)).setCell ⟨w.heap.size + 1 + 1, 2, none⟩ (.string y.v.to)).setCell ⟨w.heap.size + 1 + 1, 3, none⟩ (.int .i64 y.v.place)).setCell ⟨w.heap.size + 1 + 1, 4, none⟩ (.slice y.A y.n y.c)).setCell ⟨w.heap.size + 1 + 1, 5, none⟩ (.slice y.B y.m y.d)) (w.heap.size + 1 + 1 + 1) (.int .i64 x.v.kind) (.string x.v.name) (.string x.v.to) (.int .i64 (x.v.place + (y.m : Int) - (y.n : Int))) (.slice x.A x.n x.c) (.slice x.B x.m x.d); have s3 := both_all (x := x) (y := y) (((HB0.out.later hlw).other k2 (by omega)).other k3 (by omega)) (((HB1.out.later hlw).other k2 (by omega)).other k3 (by omega)); have HLW := Lib.hid hlw; have HK2 := Lib.hid k2; have HK3 := Lib.hid k3; have HC2 := Lib.hid c2; have HC3 := Lib.hid c3; clear hl1 hlw k2 k3 c2 c3))
    go_wp2
    exact bodyPost_ret (results_two rfl _ _ _ _ _ _ _ _ _ _ _ _ rfl rfl rfl ((HC2.out.set6 (.int .i64 y.v.kind) (.string y.v.name) (.string y.v.to) (.int .i64 y.v.place) (.slice y.A y.n y.c) (.slice y.B y.m y.d)).other HK3.out (by omega)) (HC3.out.set6 (.int .i64 x.v.kind) (.string x.v.name) (.string x.v.to) (.int .i64 (x.v.place + (y.m : Int) - (y.n : Int))) (.slice x.A x.n x.c) (.slice x.B x.m x.d)) Tryz.underlying89 rfl Tryz.refPrimSize Tryz.refPrimSize) rfl
      ⟨y, atC x (x.v.place + y.m - y.n), rfl, rfl, rfl, (fun _ hx9 hy9 => ⟨hy9, atC_ok hx9 (by omega) (by omega)⟩), ((HL.out.trans HLW.out).turn HK2.out (by omega)).turn HK3.out (by omega)⟩
  rw [if_neg h2]
  go_enter Tryz.func65, Tryz.ntmps65
  go_upto_region 6 with fail
  go_region
  go_wp2
  obtain ⟨_, _, b2, b3, hl⟩ := four_boxes w _ _ _ _ 89
  exact bodyPost_ret (results_two rfl _ _ _ _ _ _ _ _ _ _ _ _ rfl rfl rfl (b2.later (Later.refl _).drew) (b3.later (Later.refl _).drew) Tryz.underlying89 rfl Tryz.refPrimSize Tryz.refPrimSize) rfl
    ⟨x, y, rfl, rfl, rfl, (fun _ hx9 hy9 => ⟨hx9, hy9⟩), hl.drew⟩

end Go.Proofs.YtlnjhimbgckdcaaGreat
