import Derived.Test.YtlnjhimbgckdcaaGreatPk33
import Derived.Test.YtlnjhimbgckdcaaGreatPk7
import Derived.Test.YtlnjhimbgckdcaaGreatPk6

/-
  What the document's two comes to, as a call: all of it.
-/
namespace Go.Proofs.YtlnjhimbgckdcaaGreat
open Go.RowKit Go.Maps

set_option maxRecDepth 100000 in
set_option maxHeartbeats 3200000 in
theorem refTwo_c4 (x y : PrC) (w : World) (kp : x.v.kind ≠ 0) (k3 : x.v.kind ≠ 3) (kq : y.v.kind = 0) :
    Calls Tryz.prog 65 #[prV x, prV y] w (GivesW x y (twoP x.v y.v) w) := by
  have da0 : (x.v.kind == 0) = false := by rw [beq_eq_false_iff_ne]; omega
  have db0 : (y.v.kind == 0) = true := by rw [beq_iff_eq]; omega
  have da3 : (x.v.kind == 3) = false := by rw [beq_eq_false_iff_ne]; omega
  have db3 : (y.v.kind == 3) = false := by rw [beq_eq_false_iff_ne]; omega
  have hE : twoP x.v y.v = (y.v, x.v, !commonP x.v y.v) := by simp [twoP, kp, kq, k3]
  rw [hE]
  have HM := Lib.hid (fun w' => refCommon_any x y w')
  generalize commonP x.v y.v = cm at HM ⊢
  clear hE kp k3 kq
  unfold prV
  obtain ⟨b0, b1, b2, b3, hl⟩ := four_boxes w #[.int .i64 x.v.kind, .string x.v.name, .string x.v.to, .int .i64 x.v.place, .slice x.A x.n x.c, .slice x.B x.m x.d] #[.int .i64 y.v.kind, .string y.v.name, .string y.v.to, .int .i64 y.v.place, .slice y.A y.n y.c, .slice y.B y.m y.d] #[.int .i64 0, .string ⟨#[]⟩, .string ⟨#[]⟩, .int .i64 0, .slice none 0 0, .slice none 0 0] #[.int .i64 0, .string ⟨#[]⟩, .string ⟨#[]⟩, .int .i64 0, .slice none 0 0, .slice none 0 0] 89
  unfold prV at HM
  go_enter Tryz.func65, Tryz.ntmps65
  go_upto_region 13 with fail
  generalize (((w.alloc (.cells #[.int .i64 x.v.kind, .string x.v.name, .string x.v.to, .int .i64 x.v.place, .slice x.A x.n x.c, .slice x.B x.m x.d] 89)).alloc (.cells #[.int .i64 y.v.kind, .string y.v.name, .string y.v.to, .int .i64 y.v.place, .slice y.A y.n y.c, .slice y.B y.m y.d] 89)).alloc (.cells #[.int .i64 0, .string ⟨#[]⟩, .string ⟨#[]⟩, .int .i64 0, .slice none 0 0, .slice none 0 0] 89)).alloc (.cells #[.int .i64 0, .string ⟨#[]⟩, .string ⟨#[]⟩, .int .i64 0, .slice none 0 0, .slice none 0 0] 89) = wb at b0 b1 b2 b3 hl ⊢
  have hsz := b3.lt
  have HB0 := Lib.hid b0; have HB1 := Lib.hid b1; have HB2 := Lib.hid b2; have HB3 := Lib.hid b3; have HL := Lib.hid hl
  have s0 := both_all (x := x) (y := y) (b0.later (Later.refl wb).drew) (b1.later (Later.refl wb).drew)
  clear b0 b1 b2 b3 hl
  go_region_held3 (fun w' => w'.cell? ⟨w.heap.size, 0, none⟩ = some (.int .i64 x.v.kind) /\ w'.cell? ⟨w.heap.size, 1, none⟩ = some (.string x.v.name) /\ w'.cell? ⟨w.heap.size, 2, none⟩ = some (.string x.v.to) /\ w'.cell? ⟨w.heap.size, 3, none⟩ = some (.int .i64 x.v.place) /\ w'.cell? ⟨w.heap.size, 4, none⟩ = some (.slice x.A x.n x.c) /\ w'.cell? ⟨w.heap.size, 5, none⟩ = some (.slice x.B x.m x.d) /\ w'.cell? ⟨w.heap.size + 1, 0, none⟩ = some (.int .i64 y.v.kind) /\ w'.cell? ⟨w.heap.size + 1, 1, none⟩ = some (.string y.v.name) /\ w'.cell? ⟨w.heap.size + 1, 2, none⟩ = some (.string y.v.to) /\ w'.cell? ⟨w.heap.size + 1, 3, none⟩ = some (.int .i64 y.v.place) /\ w'.cell? ⟨w.heap.size + 1, 4, none⟩ = some (.slice y.A y.n y.c) /\ w'.cell? ⟨w.heap.size + 1, 5, none⟩ = some (.slice y.B y.m y.d))
    (first | with_reducible exact s3 | with_reducible exact s2 | with_reducible exact s1 | with_reducible exact s0)
    (first | (go_at_call 78; refine (HM.out _).mono ?_; rintro e w1 ⟨rfl, hl1⟩; have hlw : Later wb w1 := Later.trans (by first | exact Later.refl _ | exact (Later.refl _).drew | exact (Later.refl _).drewN _) hl1; have s1 := both_all (x := x) (y := y) (HB0.out.later hlw) (HB1.out.later hlw); have c2 := HB2.out.later hlw; have u0 := c2.cell (i := 0) rfl; have u1 := c2.cell (i := 1) rfl; have u2 := c2.cell (i := 2) rfl; have u3 := c2.cell (i := 3) rfl; have u4 := c2.cell (i := 4) rfl; have u5 := c2.cell (i := 5) rfl; have v0 := c2.frozen 0; have v1 := c2.frozen 1; have v2 := c2.frozen 2; have v3 := c2.frozen 3; have v4 := c2.frozen 4; have v5 := c2.frozen 5; have k2 := turned_set6 w1 (w.heap.size + 1 + 1) (.int .i64 y.v.kind) (.string y.v.name) (.string y.v.to) (.int .i64 y.v.place) (.slice y.A y.n y.c) (.slice y.B y.m y.d); have c3 := (HB3.out.later hlw).other k2 (by omega); have r0 := c3.cell (i := 0) rfl; have r1 := c3.cell (i := 1) rfl; have r2 := c3.cell (i := 2) rfl; have r3 := c3.cell (i := 3) rfl; have r4 := c3.cell (i := 4) rfl; have r5 := c3.cell (i := 5) rfl; have t0 := c3.frozen 0; have t1 := c3.frozen 1; have t2 := c3.frozen 2; have t3 := c3.frozen 3; have t4 := c3.frozen 4; have t5 := c3.frozen 5; have s2 := both_all (x := x) (y := y) ((HB0.out.later hlw).other k2 (by omega)) ((HB1.out.later hlw).other k2 (by omega)); have k3 := turned_set6 ((((((w1.setCell ⟨w.heap.size + 1 + 1, 0, none⟩ (.int .i64 y.v.kind)).setCell ⟨w.heap.size + 1 + 1, 1, none⟩ (.string y.v.name)).setCell ⟨w.heap.size + 1 + 1, 2, none⟩ (.string y.v.to)).setCell ⟨w.heap.size + 1 + 1, 3, none⟩ (.int .i64 y.v.place)).setCell ⟨w.heap.size + 1 + 1, 4, none⟩ (.slice y.A y.n y.c)).setCell ⟨w.heap.size + 1 + 1, 5, none⟩ (.slice y.B y.m y.d)) (w.heap.size + 1 + 1 + 1) (.int .i64 x.v.kind) (.string x.v.name) (.string x.v.to) (.int .i64 x.v.place) (.slice x.A x.n x.c) (.slice x.B x.m x.d); have s3 := both_all (x := x) (y := y) (((HB0.out.later hlw).other k2 (by omega)).other k3 (by omega)) (((HB1.out.later hlw).other k2 (by omega)).other k3 (by omega)); have HLW := Lib.hid hlw; have HK2 := Lib.hid k2; have HK3 := Lib.hid k3; have HC2 := Lib.hid c2; have HC3 := Lib.hid c3; clear hl1 hlw k2 k3 c2 c3))
  go_wp2
  exact bodyPost_ret (results_two rfl _ _ _ _ _ _ _ _ _ _ _ _ rfl rfl rfl ((HC2.out.set6 (.int .i64 y.v.kind) (.string y.v.name) (.string y.v.to) (.int .i64 y.v.place) (.slice y.A y.n y.c) (.slice y.B y.m y.d)).other HK3.out (by omega)) (HC3.out.set6 (.int .i64 x.v.kind) (.string x.v.name) (.string x.v.to) (.int .i64 x.v.place) (.slice x.A x.n x.c) (.slice x.B x.m x.d)) Tryz.underlying89 rfl Tryz.refPrimSize Tryz.refPrimSize) rfl
    ⟨y, x, rfl, rfl, rfl, (fun _ hx9 hy9 => ⟨hy9, hx9⟩), ((HL.out.trans HLW.out).turn HK2.out (by omega)).turn HK3.out (by omega)⟩

set_option maxRecDepth 100000 in
set_option maxHeartbeats 3200000 in
theorem refTwo_c5 (x y : PrC) (w : World) (kp : x.v.kind = 3) (kq : y.v.kind ≠ 0) :
    Calls Tryz.prog 65 #[prV x, prV y] w (GivesW x y (twoP x.v y.v) w) := by
  have da0 : (x.v.kind == 0) = false := by rw [beq_eq_false_iff_ne]; omega
  have db0 : (y.v.kind == 0) = false := by rw [beq_eq_false_iff_ne]; omega
  have da3 : (x.v.kind == 3) = true := by rw [beq_iff_eq]; omega
  have hE : twoP x.v y.v = (y.v, x.v, !commonP x.v y.v) := by simp [twoP, kp, kq]
  rw [hE]
  have HM := Lib.hid (fun w' => refCommon_any x y w')
  generalize commonP x.v y.v = cm at HM ⊢
  clear hE kp kq
  unfold prV
  obtain ⟨b0, b1, b2, b3, hl⟩ := four_boxes w #[.int .i64 x.v.kind, .string x.v.name, .string x.v.to, .int .i64 x.v.place, .slice x.A x.n x.c, .slice x.B x.m x.d] #[.int .i64 y.v.kind, .string y.v.name, .string y.v.to, .int .i64 y.v.place, .slice y.A y.n y.c, .slice y.B y.m y.d] #[.int .i64 0, .string ⟨#[]⟩, .string ⟨#[]⟩, .int .i64 0, .slice none 0 0, .slice none 0 0] #[.int .i64 0, .string ⟨#[]⟩, .string ⟨#[]⟩, .int .i64 0, .slice none 0 0, .slice none 0 0] 89
  unfold prV at HM
  go_enter Tryz.func65, Tryz.ntmps65
  go_upto_region 13 with fail
  generalize (((w.alloc (.cells #[.int .i64 x.v.kind, .string x.v.name, .string x.v.to, .int .i64 x.v.place, .slice x.A x.n x.c, .slice x.B x.m x.d] 89)).alloc (.cells #[.int .i64 y.v.kind, .string y.v.name, .string y.v.to, .int .i64 y.v.place, .slice y.A y.n y.c, .slice y.B y.m y.d] 89)).alloc (.cells #[.int .i64 0, .string ⟨#[]⟩, .string ⟨#[]⟩, .int .i64 0, .slice none 0 0, .slice none 0 0] 89)).alloc (.cells #[.int .i64 0, .string ⟨#[]⟩, .string ⟨#[]⟩, .int .i64 0, .slice none 0 0, .slice none 0 0] 89) = wb at b0 b1 b2 b3 hl ⊢
  have hsz := b3.lt
  have HB0 := Lib.hid b0; have HB1 := Lib.hid b1; have HB2 := Lib.hid b2; have HB3 := Lib.hid b3; have HL := Lib.hid hl
  have s0 := both_all (x := x) (y := y) (b0.later (Later.refl wb).drew) (b1.later (Later.refl wb).drew)
  clear b0 b1 b2 b3 hl
  go_region_held3 (fun w' => w'.cell? ⟨w.heap.size, 0, none⟩ = some (.int .i64 x.v.kind) /\ w'.cell? ⟨w.heap.size, 1, none⟩ = some (.string x.v.name) /\ w'.cell? ⟨w.heap.size, 2, none⟩ = some (.string x.v.to) /\ w'.cell? ⟨w.heap.size, 3, none⟩ = some (.int .i64 x.v.place) /\ w'.cell? ⟨w.heap.size, 4, none⟩ = some (.slice x.A x.n x.c) /\ w'.cell? ⟨w.heap.size, 5, none⟩ = some (.slice x.B x.m x.d) /\ w'.cell? ⟨w.heap.size + 1, 0, none⟩ = some (.int .i64 y.v.kind) /\ w'.cell? ⟨w.heap.size + 1, 1, none⟩ = some (.string y.v.name) /\ w'.cell? ⟨w.heap.size + 1, 2, none⟩ = some (.string y.v.to) /\ w'.cell? ⟨w.heap.size + 1, 3, none⟩ = some (.int .i64 y.v.place) /\ w'.cell? ⟨w.heap.size + 1, 4, none⟩ = some (.slice y.A y.n y.c) /\ w'.cell? ⟨w.heap.size + 1, 5, none⟩ = some (.slice y.B y.m y.d))
    (first | with_reducible exact s3 | with_reducible exact s2 | with_reducible exact s1 | with_reducible exact s0)
    (first | (go_at_call 78; refine (HM.out _).mono ?_; rintro e w1 ⟨rfl, hl1⟩; have hlw : Later wb w1 := Later.trans (by first | exact Later.refl _ | exact (Later.refl _).drew | exact (Later.refl _).drewN _) hl1; have s1 := both_all (x := x) (y := y) (HB0.out.later hlw) (HB1.out.later hlw); have c2 := HB2.out.later hlw; have u0 := c2.cell (i := 0) rfl; have u1 := c2.cell (i := 1) rfl; have u2 := c2.cell (i := 2) rfl; have u3 := c2.cell (i := 3) rfl; have u4 := c2.cell (i := 4) rfl; have u5 := c2.cell (i := 5) rfl; have v0 := c2.frozen 0; have v1 := c2.frozen 1; have v2 := c2.frozen 2; have v3 := c2.frozen 3; have v4 := c2.frozen 4; have v5 := c2.frozen 5; have k2 := turned_set6 w1 (w.heap.size + 1 + 1) (.int .i64 y.v.kind) (.string y.v.name) (.string y.v.to) (.int .i64 y.v.place) (.slice y.A y.n y.c) (.slice y.B y.m y.d); have c3 := (HB3.out.later hlw).other k2 (by omega); have r0 := c3.cell (i := 0) rfl; have r1 := c3.cell (i := 1) rfl; have r2 := c3.cell (i := 2) rfl; have r3 := c3.cell (i := 3) rfl; have r4 := c3.cell (i := 4) rfl; have r5 := c3.cell (i := 5) rfl; have t0 := c3.frozen 0; have t1 := c3.frozen 1; have t2 := c3.frozen 2; have t3 := c3.frozen 3; have t4 := c3.frozen 4; have t5 := c3.frozen 5; have s2 := both_all (x := x) (y := y) ((HB0.out.later hlw).other k2 (by omega)) ((HB1.out.later hlw).other k2 (by omega)); have k3 := turned_set6 ((((((w1.setCell ⟨w.heap.size + 1 + 1, 0, none⟩ (.int .i64 y.v.kind)).setCell ⟨w.heap.size + 1 + 1, 1, none⟩ (.string y.v.name)).setCell ⟨w.heap.size + 1 + 1, 2, none⟩ (.string y.v.to)).setCell ⟨w.heap.size + 1 + 1, 3, none⟩ (.int .i64 y.v.place)).setCell ⟨w.heap.size + 1 + 1, 4, none⟩ (.slice y.A y.n y.c)).setCell ⟨w.heap.size + 1 + 1, 5, none⟩ (.slice y.B y.m y.d)) (w.heap.size + 1 + 1 + 1) (.int .i64 x.v.kind) (.string x.v.name) (.string x.v.to) (.int .i64 x.v.place) (.slice x.A x.n x.c) (.slice x.B x.m x.d); have s3 := both_all (x := x) (y := y) (((HB0.out.later hlw).other k2 (by omega)).other k3 (by omega)) (((HB1.out.later hlw).other k2 (by omega)).other k3 (by omega)); have HLW := Lib.hid hlw; have HK2 := Lib.hid k2; have HK3 := Lib.hid k3; have HC2 := Lib.hid c2; have HC3 := Lib.hid c3; clear hl1 hlw k2 k3 c2 c3))
  go_wp2
  exact bodyPost_ret (results_two rfl _ _ _ _ _ _ _ _ _ _ _ _ rfl rfl rfl ((HC2.out.set6 (.int .i64 y.v.kind) (.string y.v.name) (.string y.v.to) (.int .i64 y.v.place) (.slice y.A y.n y.c) (.slice y.B y.m y.d)).other HK3.out (by omega)) (HC3.out.set6 (.int .i64 x.v.kind) (.string x.v.name) (.string x.v.to) (.int .i64 x.v.place) (.slice x.A x.n x.c) (.slice x.B x.m x.d)) Tryz.underlying89 rfl Tryz.refPrimSize Tryz.refPrimSize) rfl
    ⟨y, x, rfl, rfl, rfl, (fun _ hx9 hy9 => ⟨hy9, hx9⟩), ((HL.out.trans HLW.out).turn HK2.out (by omega)).turn HK3.out (by omega)⟩

set_option maxRecDepth 100000 in
set_option maxHeartbeats 3200000 in
theorem refTwo_c6 (x y : PrC) (w : World) (kp : x.v.kind ≠ 0) (k3 : x.v.kind ≠ 3) (kq : y.v.kind ≠ 0) :
    Calls Tryz.prog 65 #[prV x, prV y] w (GivesW x y (twoP x.v y.v) w) := by
  have da0 : (x.v.kind == 0) = false := by rw [beq_eq_false_iff_ne]; omega
  have db0 : (y.v.kind == 0) = false := by rw [beq_eq_false_iff_ne]; omega
  have da3 : (x.v.kind == 3) = false := by rw [beq_eq_false_iff_ne]; omega
  have hE : twoP x.v y.v = (y.v, x.v, !commonP x.v y.v) := by simp [twoP, kp, kq, k3]
  rw [hE]
  have HM := Lib.hid (fun w' => refCommon_any x y w')
  generalize commonP x.v y.v = cm at HM ⊢
  clear hE kp k3 kq
  unfold prV
  obtain ⟨b0, b1, b2, b3, hl⟩ := four_boxes w #[.int .i64 x.v.kind, .string x.v.name, .string x.v.to, .int .i64 x.v.place, .slice x.A x.n x.c, .slice x.B x.m x.d] #[.int .i64 y.v.kind, .string y.v.name, .string y.v.to, .int .i64 y.v.place, .slice y.A y.n y.c, .slice y.B y.m y.d] #[.int .i64 0, .string ⟨#[]⟩, .string ⟨#[]⟩, .int .i64 0, .slice none 0 0, .slice none 0 0] #[.int .i64 0, .string ⟨#[]⟩, .string ⟨#[]⟩, .int .i64 0, .slice none 0 0, .slice none 0 0] 89
  unfold prV at HM
  go_enter Tryz.func65, Tryz.ntmps65
  go_upto_region 13 with fail
  generalize (((w.alloc (.cells #[.int .i64 x.v.kind, .string x.v.name, .string x.v.to, .int .i64 x.v.place, .slice x.A x.n x.c, .slice x.B x.m x.d] 89)).alloc (.cells #[.int .i64 y.v.kind, .string y.v.name, .string y.v.to, .int .i64 y.v.place, .slice y.A y.n y.c, .slice y.B y.m y.d] 89)).alloc (.cells #[.int .i64 0, .string ⟨#[]⟩, .string ⟨#[]⟩, .int .i64 0, .slice none 0 0, .slice none 0 0] 89)).alloc (.cells #[.int .i64 0, .string ⟨#[]⟩, .string ⟨#[]⟩, .int .i64 0, .slice none 0 0, .slice none 0 0] 89) = wb at b0 b1 b2 b3 hl ⊢
  have hsz := b3.lt
  have HB0 := Lib.hid b0; have HB1 := Lib.hid b1; have HB2 := Lib.hid b2; have HB3 := Lib.hid b3; have HL := Lib.hid hl
  have s0 := both_all (x := x) (y := y) (b0.later (Later.refl wb).drew) (b1.later (Later.refl wb).drew)
  clear b0 b1 b2 b3 hl
  go_region_held3 (fun w' => w'.cell? ⟨w.heap.size, 0, none⟩ = some (.int .i64 x.v.kind) /\ w'.cell? ⟨w.heap.size, 1, none⟩ = some (.string x.v.name) /\ w'.cell? ⟨w.heap.size, 2, none⟩ = some (.string x.v.to) /\ w'.cell? ⟨w.heap.size, 3, none⟩ = some (.int .i64 x.v.place) /\ w'.cell? ⟨w.heap.size, 4, none⟩ = some (.slice x.A x.n x.c) /\ w'.cell? ⟨w.heap.size, 5, none⟩ = some (.slice x.B x.m x.d) /\ w'.cell? ⟨w.heap.size + 1, 0, none⟩ = some (.int .i64 y.v.kind) /\ w'.cell? ⟨w.heap.size + 1, 1, none⟩ = some (.string y.v.name) /\ w'.cell? ⟨w.heap.size + 1, 2, none⟩ = some (.string y.v.to) /\ w'.cell? ⟨w.heap.size + 1, 3, none⟩ = some (.int .i64 y.v.place) /\ w'.cell? ⟨w.heap.size + 1, 4, none⟩ = some (.slice y.A y.n y.c) /\ w'.cell? ⟨w.heap.size + 1, 5, none⟩ = some (.slice y.B y.m y.d))
    (first | with_reducible exact s3 | with_reducible exact s2 | with_reducible exact s1 | with_reducible exact s0)
    (first | (go_at_call 78; refine (HM.out _).mono ?_; rintro e w1 ⟨rfl, hl1⟩; have hlw : Later wb w1 := Later.trans (by first | exact Later.refl _ | exact (Later.refl _).drew | exact (Later.refl _).drewN _) hl1; have s1 := both_all (x := x) (y := y) (HB0.out.later hlw) (HB1.out.later hlw); have c2 := HB2.out.later hlw; have u0 := c2.cell (i := 0) rfl; have u1 := c2.cell (i := 1) rfl; have u2 := c2.cell (i := 2) rfl; have u3 := c2.cell (i := 3) rfl; have u4 := c2.cell (i := 4) rfl; have u5 := c2.cell (i := 5) rfl; have v0 := c2.frozen 0; have v1 := c2.frozen 1; have v2 := c2.frozen 2; have v3 := c2.frozen 3; have v4 := c2.frozen 4; have v5 := c2.frozen 5; have k2 := turned_set6 w1 (w.heap.size + 1 + 1) (.int .i64 y.v.kind) (.string y.v.name) (.string y.v.to) (.int .i64 y.v.place) (.slice y.A y.n y.c) (.slice y.B y.m y.d); have c3 := (HB3.out.later hlw).other k2 (by omega); have r0 := c3.cell (i := 0) rfl; have r1 := c3.cell (i := 1) rfl; have r2 := c3.cell (i := 2) rfl; have r3 := c3.cell (i := 3) rfl; have r4 := c3.cell (i := 4) rfl; have r5 := c3.cell (i := 5) rfl; have t0 := c3.frozen 0; have t1 := c3.frozen 1; have t2 := c3.frozen 2; have t3 := c3.frozen 3; have t4 := c3.frozen 4; have t5 := c3.frozen 5; have s2 := both_all (x := x) (y := y) ((HB0.out.later hlw).other k2 (by omega)) ((HB1.out.later hlw).other k2 (by omega)); have k3 := turned_set6 ((((((w1.setCell ⟨w.heap.size + 1 + 1, 0, none⟩ (.int .i64 y.v.kind)).setCell ⟨w.heap.size + 1 + 1, 1, none⟩ (.string y.v.name)).setCell ⟨w.heap.size + 1 + 1, 2, none⟩ (.string y.v.to)).setCell ⟨w.heap.size + 1 + 1, 3, none⟩ (.int .i64 y.v.place)).setCell ⟨w.heap.size + 1 + 1, 4, none⟩ (.slice y.A y.n y.c)).setCell ⟨w.heap.size + 1 + 1, 5, none⟩ (.slice y.B y.m y.d)) (w.heap.size + 1 + 1 + 1) (.int .i64 x.v.kind) (.string x.v.name) (.string x.v.to) (.int .i64 x.v.place) (.slice x.A x.n x.c) (.slice x.B x.m x.d); have s3 := both_all (x := x) (y := y) (((HB0.out.later hlw).other k2 (by omega)).other k3 (by omega)) (((HB1.out.later hlw).other k2 (by omega)).other k3 (by omega)); have HLW := Lib.hid hlw; have HK2 := Lib.hid k2; have HK3 := Lib.hid k3; have HC2 := Lib.hid c2; have HC3 := Lib.hid c3; clear hl1 hlw k2 k3 c2 c3))
  go_wp2
  exact bodyPost_ret (results_two rfl _ _ _ _ _ _ _ _ _ _ _ _ rfl rfl rfl ((HC2.out.set6 (.int .i64 y.v.kind) (.string y.v.name) (.string y.v.to) (.int .i64 y.v.place) (.slice y.A y.n y.c) (.slice y.B y.m y.d)).other HK3.out (by omega)) (HC3.out.set6 (.int .i64 x.v.kind) (.string x.v.name) (.string x.v.to) (.int .i64 x.v.place) (.slice x.A x.n x.c) (.slice x.B x.m x.d)) Tryz.underlying89 rfl Tryz.refPrimSize Tryz.refPrimSize) rfl
    ⟨y, x, rfl, rfl, rfl, (fun _ hx9 hy9 => ⟨hy9, hx9⟩), ((HL.out.trans HLW.out).turn HK2.out (by omega)).turn HK3.out (by omega)⟩

theorem refTwo_any (x y : PrC) (w : World) (hx : PrOk w x) (hy : PrOk w y) (hp : rightP x.v = true) (hq : rightP y.v = true) :
    Calls Tryz.prog 65 #[prV x, prV y] w (GivesW x y (twoP x.v y.v) w) := by
  by_cases kp : x.v.kind = 0
  · by_cases kq : y.v.kind = 0
    · exact refTwo_HH x y w hx hy hp hq kp kq
    · by_cases k3 : y.v.kind = 3
      · by_cases hn : x.v.name = y.v.name
        · exact refTwo_HM x y w hy kp k3 hn
        · exact refTwo_c1 x y w kp k3 hn
      · exact refTwo_c2 x y w kp kq k3
  · by_cases k3 : x.v.kind = 3
    · by_cases kq : y.v.kind = 0
      · by_cases hn : x.v.to = y.v.name
        · exact refTwo_MH x y w hx k3 kq hn
        · exact refTwo_c3 x y w k3 kq hn
      · exact refTwo_c5 x y w k3 kq
    · by_cases kq : y.v.kind = 0
      · exact refTwo_c4 x y w kp k3 kq
      · exact refTwo_c6 x y w kp k3 kq

end Go.Proofs.YtlnjhimbgckdcaaGreat

/-
  What the document's Swap comes to, as a call.
-/
namespace Go.Proofs.YtlnjhimbgckdcaaGreat
open Go.RowKit Go.Maps

theorem five_boxes (w : World) (a b c d f : Array Value) (t : TypeId) : BoxAt (((((w.alloc (.cells a t)).alloc (.cells b t)).alloc (.cells c t)).alloc (.cells d t)).alloc (.cells f t)) (w.heap.size + 1 + 1 + 1 + 1) f t := by
  have := BoxAt.made ((((w.alloc (.cells a t)).alloc (.cells b t)).alloc (.cells c t)).alloc (.cells d t)) f t
  simpa using this
theorem heed_two {p q : Pr} (hp : rightP p = true) (hq : rightP q = true) {a b : Pr} {t : Bool} (h1 : a = (twoP p q).1) (h2 : b = (twoP p q).2.1) (h3 : t = (twoP p q).2.2) : swapP p q = heedP (a, b, t) := by
  rw [swapP_two p q hp hq, h1, h2, h3]

end Go.Proofs.YtlnjhimbgckdcaaGreat
