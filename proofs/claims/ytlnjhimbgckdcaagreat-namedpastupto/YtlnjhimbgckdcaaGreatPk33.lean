import Derived.Test.YtlnjhimbgckdcaaGreatPk32

/-
  What the document's two comes to, as a call: not two hunks.
-/
namespace Go.Proofs.YtlnjhimbgckdcaaGreat
open Go.RowKit Go.Maps

set_option maxRecDepth 100000 in
set_option maxHeartbeats 3200000 in
theorem refTwo_HM (x y : PrC) (w : World) (hy : PrOk w y) (kp : x.v.kind = 0) (kq : y.v.kind = 3) (hn : x.v.name = y.v.name) :
    Calls Tryz.prog 65 #[prV x, prV y] w (GivesW x y (twoP x.v y.v) w) := by
  have da0 : (x.v.kind == 0) = true := by rw [beq_iff_eq]; omega
  have db0 : (y.v.kind == 0) = false := by rw [beq_eq_false_iff_ne]; omega
  have da3 : (x.v.kind == 3) = false := by rw [beq_eq_false_iff_ne]; omega
  have db3 : (y.v.kind == 3) = true := by rw [beq_iff_eq]; omega
  have hE : twoP x.v y.v = (y.v, inFile x.v y.v.to, true) := by simp [twoP, kp, kq, hn]
  rw [hE]
  have tn : (x.v.name.toList == y.v.name.toList) = true := by rw [hn]; exact beq_self_eq_true _
  have hto := hy.to
  have HM := Lib.hid (fun w' => refIn_v x y.v.to w')
  clear hE hn hy kp kq
  unfold prV
  obtain ⟨b0, b1, b2, b3, hl⟩ := four_boxes w #[.int .i64 x.v.kind, .string x.v.name, .string x.v.to, .int .i64 x.v.place, .slice x.A x.n x.c, .slice x.B x.m x.d] #[.int .i64 y.v.kind, .string y.v.name, .string y.v.to, .int .i64 y.v.place, .slice y.A y.n y.c, .slice y.B y.m y.d] #[.int .i64 0, .string ⟨#[]⟩, .string ⟨#[]⟩, .int .i64 0, .slice none 0 0, .slice none 0 0] #[.int .i64 0, .string ⟨#[]⟩, .string ⟨#[]⟩, .int .i64 0, .slice none 0 0, .slice none 0 0] 89
  unfold prV at HM
  go_enter Tryz.func65, Tryz.ntmps65
  go_upto_region 8 with fail
  generalize (((w.alloc (.cells #[.int .i64 x.v.kind, .string x.v.name, .string x.v.to, .int .i64 x.v.place, .slice x.A x.n x.c, .slice x.B x.m x.d] 89)).alloc (.cells #[.int .i64 y.v.kind, .string y.v.name, .string y.v.to, .int .i64 y.v.place, .slice y.A y.n y.c, .slice y.B y.m y.d] 89)).alloc (.cells #[.int .i64 0, .string ⟨#[]⟩, .string ⟨#[]⟩, .int .i64 0, .slice none 0 0, .slice none 0 0] 89)).alloc (.cells #[.int .i64 0, .string ⟨#[]⟩, .string ⟨#[]⟩, .int .i64 0, .slice none 0 0, .slice none 0 0] 89) = wb at b0 b1 b2 b3 hl ⊢
  have hsz := b3.lt
  have HB0 := Lib.hid b0; have HB1 := Lib.hid b1; have HB2 := Lib.hid b2; have HB3 := Lib.hid b3; have HL := Lib.hid hl
  have s0 := both_all (x := x) (y := y) (b0.later (Later.refl wb).drew) (b1.later (Later.refl wb).drew)
  clear b0 b1 b2 b3 hl
  go_region_held3 (fun w' => w'.cell? ⟨w.heap.size, 0, none⟩ = some (.int .i64 x.v.kind) /\ w'.cell? ⟨w.heap.size, 1, none⟩ = some (.string x.v.name) /\ w'.cell? ⟨w.heap.size, 2, none⟩ = some (.string x.v.to) /\ w'.cell? ⟨w.heap.size, 3, none⟩ = some (.int .i64 x.v.place) /\ w'.cell? ⟨w.heap.size, 4, none⟩ = some (.slice x.A x.n x.c) /\ w'.cell? ⟨w.heap.size, 5, none⟩ = some (.slice x.B x.m x.d) /\ w'.cell? ⟨w.heap.size + 1, 0, none⟩ = some (.int .i64 y.v.kind) /\ w'.cell? ⟨w.heap.size + 1, 1, none⟩ = some (.string y.v.name) /\ w'.cell? ⟨w.heap.size + 1, 2, none⟩ = some (.string y.v.to) /\ w'.cell? ⟨w.heap.size + 1, 3, none⟩ = some (.int .i64 y.v.place) /\ w'.cell? ⟨w.heap.size + 1, 4, none⟩ = some (.slice y.A y.n y.c) /\ w'.cell? ⟨w.heap.size + 1, 5, none⟩ = some (.slice y.B y.m y.d))
    (first | with_reducible exact s3 | with_reducible exact s2 | with_reducible exact s1 | with_reducible exact s0)
    (first | (go_at_call 77; refine (HM.out _).mono ?_; rintro e w1 ⟨rfl, hl1⟩; have hlw : Later wb w1 := Later.trans (by first | exact Later.refl _ | exact (Later.refl _).drew | exact (Later.refl _).drewN _) hl1; have s1 := both_all (x := x) (y := y) (HB0.out.later hlw) (HB1.out.later hlw); have c2 := HB2.out.later hlw; have u0 := c2.cell (i := 0) rfl; have u1 := c2.cell (i := 1) rfl; have u2 := c2.cell (i := 2) rfl; have u3 := c2.cell (i := 3) rfl; have u4 := c2.cell (i := 4) rfl; have u5 := c2.cell (i := 5) rfl; have v0 := c2.frozen 0; have v1 := c2.frozen 1; have v2 := c2.frozen 2; have v3 := c2.frozen 3; have v4 := c2.frozen 4; have v5 := c2.frozen 5; have k2 := turned_set6 w1 (w.heap.size + 1 + 1) (.int .i64 y.v.kind) (.string y.v.name) (.string y.v.to) (.int .i64 y.v.place) (.slice y.A y.n y.c) (.slice y.B y.m y.d); have c3 := (HB3.out.later hlw).other k2 (by omega); have r0 := c3.cell (i := 0) rfl; have r1 := c3.cell (i := 1) rfl; have r2 := c3.cell (i := 2) rfl; have r3 := c3.cell (i := 3) rfl; have r4 := c3.cell (i := 4) rfl; have r5 := c3.cell (i := 5) rfl; have t0 := c3.frozen 0; have t1 := c3.frozen 1; have t2 := c3.frozen 2; have t3 := c3.frozen 3; have t4 := c3.frozen 4; have t5 := c3.frozen 5; have s2 := both_all (x := x) (y := y) ((HB0.out.later hlw).other k2 (by omega)) ((HB1.out.later hlw).other k2 (by omega)); have k3 := turned_set6 ((((((w1.setCell ⟨w.heap.size + 1 + 1, 0, none⟩ (.int .i64 y.v.kind)).setCell ⟨w.heap.size + 1 + 1, 1, none⟩ (.string y.v.name)).setCell ⟨w.heap.size + 1 + 1, 2, none⟩ (.string y.v.to)).setCell ⟨w.heap.size + 1 + 1, 3, none⟩ (.int .i64 y.v.place)).setCell ⟨w.heap.size + 1 + 1, 4, none⟩ (.slice y.A y.n y.c)).setCell ⟨w.heap.size + 1 + 1, 5, none⟩ (.slice y.B y.m y.d)) (w.heap.size + 1 + 1 + 1) (.int .i64 x.v.kind) (.string y.v.to) (.string x.v.to) (.int .i64 x.v.place) (.slice x.A x.n x.c) (.slice x.B x.m x.d); have s3 := both_all (x := x) (y := y) (((HB0.out.later hlw).other k2 (by omega)).other k3 (by omega)) (((HB1.out.later hlw).other k2 (by omega)).other k3 (by omega)); have HLW := Lib.hid hlw; have HK2 := Lib.hid k2; have HK3 := Lib.hid k3; have HC2 := Lib.hid c2; have HC3 := Lib.hid c3; clear hl1 hlw k2 k3 c2 c3))
  go_wp2
  exact bodyPost_ret (results_two rfl _ _ _ _ _ _ _ _ _ _ _ _ rfl rfl rfl ((HC2.out.set6 (.int .i64 y.v.kind) (.string y.v.name) (.string y.v.to) (.int .i64 y.v.place) (.slice y.A y.n y.c) (.slice y.B y.m y.d)).other HK3.out (by omega)) (HC3.out.set6 (.int .i64 x.v.kind) (.string y.v.to) (.string x.v.to) (.int .i64 x.v.place) (.slice x.A x.n x.c) (.slice x.B x.m x.d)) Tryz.underlying89 rfl Tryz.refPrimSize Tryz.refPrimSize) rfl
    ⟨y, inC x y.v.to, rfl, rfl, rfl, (fun _ hx9 hy9 => ⟨hy9, inC_ok hx9 hto⟩), ((HL.out.trans HLW.out).turn HK2.out (by omega)).turn HK3.out (by omega)⟩

set_option maxRecDepth 100000 in
set_option maxHeartbeats 3200000 in
theorem refTwo_MH (x y : PrC) (w : World) (hx : PrOk w x) (kp : x.v.kind = 3) (kq : y.v.kind = 0) (hn : x.v.to = y.v.name) :
    Calls Tryz.prog 65 #[prV x, prV y] w (GivesW x y (twoP x.v y.v) w) := by
  have da0 : (x.v.kind == 0) = false := by rw [beq_eq_false_iff_ne]; omega
  have db0 : (y.v.kind == 0) = true := by rw [beq_iff_eq]; omega
  have da3 : (x.v.kind == 3) = true := by rw [beq_iff_eq]; omega
  have db3 : (y.v.kind == 3) = false := by rw [beq_eq_false_iff_ne]; omega
  have hE : twoP x.v y.v = (inFile y.v x.v.name, x.v, true) := by simp [twoP, kp, kq, hn]
  rw [hE]
  have tn : (x.v.to.toList == y.v.name.toList) = true := by rw [hn]; exact beq_self_eq_true _
  have hto := hx.name
  have HM := Lib.hid (fun w' => refIn_v y x.v.name w')
  clear hE hn hx kp kq
  unfold prV
  obtain ⟨b0, b1, b2, b3, hl⟩ := four_boxes w #[.int .i64 x.v.kind, .string x.v.name, .string x.v.to, .int .i64 x.v.place, .slice x.A x.n x.c, .slice x.B x.m x.d] #[.int .i64 y.v.kind, .string y.v.name, .string y.v.to, .int .i64 y.v.place, .slice y.A y.n y.c, .slice y.B y.m y.d] #[.int .i64 0, .string ⟨#[]⟩, .string ⟨#[]⟩, .int .i64 0, .slice none 0 0, .slice none 0 0] #[.int .i64 0, .string ⟨#[]⟩, .string ⟨#[]⟩, .int .i64 0, .slice none 0 0, .slice none 0 0] 89
  unfold prV at HM
  go_enter Tryz.func65, Tryz.ntmps65
  go_upto_region 10 with fail
  generalize (((w.alloc (.cells #[.int .i64 x.v.kind, .string x.v.name, .string x.v.to, .int .i64 x.v.place, .slice x.A x.n x.c, .slice x.B x.m x.d] 89)).alloc (.cells #[.int .i64 y.v.kind, .string y.v.name, .string y.v.to, .int .i64 y.v.place, .slice y.A y.n y.c, .slice y.B y.m y.d] 89)).alloc (.cells #[.int .i64 0, .string ⟨#[]⟩, .string ⟨#[]⟩, .int .i64 0, .slice none 0 0, .slice none 0 0] 89)).alloc (.cells #[.int .i64 0, .string ⟨#[]⟩, .string ⟨#[]⟩, .int .i64 0, .slice none 0 0, .slice none 0 0] 89) = wb at b0 b1 b2 b3 hl ⊢
  have hsz := b3.lt
  have HB0 := Lib.hid b0; have HB1 := Lib.hid b1; have HB2 := Lib.hid b2; have HB3 := Lib.hid b3; have HL := Lib.hid hl
  have s0 := both_all (x := x) (y := y) (b0.later (Later.refl wb).drew) (b1.later (Later.refl wb).drew)
  clear b0 b1 b2 b3 hl
  go_region_held3 (fun w' => w'.cell? ⟨w.heap.size, 0, none⟩ = some (.int .i64 x.v.kind) /\ w'.cell? ⟨w.heap.size, 1, none⟩ = some (.string x.v.name) /\ w'.cell? ⟨w.heap.size, 2, none⟩ = some (.string x.v.to) /\ w'.cell? ⟨w.heap.size, 3, none⟩ = some (.int .i64 x.v.place) /\ w'.cell? ⟨w.heap.size, 4, none⟩ = some (.slice x.A x.n x.c) /\ w'.cell? ⟨w.heap.size, 5, none⟩ = some (.slice x.B x.m x.d) /\ w'.cell? ⟨w.heap.size + 1, 0, none⟩ = some (.int .i64 y.v.kind) /\ w'.cell? ⟨w.heap.size + 1, 1, none⟩ = some (.string y.v.name) /\ w'.cell? ⟨w.heap.size + 1, 2, none⟩ = some (.string y.v.to) /\ w'.cell? ⟨w.heap.size + 1, 3, none⟩ = some (.int .i64 y.v.place) /\ w'.cell? ⟨w.heap.size + 1, 4, none⟩ = some (.slice y.A y.n y.c) /\ w'.cell? ⟨w.heap.size + 1, 5, none⟩ = some (.slice y.B y.m y.d))
    (first | with_reducible exact s3 | with_reducible exact s2 | with_reducible exact s1 | with_reducible exact s0)
    (first | (go_at_call 77; refine (HM.out _).mono ?_; rintro e w1 ⟨rfl, hl1⟩; have hlw : Later wb w1 := Later.trans (by first | exact Later.refl _ | exact (Later.refl _).drew | exact (Later.refl _).drewN _) hl1; have s1 := both_all (x := x) (y := y) (HB0.out.later hlw) (HB1.out.later hlw); have c2 := HB2.out.later hlw; have u0 := c2.cell (i := 0) rfl; have u1 := c2.cell (i := 1) rfl; have u2 := c2.cell (i := 2) rfl; have u3 := c2.cell (i := 3) rfl; have u4 := c2.cell (i := 4) rfl; have u5 := c2.cell (i := 5) rfl; have v0 := c2.frozen 0; have v1 := c2.frozen 1; have v2 := c2.frozen 2; have v3 := c2.frozen 3; have v4 := c2.frozen 4; have v5 := c2.frozen 5; have k2 := turned_set6 w1 (w.heap.size + 1 + 1) (.int .i64 y.v.kind) (.string x.v.name) (.string y.v.to) (.int .i64 y.v.place) (.slice y.A y.n y.c) (.slice y.B y.m y.d); have c3 := (HB3.out.later hlw).other k2 (by omega); have r0 := c3.cell (i := 0) rfl; have r1 := c3.cell (i := 1) rfl; have r2 := c3.cell (i := 2) rfl; have r3 := c3.cell (i := 3) rfl; have r4 := c3.cell (i := 4) rfl; have r5 := c3.cell (i := 5) rfl; have t0 := c3.frozen 0; have t1 := c3.frozen 1; have t2 := c3.frozen 2; have t3 := c3.frozen 3; have t4 := c3.frozen 4; have t5 := c3.frozen 5; have s2 := both_all (x := x) (y := y) ((HB0.out.later hlw).other k2 (by omega)) ((HB1.out.later hlw).other k2 (by omega)); have k3 := turned_set6 ((((((w1.setCell ⟨w.heap.size + 1 + 1, 0, none⟩ (.int .i64 y.v.kind)).setCell ⟨w.heap.size + 1 + 1, 1, none⟩ (.string x.v.name)).setCell ⟨w.heap.size + 1 + 1, 2, none⟩ (.string y.v.to)).setCell ⟨w.heap.size + 1 + 1, 3, none⟩ (.int .i64 y.v.place)).setCell ⟨w.heap.size + 1 + 1, 4, none⟩ (.slice y.A y.n y.c)).setCell ⟨w.heap.size + 1 + 1, 5, none⟩ (.slice y.B y.m y.d)) (w.heap.size + 1 + 1 + 1) (.int .i64 x.v.kind) (.string x.v.name) (.string x.v.to) (.int .i64 x.v.place) (.slice x.A x.n x.c) (.slice x.B x.m x.d); have s3 := both_all (x := x) (y := y) (((HB0.out.later hlw).other k2 (by omega)).other k3 (by omega)) (((HB1.out.later hlw).other k2 (by omega)).other k3 (by omega)); have HLW := Lib.hid hlw; have HK2 := Lib.hid k2; have HK3 := Lib.hid k3; have HC2 := Lib.hid c2; have HC3 := Lib.hid c3; clear hl1 hlw k2 k3 c2 c3))
  go_wp2
  exact bodyPost_ret (results_two rfl _ _ _ _ _ _ _ _ _ _ _ _ rfl rfl rfl ((HC2.out.set6 (.int .i64 y.v.kind) (.string x.v.name) (.string y.v.to) (.int .i64 y.v.place) (.slice y.A y.n y.c) (.slice y.B y.m y.d)).other HK3.out (by omega)) (HC3.out.set6 (.int .i64 x.v.kind) (.string x.v.name) (.string x.v.to) (.int .i64 x.v.place) (.slice x.A x.n x.c) (.slice x.B x.m x.d)) Tryz.underlying89 rfl Tryz.refPrimSize Tryz.refPrimSize) rfl
    ⟨inC y x.v.name, x, rfl, rfl, rfl, (fun _ hx9 hy9 => ⟨inC_ok hy9 hto, hx9⟩), ((HL.out.trans HLW.out).turn HK2.out (by omega)).turn HK3.out (by omega)⟩

set_option maxRecDepth 100000 in
set_option maxHeartbeats 3200000 in
theorem refTwo_c1 (x y : PrC) (w : World) (kp : x.v.kind = 0) (kq : y.v.kind = 3) (hn : x.v.name ≠ y.v.name) :
    Calls Tryz.prog 65 #[prV x, prV y] w (GivesW x y (twoP x.v y.v) w) := by
  have da0 : (x.v.kind == 0) = true := by rw [beq_iff_eq]; omega
  have db0 : (y.v.kind == 0) = false := by rw [beq_eq_false_iff_ne]; omega
  have da3 : (x.v.kind == 3) = false := by rw [beq_eq_false_iff_ne]; omega
  have db3 : (y.v.kind == 3) = true := by rw [beq_iff_eq]; omega
  have tn := text_ne hn
  have hE : twoP x.v y.v = (y.v, x.v, !commonP x.v y.v) := by simp [twoP, kp, kq, hn]
  rw [hE]
  have HM := Lib.hid (fun w' => refCommon_any x y w')
  generalize commonP x.v y.v = cm at HM ⊢
  clear hE kp kq hn
  unfold prV
  obtain ⟨b0, b1, b2, b3, hl⟩ := four_boxes w #[.int .i64 x.v.kind, .string x.v.name, .string x.v.to, .int .i64 x.v.place, .slice x.A x.n x.c, .slice x.B x.m x.d] #[.int .i64 y.v.kind, .string y.v.name, .string y.v.to, .int .i64 y.v.place, .slice y.A y.n y.c, .slice y.B y.m y.d] #[.int .i64 0, .string ⟨#[]⟩, .string ⟨#[]⟩, .int .i64 0, .slice none 0 0, .slice none 0 0] #[.int .i64 0, .string ⟨#[]⟩, .string ⟨#[]⟩, .int .i64 0, .slice none 0 0, .slice none 0 0] 89
  unfold prV at HM
  go_enter Tryz.func65, Tryz.ntmps65
  go_upto_region 13 with fail
  generalize (((w.alloc (.cells #[.int .i64 x.v.kind, .string x.v.name, .string x.v.to, .int .i64 x.v.place, .slice x.A x.n x.c, .slice x.B x.m x.d] 89)).alloc (.cells #[.int .i64 y.v.kind, .string y.v.name, .string y.v.to, .int .i64 y.v.place, .slice y.A y.n y.c, .slice y.B y.m y.d] 89)).alloc (.cells #[.int .i64 0, .string ⟨#[]⟩, .string ⟨#[]⟩, .int .i64 0, .slice none 0 0, .slice none 0 0] 89)).alloc (.cells #[.int .i64 0, .string ⟨#[]⟩, .string ⟨#[]⟩, .int .i64 0, .slice none 0 0, .slice none 0 0] 89) = wb at b0 b1 b2 b3 hl ⊢
  have hsz := b3.lt
  have HB0 := Lib.hid b0; have HB1 := Lib.hid b1; have HB2 := Lib.hid b2; have HB3 := Lib.hid b3; have HL := Lib.hid hl
  have s0 := both_all (x := x) (y := y) (b0.later (Later.refl wb).drew) (b1.later (Later.refl wb).drew)
  clear b0 b1 b2 b3 hl
  go_region_held3 (fun w' => w'.cell? ⟨w.heap.size, 0, none⟩ = some (.int .i64 x.v.kind) /\ w'.cell? ⟨w.heap.size, 1, none⟩ = some (.string x.v.name) /\ w'.cell? ⟨w.heap.size, 2, none⟩ = some (.string x.v.to) /\ w'.cell? ⟨w.heap.size, 3, none⟩ = some (.int .i64 x.v.place) /\ w'.cell? ⟨w.heap.size, 4, none⟩ = some (.slice x.A x.n x.c) /\ w'.cell? ⟨w.heap.size, 5, none⟩ = some (.slice x.B x.m x.d) /\ w'.cell? ⟨w.heap.size + 1, 0, none⟩ = some (.int .i64 y.v.kind) /\ w'.cell? ⟨w.heap.size + 1, 1, none⟩ = some (.string y.v.name) /\ w'.cell? ⟨w.heap.size + 1, 2, none⟩ = some (.string y.v.to) /\ w'.cell? ⟨w.heap.size + 1, 3, none⟩ = some (.int .i64 y.v.place) /\ w'.cell? ⟨w.heap.size + 1, 4, none⟩ = some (.slice y.A y.n y.c) /\ w'.cell? ⟨w.heap.size + 1, 5, none⟩ = some (.slice y.B y.m y.d))
    (first | with_reducible exact s3 | with_reducible exact s2 | with_reducible exact s1 | with_reducible exact s0)
    (first | (go_at_call 78; refine (HM.out _).mono ?_; rintro e w1 ⟨rfl, hl1⟩; have hlw : Later wb w1 := Later.trans (by first | exact Later.refl _ | exact (Later.refl _).drew | exact (Later.refl _).drewN _) hl1; have s1 := both_all (x := x) (y := y) (HB0.out.later hlw) (HB1.out.later hlw); have c2 := HB2.out.later hlw; have u0 := c2.cell (i := 0) rfl; have u1 := c2.cell (i := 1) rfl; have u2 := c2.cell (i := 2) rfl; have u3 := c2.cell (i := 3) rfl; have u4 := c2.cell (i := 4) rfl; have u5 := c2.cell (i := 5) rfl; have v0 := c2.frozen 0; have v1 := c2.frozen 1; have v2 := c2.frozen 2; have v3 := c2.frozen 3; have v4 := c2.frozen 4; have v5 := c2.frozen 5; have k2 := turned_set6 w1 (w.heap.size + 1 + 1) (.int .i64 y.v.kind) (.string y.v.name) (.string y.v.to) (.int .i64 y.v.place) (.slice y.A y.n y.c) (.slice y.B y.m y.d); have c3 := (HB3.out.later hlw).other k2 (by omega); have r0 := c3.cell (i := 0) rfl; have r1 := c3.cell (i := 1) rfl; have r2 := c3.cell (i := 2) rfl; have r3 := c3.cell (i := 3) rfl; have r4 := c3.cell (i := 4) rfl; have r5 := c3.cell (i := 5) rfl; have t0 := c3.frozen 0; have t1 := c3.frozen 1; have t2 := c3.frozen 2; have t3 := c3.frozen 3; have t4 := c3.frozen 4; have t5 := c3.frozen 5; have s2 := both_all (x := x) (y := y) ((HB0.out.later hlw).other k2 (by omega)) ((HB1.out.later hlw).other k2 (by omega)); have k3 := turned_set6 ((((((w1.setCell ⟨w.heap.size + 1 + 1, 0, none⟩ (.int .i64 y.v.kind)).setCell ⟨w.heap.size + 1 + 1, 1, none⟩ (.string y.v.name)).setCell ⟨w.heap.size + 1 + 1, 2, none⟩ (.string y.v.to)).setCell ⟨w.heap.size + 1 + 1, 3, none⟩ (.int .i64 y.v.place)).setCell ⟨w.heap.size + 1 + 1, 4, none⟩ (.slice y.A y.n y.c)).setCell ⟨w.heap.size + 1 + 1, 5, none⟩ (.slice y.B y.m y.d)) (w.heap.size + 1 + 1 + 1) (.int .i64 x.v.kind) (.string x.v.name) (.string x.v.to) (.int .i64 x.v.place) (.slice x.A x.n x.c) (.slice x.B x.m x.d); have s3 := both_all (x := x) (y := y) (((HB0.out.later hlw).other k2 (by omega)).other k3 (by omega)) (((HB1.out.later hlw).other k2 (by omega)).other k3 (by omega)); have HLW := Lib.hid hlw; have HK2 := Lib.hid k2; have HK3 := Lib.hid k3; have HC2 := Lib.hid c2; have HC3 := Lib.hid c3; clear hl1 hlw k2 k3 c2 c3))
  go_wp2
  exact bodyPost_ret (results_two rfl _ _ _ _ _ _ _ _ _ _ _ _ rfl rfl rfl ((HC2.out.set6 (.int .i64 y.v.kind) (.string y.v.name) (.string y.v.to) (.int .i64 y.v.place) (.slice y.A y.n y.c) (.slice y.B y.m y.d)).other HK3.out (by omega)) (HC3.out.set6 (.int .i64 x.v.kind) (.string x.v.name) (.string x.v.to) (.int .i64 x.v.place) (.slice x.A x.n x.c) (.slice x.B x.m x.d)) Tryz.underlying89 rfl Tryz.refPrimSize Tryz.refPrimSize) rfl
    ⟨y, x, rfl, rfl, rfl, (fun _ hx9 hy9 => ⟨hy9, hx9⟩), ((HL.out.trans HLW.out).turn HK2.out (by omega)).turn HK3.out (by omega)⟩

set_option maxRecDepth 100000 in
set_option maxHeartbeats 3200000 in
theorem refTwo_c2 (x y : PrC) (w : World) (kp : x.v.kind = 0) (kq : y.v.kind ≠ 0) (k3 : y.v.kind ≠ 3) :
    Calls Tryz.prog 65 #[prV x, prV y] w (GivesW x y (twoP x.v y.v) w) := by
  have da0 : (x.v.kind == 0) = true := by rw [beq_iff_eq]; omega
  have db0 : (y.v.kind == 0) = false := by rw [beq_eq_false_iff_ne]; omega
  have da3 : (x.v.kind == 3) = false := by rw [beq_eq_false_iff_ne]; omega
  have db3 : (y.v.kind == 3) = false := by rw [beq_eq_false_iff_ne]; omega
  have hE : twoP x.v y.v = (y.v, x.v, !commonP x.v y.v) := by simp [twoP, kp, kq, k3]
  rw [hE]
  have HM := Lib.hid (fun w' => refCommon_any x y w')
  generalize commonP x.v y.v = cm at HM ⊢
  clear hE kp kq k3
  unfold prV
  obtain ⟨b0, b1, b2, b3, hl⟩ := four_boxes w #[.int .i64 x.v.kind, .string x.v.name, .string x.v.to, .int .i64 x.v.place, .slice x.A x.n x.c, .slice x.B x.m x.d] #[.int .i64 y.v.kind, .string y.v.name, .string y.v.to, .int .i64 y.v.place, .slice y.A y.n y.c, .slice y.B y.m y.d] #[.int .i64 0, .string ⟨#[]⟩, .string ⟨#[]⟩, .int .i64 0, .slice none 0 0, .slice none 0 0] #[.int .i64 0, .string ⟨#[]⟩, .string ⟨#[]⟩, .int .i64 0, .slice none 0 0, .slice none 0 0] 89
  unfold prV at HM
  go_enter Tryz.func65, Tryz.ntmps65
  go_upto_region 13 with fail
  generalize (((w.alloc (.cells #[.int .i64 x.v.kind, .string x.v.name, .string x.v.to, .int .i64 x.v.place, .slice x.A x.n x.c, .slice x.B x.m x.d] 89)).alloc (.cells #[.int .i64 y.v.kind, .string y.v.name, .string y.v.to, .int .i64 y.v.place, .slice y.A y.n y.c, .slice y.B y.m y.d] 89)).alloc (.cells #[.int .i64 0, .string ⟨#[]⟩, .string ⟨#[]⟩, .int .i64 0, .slice none 0 0, .slice none 0 0] 89)).alloc (.cells #[.int .i64 0, .string ⟨#[]⟩, .string ⟨#[]⟩, .int .i64 0, .slice none 0 0, .slice none 0 0] 89) = wb at b0 b1 b2 b3 hl ⊢
  have hsz := b3.lt
  have HB0 := Lib.hid b0; have HB1 := Lib.hid b1; have HB2 := Lib.hid b2; have HB3 := Lib.hid b3; have HL := Lib.hid hl
  have s0 := both_all (x := x) (y := y) (b0.later (Later.refl wb).drew) (b1.later (Later.refl wb).drew)
  clear b0 b1 b2 b3 hl
  go_region_held3 (fun w' => w'.cell? ⟨w.heap.size, 0, none⟩ = some (.int .i64 x.v.kind) /\ w'.cell? ⟨w.heap.size, 1, none⟩ = some (.string x.v.name) /\ w'.cell? ⟨w.heap.size, 2, none⟩ = some (.string x.v.to) /\ w'.cell? ⟨w.heap.size, 3, none⟩ = some (.int .i64 x.v.place) /\ w'.cell? ⟨w.heap.size, 4, none⟩ = some (.slice x.A x.n x.c) /\ w'.cell? ⟨w.heap.size, 5, none⟩ = some (.slice x.B x.m x.d) /\ w'.cell? ⟨w.heap.size + 1, 0, none⟩ = some (.int .i64 y.v.kind) /\ w'.cell? ⟨w.heap.size + 1, 1, none⟩ = some (.string y.v.name) /\ w'.cell? ⟨w.heap.size + 1, 2, none⟩ = some (.string y.v.to) /\ w'.cell? ⟨w.heap.size + 1, 3, none⟩ = some (.int .i64 y.v.place) /\ w'.cell? ⟨w.heap.size + 1, 4, none⟩ = some (.slice y.A y.n y.c) /\ w'.cell? ⟨w.heap.size + 1, 5, none⟩ = some (.slice y.B y.m y.d))
    (first | with_reducible exact s3 | with_reducible exact s2 | with_reducible exact s1 | with_reducible exact s0)
    (first | (go_at_call 78; refine (HM.out _).mono ?_; rintro e w1 ⟨rfl, hl1⟩; have hlw : Later wb w1 := Later.trans (by first | exact Later.refl _ | exact (Later.refl _).drew | exact (Later.refl _).drewN _) hl1; have s1 := both_all (x := x) (y := y) (HB0.out.later hlw) (HB1.out.later hlw); have c2 := HB2.out.later hlw; have u0 := c2.cell (i := 0) rfl; have u1 := c2.cell (i := 1) rfl; have u2 := c2.cell (i := 2) rfl; have u3 := c2.cell (i := 3) rfl; have u4 := c2.cell (i := 4) rfl; have u5 := c2.cell (i := 5) rfl; have v0 := c2.frozen 0; have v1 := c2.frozen 1; have v2 := c2.frozen 2; have v3 := c2.frozen 3; have v4 := c2.frozen 4; have v5 := c2.frozen 5; have k2 := turned_set6 w1 (w.heap.size + 1 + 1) (.int .i64 y.v.kind) (.string y.v.name) (.string y.v.to) (.int .i64 y.v.place) (.slice y.A y.n y.c) (.slice y.B y.m y.d); have c3 := (HB3.out.later hlw).other k2 (by omega); have r0 := c3.cell (i := 0) rfl; have r1 := c3.cell (i := 1) rfl; have r2 := c3.cell (i := 2) rfl; have r3 := c3.cell (i := 3) rfl; have r4 := c3.cell (i := 4) rfl; have r5 := c3.cell (i := 5) rfl; have t0 := c3.frozen 0; have t1 := c3.frozen 1; have t2 := c3.frozen 2; have t3 := c3.frozen 3; have t4 := c3.frozen 4; have t5 := c3.frozen 5; have s2 := both_all (x := x) (y := y) ((HB0.out.later hlw).other k2 (by omega)) ((HB1.out.later hlw).other k2 (by omega)); have k3 := turned_set6 ((((((w1.setCell ⟨w.heap.size + 1 + 1, 0, none⟩ (.int .i64 y.v.kind)).setCell ⟨w.heap.size + 1 + 1, 1, none⟩ (.string y.v.name)).setCell ⟨w.heap.size + 1 + 1, 2, none⟩ (.string y.v.to)).setCell ⟨w.heap.size + 1 + 1, 3, none⟩ (.int .i64 y.v.place)).setCell ⟨w.heap.size + 1 + 1, 4, none⟩ (.slice y.A y.n y.c)).setCell ⟨w.heap.size + 1 + 1, 5, none⟩ (.slice y.B y.m y.d)) (w.heap.size + 1 + 1 + 1) (.int .i64 x.v.kind) (.string x.v.name) (.string x.v.to) (.int .i64 x.v.place) (.slice x.A x.n x.c) (.slice x.B x.m x.d); have s3 := both_all (x := x) (y := y) (((HB0.out.later hlw).other k2 (by omega)).other k3 (by omega)) (((HB1.out.later hlw).other k2 (by omega)).other k3 (by omega)); have HLW := Lib.hid hlw; have HK2 := Lib.hid k2; have HK3 := Lib.hid k3; have HC2 := Lib.hid c2; have HC3 := Lib.hid c3; clear hl1 hlw k2 k3 c2 c3))
  go_wp2
  exact bodyPost_ret (results_two rfl _ _ _ _ _ _ _ _ _ _ _ _ rfl rfl rfl ((HC2.out.set6 (.int .i64 y.v.kind) (.string y.v.name) (.string y.v.to) (.int .i64 y.v.place) (.slice y.A y.n y.c) (.slice y.B y.m y.d)).other HK3.out (by omega)) (HC3.out.set6 (.int .i64 x.v.kind) (.string x.v.name) (.string x.v.to) (.int .i64 x.v.place) (.slice x.A x.n x.c) (.slice x.B x.m x.d)) Tryz.underlying89 rfl Tryz.refPrimSize Tryz.refPrimSize) rfl
    ⟨y, x, rfl, rfl, rfl, (fun _ hx9 hy9 => ⟨hy9, hx9⟩), ((HL.out.trans HLW.out).turn HK2.out (by omega)).turn HK3.out (by omega)⟩

set_option maxRecDepth 100000 in
set_option maxHeartbeats 3200000 in
theorem refTwo_c3 (x y : PrC) (w : World) (kp : x.v.kind = 3) (kq : y.v.kind = 0) (hn : x.v.to ≠ y.v.name) :
    Calls Tryz.prog 65 #[prV x, prV y] w (GivesW x y (twoP x.v y.v) w) := by
  have da0 : (x.v.kind == 0) = false := by rw [beq_eq_false_iff_ne]; omega
  have db0 : (y.v.kind == 0) = true := by rw [beq_iff_eq]; omega
  have da3 : (x.v.kind == 3) = true := by rw [beq_iff_eq]; omega
  have db3 : (y.v.kind == 3) = false := by rw [beq_eq_false_iff_ne]; omega
  have tn := text_ne hn
  have hE : twoP x.v y.v = (y.v, x.v, !commonP x.v y.v) := by simp [twoP, kp, kq, hn]
  rw [hE]
  have HM := Lib.hid (fun w' => refCommon_any x y w')
  generalize commonP x.v y.v = cm at HM ⊢
  clear hE kp kq hn
  unfold prV
  obtain ⟨b0, b1, b2, b3, hl⟩ := four_boxes w #[.int .i64 x.v.kind, .string x.v.name, .string x.v.to, .int .i64 x.v.place, .slice x.A x.n x.c, .slice x.B x.m x.d] #[.int .i64 y.v.kind, .string y.v.name, .string y.v.to, .int .i64 y.v.place, .slice y.A y.n y.c, .slice y.B y.m y.d] #[.int .i64 0, .string ⟨#[]⟩, .string ⟨#[]⟩, .int .i64 0, .slice none 0 0, .slice none 0 0] #[.int .i64 0, .string ⟨#[]⟩, .string ⟨#[]⟩, .int .i64 0, .slice none 0 0, .slice none 0 0] 89
  unfold prV at HM
  go_enter Tryz.func65, Tryz.ntmps65
  go_upto_region 13 with fail
  generalize (((w.alloc (.cells #[.int .i64 x.v.kind, .string x.v.name, .string x.v.to, .int .i64 x.v.place, .slice x.A x.n x.c, .slice x.B x.m x.d] 89)).alloc (.cells #[.int .i64 y.v.kind, .string y.v.name, .string y.v.to, .int .i64 y.v.place, .slice y.A y.n y.c, .slice y.B y.m y.d] 89)).alloc (.cells #[.int .i64 0, .string ⟨#[]⟩, .string ⟨#[]⟩, .int .i64 0, .slice none 0 0, .slice none 0 0] 89)).alloc (.cells #[.int .i64 0, .string ⟨#[]⟩, .string ⟨#[]⟩, .int .i64 0, .slice none 0 0, .slice none 0 0] 89) = wb at b0 b1 b2 b3 hl ⊢
  have hsz := b3.lt
  have HB0 := Lib.hid b0; have HB1 := Lib.hid b1; have HB2 := Lib.hid b2; have HB3 := Lib.hid b3; have HL := Lib.hid hl
  have s0 := both_all (x := x) (y := y) (b0.later (Later.refl wb).drew) (b1.later (Later.refl wb).drew)
  clear b0 b1 b2 b3 hl
  go_region_held3 (fun w' => w'.cell? ⟨w.heap.size, 0, none⟩ = some (.int .i64 x.v.kind) /\ w'.cell? ⟨w.heap.size, 1, none⟩ = some (.string x.v.name) /\ w'.cell? ⟨w.heap.size, 2, none⟩ = some (.string x.v.to) /\ w'.cell? ⟨w.heap.size, 3, none⟩ = some (.int .i64 x.v.place) /\ w'.cell? ⟨w.heap.size, 4, none⟩ = some (.slice x.A x.n x.c) /\ w'.cell? ⟨w.heap.size, 5, none⟩ = some (.slice x.B x.m x.d) /\ w'.cell? ⟨w.heap.size + 1, 0, none⟩ = some (.int .i64 y.v.kind) /\ w'.cell? ⟨w.heap.size + 1, 1, none⟩ = some (.string y.v.name) /\ w'.cell? ⟨w.heap.size + 1, 2, none⟩ = some (.string y.v.to) /\ w'.cell? ⟨w.heap.size + 1, 3, none⟩ = some (.int .i64 y.v.place) /\ w'.cell? ⟨w.heap.size + 1, 4, none⟩ = some (.slice y.A y.n y.c) /\ w'.cell? ⟨w.heap.size + 1, 5, none⟩ = some (.slice y.B y.m y.d))
    (first | with_reducible exact s3 | with_reducible exact s2 | with_reducible exact s1 | with_reducible exact s0)
    (first | (go_at_call 78; refine (HM.out _).mono ?_; rintro e w1 ⟨rfl, hl1⟩; have hlw : Later wb w1 := Later.trans (by first | exact Later.refl _ | exact (Later.refl _).drew | exact (Later.refl _).drewN _) hl1; have s1 := both_all (x := x) (y := y) (HB0.out.later hlw) (HB1.out.later hlw); have c2 := HB2.out.later hlw; have u0 := c2.cell (i := 0) rfl; have u1 := c2.cell (i := 1) rfl; have u2 := c2.cell (i := 2) rfl; have u3 := c2.cell (i := 3) rfl; have u4 := c2.cell (i := 4) rfl; have u5 := c2.cell (i := 5) rfl; have v0 := c2.frozen 0; have v1 := c2.frozen 1; have v2 := c2.frozen 2; have v3 := c2.frozen 3; have v4 := c2.frozen 4; have v5 := c2.frozen 5; have k2 := turned_set6 w1 (w.heap.size + 1 + 1) (.int .i64 y.v.kind) (.string y.v.name) (.string y.v.to) (.int .i64 y.v.place) (.slice y.A y.n y.c) (.slice y.B y.m y.d); have c3 := (HB3.out.later hlw).other k2 (by omega); have r0 := c3.cell (i := 0) rfl; have r1 := c3.cell (i := 1) rfl; have r2 := c3.cell (i := 2) rfl; have r3 := c3.cell (i := 3) rfl; have r4 := c3.cell (i := 4) rfl; have r5 := c3.cell (i := 5) rfl; have t0 := c3.frozen 0; have t1 := c3.frozen 1; have t2 := c3.frozen 2; have t3 := c3.frozen 3; have t4 := c3.frozen 4; have t5 := c3.frozen 5; have s2 := both_all (x := x) (y := y) ((HB0.out.later hlw).other k2 (by omega)) ((HB1.out.later hlw).other k2 (by omega)); have k3 := turned_set6 ((((((w1.setCell ⟨w.heap.size + 1 + 1, 0, none⟩ (.int .i64 y.v.kind)).setCell ⟨w.heap.size + 1 + 1, 1, none⟩ (.string y.v.name)).setCell ⟨w.heap.size + 1 + 1, 2, none⟩ (.string y.v.to)).setCell ⟨w.heap.size + 1 + 1, 3, none⟩ (.int .i64 y.v.place)).setCell ⟨w.heap.size + 1 + 1, 4, none⟩ (.slice y.A y.n y.c)).setCell ⟨w.heap.size + 1 + 1, 5, none⟩ (.slice y.B y.m y.d)) (w.heap.size + 1 + 1 + 1) (.int .i64 x.v.kind) (.string x.v.name) (.string x.v.to) (.int .i64 x.v.place) (.slice x.A x.n x.c) (.slice x.B x.m x.d); have s3 := both_all (x := x) (y := y) (((HB0.out.later hlw).other k2 (by omega)).other k3 (by omega)) (((HB1.out.later hlw).other k2 (by omega)).other k3 (by omega)); have HLW := Lib.hid hlw; have HK2 := Lib.hid k2; have HK3 := Lib.hid k3; have HC2 := Lib.hid c2; have HC3 := Lib.hid c3; clear hl1 hlw k2 k3 c2 c3))
  go_wp2
  exact bodyPost_ret (results_two rfl _ _ _ _ _ _ _ _ _ _ _ _ rfl rfl rfl ((HC2.out.set6 (.int .i64 y.v.kind) (.string y.v.name) (.string y.v.to) (.int .i64 y.v.place) (.slice y.A y.n y.c) (.slice y.B y.m y.d)).other HK3.out (by omega)) (HC3.out.set6 (.int .i64 x.v.kind) (.string x.v.name) (.string x.v.to) (.int .i64 x.v.place) (.slice x.A x.n x.c) (.slice x.B x.m x.d)) Tryz.underlying89 rfl Tryz.refPrimSize Tryz.refPrimSize) rfl
    ⟨y, x, rfl, rfl, rfl, (fun _ hx9 hy9 => ⟨hy9, hx9⟩), ((HL.out.trans HLW.out).turn HK2.out (by omega)).turn HK3.out (by omega)⟩

end Go.Proofs.YtlnjhimbgckdcaaGreat
