import Derived.Test.YtnhhdjcbifmfgaaPk6
import Derived.Deep.RegionHeld3

/-
  What swap's turn comes to, as a call.
-/
namespace Go.Proofs.Ytnhhdjcbifmfgaa
open Go.RowKit Go.Maps

theorem both_all {w : World} {g k : Nat} {x y : PrC} {t : TypeId} (h : BoxAt w g (prL x).toArray t) (h' : BoxAt w k (prL y).toArray t) : w.cell? ⟨g, 0, none⟩ = some (.int .i64 x.v.kind) ∧ w.cell? ⟨g, 1, none⟩ = some (.string x.v.name) ∧ w.cell? ⟨g, 2, none⟩ = some (.string x.v.to) ∧ w.cell? ⟨g, 3, none⟩ = some (.int .i64 x.v.place) ∧ w.cell? ⟨g, 4, none⟩ = some (.slice x.A x.n x.c) ∧ w.cell? ⟨g, 5, none⟩ = some (.slice x.B x.m x.d) ∧ w.cell? ⟨k, 0, none⟩ = some (.int .i64 y.v.kind) ∧ w.cell? ⟨k, 1, none⟩ = some (.string y.v.name) ∧ w.cell? ⟨k, 2, none⟩ = some (.string y.v.to) ∧ w.cell? ⟨k, 3, none⟩ = some (.int .i64 y.v.place) ∧ w.cell? ⟨k, 4, none⟩ = some (.slice y.A y.n y.c) ∧ w.cell? ⟨k, 5, none⟩ = some (.slice y.B y.m y.d) :=
  ⟨h.cell rfl, h.cell rfl, h.cell rfl, h.cell rfl, h.cell rfl, h.cell rfl, h'.cell rfl, h'.cell rfl, h'.cell rfl, h'.cell rfl, h'.cell rfl, h'.cell rfl⟩
set_option maxRecDepth 100000 in
set_option maxHeartbeats 1600000 in
theorem turn_any (x y : PrC) (w : World) (hx : PrOk w x) (hy : PrOk w y) (hp : rightP x.v = true) (hq : rightP y.v = true) :
    Calls Try.prog 14 #[prV x, prV y] w (GivesW x y (turnP x.v y.v) w) := by
  have hgd : Try.prog.eqGuardType Try.prog.depth 44 = false := by kernel_rfl
  have he := fun (c d : Int) (w : World) => kinds_eqIn x.v.kind y.v.kind c d w
  by_cases h1 : x.v.kind = 0 ∧ y.v.kind = 0
  · obtain ⟨b0, b1, b2, b3, hl⟩ := four_boxes w #[.int .i64 x.v.kind, .string x.v.name, .string x.v.to, .int .i64 x.v.place, .slice x.A x.n x.c, .slice x.B x.m x.d] #[.int .i64 y.v.kind, .string y.v.name, .string y.v.to, .int .i64 y.v.place, .slice y.A y.n y.c, .slice y.B y.m y.d] #[.int .i64 0, .string ⟨#[]⟩, .string ⟨#[]⟩, .int .i64 0, .slice none 0 0, .slice none 0 0] #[.int .i64 0, .string ⟨#[]⟩, .string ⟨#[]⟩, .int .i64 0, .slice none 0 0, .slice none 0 0] 28
    replace b0 := b0.alloc (.cells #[.int .i64 x.v.kind, .int .i64 y.v.kind] 44)
    replace b1 := b1.alloc (.cells #[.int .i64 x.v.kind, .int .i64 y.v.kind] 44)
    replace b2 := b2.alloc (.cells #[.int .i64 x.v.kind, .int .i64 y.v.kind] 44)
    replace b3 := b3.alloc (.cells #[.int .i64 x.v.kind, .int .i64 y.v.kind] 44)
    replace hl := hl.alloc (.cells #[.int .i64 x.v.kind, .int .i64 y.v.kind] 44)
    have E : turnP x.v y.v = turnHH x.v y.v := by unfold turnP; rw [if_pos h1]
    have d1 : (x.v.kind == 0 && y.v.kind == 0) = true := by rw [Bool.and_eq_true, beq_iff_eq, beq_iff_eq]; exact h1
    have e1 := he 0 0
    rw [d1] at e1
    rw [E]
    have HT := Lib.hid (fun (w' : World) (hl : Later w w') => turnHH_any x y w' (hx.later hl) (hy.later hl) (place_in hp h1.1) (place_in hq h1.2))
    generalize turnHH x.v y.v = rr at HT ⊢
    clear E hx hy hp hq he h1 d1
    unfold prV at HT ⊢
    go_enter Try.func14, Try.ntmps14
    go_wp2_with fail
    refine (HT.out _ hl).mono ?_
    generalize ((((w.alloc (.cells #[.int .i64 x.v.kind, .string x.v.name, .string x.v.to, .int .i64 x.v.place, .slice x.A x.n x.c, .slice x.B x.m x.d] 28)).alloc (.cells #[.int .i64 y.v.kind, .string y.v.name, .string y.v.to, .int .i64 y.v.place, .slice y.A y.n y.c, .slice y.B y.m y.d] 28)).alloc (.cells #[.int .i64 0, .string ⟨#[]⟩, .string ⟨#[]⟩, .int .i64 0, .slice none 0 0, .slice none 0 0] 28)).alloc (.cells #[.int .i64 0, .string ⟨#[]⟩, .string ⟨#[]⟩, .int .i64 0, .slice none 0 0, .slice none 0 0] 28)).alloc (.cells #[.int .i64 x.v.kind, .int .i64 y.v.kind] 44) = wb at b0 b1 b2 b3 hl ⊢
    rintro e w1 ⟨a, b, rfl, ha, hb, hao, hlw⟩
    have hsz := b3.lt
    have c2 := b2.later hlw
    have u0 := c2.cell (i := 0) rfl; have u1 := c2.cell (i := 1) rfl; have u2 := c2.cell (i := 2) rfl; have u3 := c2.cell (i := 3) rfl; have u4 := c2.cell (i := 4) rfl; have u5 := c2.cell (i := 5) rfl
    have v0 := c2.frozen 0; have v1 := c2.frozen 1; have v2 := c2.frozen 2; have v3 := c2.frozen 3; have v4 := c2.frozen 4; have v5 := c2.frozen 5
    have k2 := turned_set6 w1 (w.heap.size + 1 + 1) (.int .i64 a.v.kind) (.string a.v.name) (.string a.v.to) (.int .i64 a.v.place) (.slice a.A a.n a.c) (.slice a.B a.m a.d)
    have c3 := (b3.later hlw).other k2 (by omega)
    have r0 := c3.cell (i := 0) rfl; have r1 := c3.cell (i := 1) rfl; have r2 := c3.cell (i := 2) rfl; have r3 := c3.cell (i := 3) rfl; have r4 := c3.cell (i := 4) rfl; have r5 := c3.cell (i := 5) rfl
    have t0 := c3.frozen 0; have t1 := c3.frozen 1; have t2 := c3.frozen 2; have t3 := c3.frozen 3; have t4 := c3.frozen 4; have t5 := c3.frozen 5
    have k3 := turned_set6 ((((((w1.setCell ⟨w.heap.size + 1 + 1, 0, none⟩ (.int .i64 a.v.kind)).setCell ⟨w.heap.size + 1 + 1, 1, none⟩ (.string a.v.name)).setCell ⟨w.heap.size + 1 + 1, 2, none⟩ (.string a.v.to)).setCell ⟨w.heap.size + 1 + 1, 3, none⟩ (.int .i64 a.v.place)).setCell ⟨w.heap.size + 1 + 1, 4, none⟩ (.slice a.A a.n a.c)).setCell ⟨w.heap.size + 1 + 1, 5, none⟩ (.slice a.B a.m a.d)) (w.heap.size + 1 + 1 + 1) (.int .i64 b.v.kind) (.string b.v.name) (.string b.v.to) (.int .i64 b.v.place) (.slice b.A b.n b.c) (.slice b.B b.m b.d)
    have HLW := Lib.hid (hl.trans hlw); have HK2 := Lib.hid k2; have HK3 := Lib.hid k3; have HC2 := Lib.hid c2; have HC3 := Lib.hid c3; have HA := Lib.hid ha; have HB := Lib.hid hb; have HAO := Lib.hid hao
    clear b0 b1 b2 b3 hl hlw k2 k3 c2 c3 ha hb hao HT hgd
    unfold prV
    go_wp2
    exact bodyPost_ret (results_two rfl _ _ _ _ _ _ _ _ _ _ _ _ rfl rfl rfl ((HC2.out.set6 (.int .i64 a.v.kind) (.string a.v.name) (.string a.v.to) (.int .i64 a.v.place) (.slice a.A a.n a.c) (.slice a.B a.m a.d)).other HK3.out (by omega)) (HC3.out.set6 (.int .i64 b.v.kind) (.string b.v.name) (.string b.v.to) (.int .i64 b.v.place) (.slice b.A b.n b.c) (.slice b.B b.m b.d)) Try.underlying28 rfl Try.primSize Try.primSize) rfl
      ⟨a, b, rfl, HA.out, HB.out, HAO.out, (HLW.out.turn HK2.out (by omega)).turn HK3.out (by omega)⟩
  by_cases h2 : x.v.kind = 0 ∧ y.v.kind = 3
  · obtain ⟨b0, b1, b2, b3, hl⟩ := four_boxes w #[.int .i64 x.v.kind, .string x.v.name, .string x.v.to, .int .i64 x.v.place, .slice x.A x.n x.c, .slice x.B x.m x.d] #[.int .i64 y.v.kind, .string y.v.name, .string y.v.to, .int .i64 y.v.place, .slice y.A y.n y.c, .slice y.B y.m y.d] #[.int .i64 0, .string ⟨#[]⟩, .string ⟨#[]⟩, .int .i64 0, .slice none 0 0, .slice none 0 0] #[.int .i64 0, .string ⟨#[]⟩, .string ⟨#[]⟩, .int .i64 0, .slice none 0 0, .slice none 0 0] 28
    replace b0 := b0.alloc (.cells #[.int .i64 x.v.kind, .int .i64 y.v.kind] 44)
    replace b1 := b1.alloc (.cells #[.int .i64 x.v.kind, .int .i64 y.v.kind] 44)
    replace b2 := b2.alloc (.cells #[.int .i64 x.v.kind, .int .i64 y.v.kind] 44)
    replace b3 := b3.alloc (.cells #[.int .i64 x.v.kind, .int .i64 y.v.kind] 44)
    replace hl := hl.alloc (.cells #[.int .i64 x.v.kind, .int .i64 y.v.kind] 44)
    have E : turnP x.v y.v = turnHM x.v y.v := by unfold turnP; rw [if_neg h1, if_pos h2]
    have d1 : (x.v.kind == 0 && y.v.kind == 0) = false := by rw [← Bool.not_eq_true, Bool.and_eq_true, beq_iff_eq, beq_iff_eq]; exact h1
    have d2 : (x.v.kind == 0 && y.v.kind == 3) = true := by rw [Bool.and_eq_true, beq_iff_eq, beq_iff_eq]; exact h2
    have e1 := he 0 0; have e2 := he 0 3
    rw [d1] at e1; rw [d2] at e2
    rw [E]
    have HT := Lib.hid (fun (w' : World) (hl : Later w w') => turnHM_any x y w' (hx.later hl) (hy.later hl))
    generalize turnHM x.v y.v = rr at HT ⊢
    clear E hx hy hp hq he h1 h2 d1 d2
    unfold prV at HT ⊢
    go_enter Try.func14, Try.ntmps14
    go_wp2_with fail
    refine (HT.out _ hl).mono ?_
    generalize ((((w.alloc (.cells #[.int .i64 x.v.kind, .string x.v.name, .string x.v.to, .int .i64 x.v.place, .slice x.A x.n x.c, .slice x.B x.m x.d] 28)).alloc (.cells #[.int .i64 y.v.kind, .string y.v.name, .string y.v.to, .int .i64 y.v.place, .slice y.A y.n y.c, .slice y.B y.m y.d] 28)).alloc (.cells #[.int .i64 0, .string ⟨#[]⟩, .string ⟨#[]⟩, .int .i64 0, .slice none 0 0, .slice none 0 0] 28)).alloc (.cells #[.int .i64 0, .string ⟨#[]⟩, .string ⟨#[]⟩, .int .i64 0, .slice none 0 0, .slice none 0 0] 28)).alloc (.cells #[.int .i64 x.v.kind, .int .i64 y.v.kind] 44) = wb at b0 b1 b2 b3 hl ⊢
    rintro e w1 ⟨a, b, rfl, ha, hb, hao, hlw⟩
    have hsz := b3.lt
    have c2 := b2.later hlw
    have u0 := c2.cell (i := 0) rfl; have u1 := c2.cell (i := 1) rfl; have u2 := c2.cell (i := 2) rfl; have u3 := c2.cell (i := 3) rfl; have u4 := c2.cell (i := 4) rfl; have u5 := c2.cell (i := 5) rfl
    have v0 := c2.frozen 0; have v1 := c2.frozen 1; have v2 := c2.frozen 2; have v3 := c2.frozen 3; have v4 := c2.frozen 4; have v5 := c2.frozen 5
    have k2 := turned_set6 w1 (w.heap.size + 1 + 1) (.int .i64 a.v.kind) (.string a.v.name) (.string a.v.to) (.int .i64 a.v.place) (.slice a.A a.n a.c) (.slice a.B a.m a.d)
    have c3 := (b3.later hlw).other k2 (by omega)
    have r0 := c3.cell (i := 0) rfl; have r1 := c3.cell (i := 1) rfl; have r2 := c3.cell (i := 2) rfl; have r3 := c3.cell (i := 3) rfl; have r4 := c3.cell (i := 4) rfl; have r5 := c3.cell (i := 5) rfl
    have t0 := c3.frozen 0; have t1 := c3.frozen 1; have t2 := c3.frozen 2; have t3 := c3.frozen 3; have t4 := c3.frozen 4; have t5 := c3.frozen 5
    have k3 := turned_set6 ((((((w1.setCell ⟨w.heap.size + 1 + 1, 0, none⟩ (.int .i64 a.v.kind)).setCell ⟨w.heap.size + 1 + 1, 1, none⟩ (.string a.v.name)).setCell ⟨w.heap.size + 1 + 1, 2, none⟩ (.string a.v.to)).setCell ⟨w.heap.size + 1 + 1, 3, none⟩ (.int .i64 a.v.place)).setCell ⟨w.heap.size + 1 + 1, 4, none⟩ (.slice a.A a.n a.c)).setCell ⟨w.heap.size + 1 + 1, 5, none⟩ (.slice a.B a.m a.d)) (w.heap.size + 1 + 1 + 1) (.int .i64 b.v.kind) (.string b.v.name) (.string b.v.to) (.int .i64 b.v.place) (.slice b.A b.n b.c) (.slice b.B b.m b.d)
    have HLW := Lib.hid (hl.trans hlw); have HK2 := Lib.hid k2; have HK3 := Lib.hid k3; have HC2 := Lib.hid c2; have HC3 := Lib.hid c3; have HA := Lib.hid ha; have HB := Lib.hid hb; have HAO := Lib.hid hao
    clear b0 b1 b2 b3 hl hlw k2 k3 c2 c3 ha hb hao HT hgd
    unfold prV
    go_wp2
    exact bodyPost_ret (results_two rfl _ _ _ _ _ _ _ _ _ _ _ _ rfl rfl rfl ((HC2.out.set6 (.int .i64 a.v.kind) (.string a.v.name) (.string a.v.to) (.int .i64 a.v.place) (.slice a.A a.n a.c) (.slice a.B a.m a.d)).other HK3.out (by omega)) (HC3.out.set6 (.int .i64 b.v.kind) (.string b.v.name) (.string b.v.to) (.int .i64 b.v.place) (.slice b.A b.n b.c) (.slice b.B b.m b.d)) Try.underlying28 rfl Try.primSize Try.primSize) rfl
      ⟨a, b, rfl, HA.out, HB.out, HAO.out, (HLW.out.turn HK2.out (by omega)).turn HK3.out (by omega)⟩
  by_cases h3 : x.v.kind = 3 ∧ y.v.kind = 0
  · obtain ⟨b0, b1, b2, b3, hl⟩ := four_boxes w #[.int .i64 x.v.kind, .string x.v.name, .string x.v.to, .int .i64 x.v.place, .slice x.A x.n x.c, .slice x.B x.m x.d] #[.int .i64 y.v.kind, .string y.v.name, .string y.v.to, .int .i64 y.v.place, .slice y.A y.n y.c, .slice y.B y.m y.d] #[.int .i64 0, .string ⟨#[]⟩, .string ⟨#[]⟩, .int .i64 0, .slice none 0 0, .slice none 0 0] #[.int .i64 0, .string ⟨#[]⟩, .string ⟨#[]⟩, .int .i64 0, .slice none 0 0, .slice none 0 0] 28
    replace b0 := b0.alloc (.cells #[.int .i64 x.v.kind, .int .i64 y.v.kind] 44)
    replace b1 := b1.alloc (.cells #[.int .i64 x.v.kind, .int .i64 y.v.kind] 44)
    replace b2 := b2.alloc (.cells #[.int .i64 x.v.kind, .int .i64 y.v.kind] 44)
    replace b3 := b3.alloc (.cells #[.int .i64 x.v.kind, .int .i64 y.v.kind] 44)
    replace hl := hl.alloc (.cells #[.int .i64 x.v.kind, .int .i64 y.v.kind] 44)
    have E : turnP x.v y.v = turnMH x.v y.v := by unfold turnP; rw [if_neg h1, if_neg h2, if_pos h3]
    have d1 : (x.v.kind == 0 && y.v.kind == 0) = false := by rw [← Bool.not_eq_true, Bool.and_eq_true, beq_iff_eq, beq_iff_eq]; exact h1
    have d2 : (x.v.kind == 0 && y.v.kind == 3) = false := by rw [← Bool.not_eq_true, Bool.and_eq_true, beq_iff_eq, beq_iff_eq]; exact h2
    have d3 : (x.v.kind == 3 && y.v.kind == 0) = true := by rw [Bool.and_eq_true, beq_iff_eq, beq_iff_eq]; exact h3
    have e1 := he 0 0; have e2 := he 0 3; have e3 := he 3 0
    rw [d1] at e1; rw [d2] at e2; rw [d3] at e3
    rw [E]
    have HT := Lib.hid (fun (w' : World) (hl : Later w w') => turnMH_any x y w' (hx.later hl) (hy.later hl))
    generalize turnMH x.v y.v = rr at HT ⊢
    clear E hx hy hp hq he h1 h2 h3 d1 d2 d3
    unfold prV at HT ⊢
    go_enter Try.func14, Try.ntmps14
    go_wp2_with fail
    refine (HT.out _ hl).mono ?_
    generalize ((((w.alloc (.cells #[.int .i64 x.v.kind, .string x.v.name, .string x.v.to, .int .i64 x.v.place, .slice x.A x.n x.c, .slice x.B x.m x.d] 28)).alloc (.cells #[.int .i64 y.v.kind, .string y.v.name, .string y.v.to, .int .i64 y.v.place, .slice y.A y.n y.c, .slice y.B y.m y.d] 28)).alloc (.cells #[.int .i64 0, .string ⟨#[]⟩, .string ⟨#[]⟩, .int .i64 0, .slice none 0 0, .slice none 0 0] 28)).alloc (.cells #[.int .i64 0, .string ⟨#[]⟩, .string ⟨#[]⟩, .int .i64 0, .slice none 0 0, .slice none 0 0] 28)).alloc (.cells #[.int .i64 x.v.kind, .int .i64 y.v.kind] 44) = wb at b0 b1 b2 b3 hl ⊢
    rintro e w1 ⟨a, b, rfl, ha, hb, hao, hlw⟩
    have hsz := b3.lt
    have c2 := b2.later hlw
    have u0 := c2.cell (i := 0) rfl; have u1 := c2.cell (i := 1) rfl; have u2 := c2.cell (i := 2) rfl; have u3 := c2.cell (i := 3) rfl; have u4 := c2.cell (i := 4) rfl; have u5 := c2.cell (i := 5) rfl
    have v0 := c2.frozen 0; have v1 := c2.frozen 1; have v2 := c2.frozen 2; have v3 := c2.frozen 3; have v4 := c2.frozen 4; have v5 := c2.frozen 5
    have k2 := turned_set6 w1 (w.heap.size + 1 + 1) (.int .i64 a.v.kind) (.string a.v.name) (.string a.v.to) (.int .i64 a.v.place) (.slice a.A a.n a.c) (.slice a.B a.m a.d)
    have c3 := (b3.later hlw).other k2 (by omega)
    have r0 := c3.cell (i := 0) rfl; have r1 := c3.cell (i := 1) rfl; have r2 := c3.cell (i := 2) rfl; have r3 := c3.cell (i := 3) rfl; have r4 := c3.cell (i := 4) rfl; have r5 := c3.cell (i := 5) rfl
    have t0 := c3.frozen 0; have t1 := c3.frozen 1; have t2 := c3.frozen 2; have t3 := c3.frozen 3; have t4 := c3.frozen 4; have t5 := c3.frozen 5
    have k3 := turned_set6 ((((((w1.setCell ⟨w.heap.size + 1 + 1, 0, none⟩ (.int .i64 a.v.kind)).setCell ⟨w.heap.size + 1 + 1, 1, none⟩ (.string a.v.name)).setCell ⟨w.heap.size + 1 + 1, 2, none⟩ (.string a.v.to)).setCell ⟨w.heap.size + 1 + 1, 3, none⟩ (.int .i64 a.v.place)).setCell ⟨w.heap.size + 1 + 1, 4, none⟩ (.slice a.A a.n a.c)).setCell ⟨w.heap.size + 1 + 1, 5, none⟩ (.slice a.B a.m a.d)) (w.heap.size + 1 + 1 + 1) (.int .i64 b.v.kind) (.string b.v.name) (.string b.v.to) (.int .i64 b.v.place) (.slice b.A b.n b.c) (.slice b.B b.m b.d)
    have HLW := Lib.hid (hl.trans hlw); have HK2 := Lib.hid k2; have HK3 := Lib.hid k3; have HC2 := Lib.hid c2; have HC3 := Lib.hid c3; have HA := Lib.hid ha; have HB := Lib.hid hb; have HAO := Lib.hid hao
    clear b0 b1 b2 b3 hl hlw k2 k3 c2 c3 ha hb hao HT hgd
    unfold prV
    go_wp2
    exact bodyPost_ret (results_two rfl _ _ _ _ _ _ _ _ _ _ _ _ rfl rfl rfl ((HC2.out.set6 (.int .i64 a.v.kind) (.string a.v.name) (.string a.v.to) (.int .i64 a.v.place) (.slice a.A a.n a.c) (.slice a.B a.m a.d)).other HK3.out (by omega)) (HC3.out.set6 (.int .i64 b.v.kind) (.string b.v.name) (.string b.v.to) (.int .i64 b.v.place) (.slice b.A b.n b.c) (.slice b.B b.m b.d)) Try.underlying28 rfl Try.primSize Try.primSize) rfl
      ⟨a, b, rfl, HA.out, HB.out, HAO.out, (HLW.out.turn HK2.out (by omega)).turn HK3.out (by omega)⟩
  have E : turnP x.v y.v = (y.v, x.v, !commonP x.v y.v) := by unfold turnP; rw [if_neg h1, if_neg h2, if_neg h3]
  have d1 : (x.v.kind == 0 && y.v.kind == 0) = false := by rw [← Bool.not_eq_true, Bool.and_eq_true, beq_iff_eq, beq_iff_eq]; exact h1
  have d2 : (x.v.kind == 0 && y.v.kind == 3) = false := by rw [← Bool.not_eq_true, Bool.and_eq_true, beq_iff_eq, beq_iff_eq]; exact h2
  have d3 : (x.v.kind == 3 && y.v.kind == 0) = false := by rw [← Bool.not_eq_true, Bool.and_eq_true, beq_iff_eq, beq_iff_eq]; exact h3
  have e1 := he 0 0; have e2 := he 0 3; have e3 := he 3 0
  rw [d1] at e1; rw [d2] at e2; rw [d3] at e3
  rw [E]
  clear E hx hy hp hq he h1 h2 h3 d1 d2 d3
  unfold prV
  obtain ⟨b0, b1, b2, b3, hl⟩ := four_boxes w #[.int .i64 x.v.kind, .string x.v.name, .string x.v.to, .int .i64 x.v.place, .slice x.A x.n x.c, .slice x.B x.m x.d] #[.int .i64 y.v.kind, .string y.v.name, .string y.v.to, .int .i64 y.v.place, .slice y.A y.n y.c, .slice y.B y.m y.d] #[.int .i64 0, .string ⟨#[]⟩, .string ⟨#[]⟩, .int .i64 0, .slice none 0 0, .slice none 0 0] #[.int .i64 0, .string ⟨#[]⟩, .string ⟨#[]⟩, .int .i64 0, .slice none 0 0, .slice none 0 0] 28
  replace b0 := b0.alloc (.cells #[.int .i64 x.v.kind, .int .i64 y.v.kind] 44)
  replace b1 := b1.alloc (.cells #[.int .i64 x.v.kind, .int .i64 y.v.kind] 44)
  replace b2 := b2.alloc (.cells #[.int .i64 x.v.kind, .int .i64 y.v.kind] 44)
  replace b3 := b3.alloc (.cells #[.int .i64 x.v.kind, .int .i64 y.v.kind] 44)
  replace hl := hl.alloc (.cells #[.int .i64 x.v.kind, .int .i64 y.v.kind] 44)
  have HM := Lib.hid (fun w' => meet_any x y w')
  generalize commonP x.v y.v = cm at HM ⊢
  unfold prV at HM
  go_enter Try.func14, Try.ntmps14
  go_upto_region 8 with fail
  generalize ((((w.alloc (.cells #[.int .i64 x.v.kind, .string x.v.name, .string x.v.to, .int .i64 x.v.place, .slice x.A x.n x.c, .slice x.B x.m x.d] 28)).alloc (.cells #[.int .i64 y.v.kind, .string y.v.name, .string y.v.to, .int .i64 y.v.place, .slice y.A y.n y.c, .slice y.B y.m y.d] 28)).alloc (.cells #[.int .i64 0, .string ⟨#[]⟩, .string ⟨#[]⟩, .int .i64 0, .slice none 0 0, .slice none 0 0] 28)).alloc (.cells #[.int .i64 0, .string ⟨#[]⟩, .string ⟨#[]⟩, .int .i64 0, .slice none 0 0, .slice none 0 0] 28)).alloc (.cells #[.int .i64 x.v.kind, .int .i64 y.v.kind] 44) = wb at b0 b1 b2 b3 hl ⊢
  have hsz := b3.lt
  have HB0 := Lib.hid b0; have HB1 := Lib.hid b1; have HB2 := Lib.hid b2; have HB3 := Lib.hid b3; have HL := Lib.hid hl
  have s0 := both_all (x := x) (y := y) (b0.later (Later.refl wb).drew) (b1.later (Later.refl wb).drew)
  clear b0 b1 b2 b3 hl e1 e2 e3 hgd
  go_region_held3 (fun w' => w'.cell? ⟨w.heap.size, 0, none⟩ = some (.int .i64 x.v.kind) ∧ w'.cell? ⟨w.heap.size, 1, none⟩ = some (.string x.v.name) ∧ w'.cell? ⟨w.heap.size, 2, none⟩ = some (.string x.v.to) ∧ w'.cell? ⟨w.heap.size, 3, none⟩ = some (.int .i64 x.v.place) ∧ w'.cell? ⟨w.heap.size, 4, none⟩ = some (.slice x.A x.n x.c) ∧ w'.cell? ⟨w.heap.size, 5, none⟩ = some (.slice x.B x.m x.d) ∧ w'.cell? ⟨w.heap.size + 1, 0, none⟩ = some (.int .i64 y.v.kind) ∧ w'.cell? ⟨w.heap.size + 1, 1, none⟩ = some (.string y.v.name) ∧ w'.cell? ⟨w.heap.size + 1, 2, none⟩ = some (.string y.v.to) ∧ w'.cell? ⟨w.heap.size + 1, 3, none⟩ = some (.int .i64 y.v.place) ∧ w'.cell? ⟨w.heap.size + 1, 4, none⟩ = some (.slice y.A y.n y.c) ∧ w'.cell? ⟨w.heap.size + 1, 5, none⟩ = some (.slice y.B y.m y.d))
    (first | with_reducible exact s3 | with_reducible exact s2 | with_reducible exact s1 | with_reducible exact s0)
    (first | (go_at_call 23; refine (HM.out _).mono ?_; rintro e w1 ⟨rfl, hl1⟩; have hlw : Later wb w1 := Later.trans (by first | exact Later.refl _ | exact (Later.refl _).drew | exact (Later.refl _).drewN _) hl1; have s1 := both_all (x := x) (y := y) (HB0.out.later hlw) (HB1.out.later hlw); have c2 := HB2.out.later hlw; have u0 := c2.cell (i := 0) rfl; have u1 := c2.cell (i := 1) rfl; have u2 := c2.cell (i := 2) rfl; have u3 := c2.cell (i := 3) rfl; have u4 := c2.cell (i := 4) rfl; have u5 := c2.cell (i := 5) rfl; have v0 := c2.frozen 0; have v1 := c2.frozen 1; have v2 := c2.frozen 2; have v3 := c2.frozen 3; have v4 := c2.frozen 4; have v5 := c2.frozen 5; have k2 := turned_set6 w1 (w.heap.size + 1 + 1) (.int .i64 y.v.kind) (.string y.v.name) (.string y.v.to) (.int .i64 y.v.place) (.slice y.A y.n y.c) (.slice y.B y.m y.d); have c3 := (HB3.out.later hlw).other k2 (by omega); have r0 := c3.cell (i := 0) rfl; have r1 := c3.cell (i := 1) rfl; have r2 := c3.cell (i := 2) rfl; have r3 := c3.cell (i := 3) rfl; have r4 := c3.cell (i := 4) rfl; have r5 := c3.cell (i := 5) rfl; have t0 := c3.frozen 0; have t1 := c3.frozen 1; have t2 := c3.frozen 2; have t3 := c3.frozen 3; have t4 := c3.frozen 4; have t5 := c3.frozen 5; have s2 := both_all (x := x) (y := y) ((HB0.out.later hlw).other k2 (by omega)) ((HB1.out.later hlw).other k2 (by omega)); have k3 := turned_set6 ((((((w1.setCell ⟨w.heap.size + 1 + 1, 0, none⟩ (.int .i64 y.v.kind)).setCell ⟨w.heap.size + 1 + 1, 1, none⟩ (.string y.v.name)).setCell ⟨w.heap.size + 1 + 1, 2, none⟩ (.string y.v.to)).setCell ⟨w.heap.size + 1 + 1, 3, none⟩ (.int .i64 y.v.place)).setCell ⟨w.heap.size + 1 + 1, 4, none⟩ (.slice y.A y.n y.c)).setCell ⟨w.heap.size + 1 + 1, 5, none⟩ (.slice y.B y.m y.d)) (w.heap.size + 1 + 1 + 1) (.int .i64 x.v.kind) (.string x.v.name) (.string x.v.to) (.int .i64 x.v.place) (.slice x.A x.n x.c) (.slice x.B x.m x.d); have s3 := both_all (x := x) (y := y) (((HB0.out.later hlw).other k2 (by omega)).other k3 (by omega)) (((HB1.out.later hlw).other k2 (by omega)).other k3 (by omega)); have HLW := Lib.hid hlw; have HK2 := Lib.hid k2; have HK3 := Lib.hid k3; have HC2 := Lib.hid c2; have HC3 := Lib.hid c3; clear hl1 hlw k2 k3 c2 c3))
  go_wp2
  exact bodyPost_ret (results_two rfl _ _ _ _ _ _ _ _ _ _ _ _ rfl rfl rfl ((HC2.out.set6 (.int .i64 y.v.kind) (.string y.v.name) (.string y.v.to) (.int .i64 y.v.place) (.slice y.A y.n y.c) (.slice y.B y.m y.d)).other HK3.out (by omega)) (HC3.out.set6 (.int .i64 x.v.kind) (.string x.v.name) (.string x.v.to) (.int .i64 x.v.place) (.slice x.A x.n x.c) (.slice x.B x.m x.d)) Try.underlying28 rfl Try.primSize Try.primSize) rfl
    ⟨y, x, rfl, rfl, rfl, (fun _ hx9 hy9 => ⟨hy9, hx9⟩), ((HL.out.trans HLW.out).turn HK2.out (by omega)).turn HK3.out (by omega)⟩

end Go.Proofs.Ytnhhdjcbifmfgaa
