import Derived.Test.YtlnjhimbgckdcaaGreatPk6
import Derived.Deep.RegionWith
import Derived.Test.YtlnjhimbgckdcaaGreatChecked
import Derived.WalkKit
import Derived.Laws.StructEq
import Derived.Deep.RegionHeld3
import Derived.Test.YtlnjhimbgckdcaaGreatPk3
import Derived.Deep.LoopGhost
import Derived.Deep.QuietTactic
import Derived.BigQuiet
import Derived.Lib.Hide
import Derived.Test.YtlnjhimbgckdcaaGreatPk2

/-
  What swap's turnHunks comes to, as a call.
-/
namespace Go.Proofs.YtlnjhimbgckdcaaGreat
open Go.RowKit Go.Maps

set_option maxRecDepth 100000 in
theorem growth_exact (kd : Int) (nm to : ByteArray) (pl : Int) (A B : Option Addr) (n c m d : Nat) (w : World) (h1 : n <= 65536) (h2 : m <= 65536) :
    Calls Tryz.prog 92 #[.agg #[.int .i64 kd, .string nm, .string to, .int .i64 pl, .slice A n c, .slice B m d]] w fun e w' => e = .returned (.int .i64 ((m : Int) - n)) /\ w' = w.alloc (.cells #[.int .i64 kd, .string nm, .string to, .int .i64 pl, .slice A n c, .slice B m d] 58) := by
  go_enter Tryz.func92, Tryz.ntmps92
  go_wp2
  go_ret
  exact ⟨by go_num, rfl⟩

set_option maxRecDepth 100000 in
set_option maxHeartbeats 1600000 in
theorem turnHH_any (x y : PrC) (w : World) (hx : PrOk w x) (hy : PrOk w y) (hp : 0 <= x.v.place /\ x.v.place <= 1048576) (hq : 0 <= y.v.place /\ y.v.place <= 1048576) :
    Calls Tryz.prog 83 #[prV x, prV y] w (GivesW x y (turnHH x.v y.v) w) := by
  have HX := Lib.hid hx; have HY := Lib.hid hy
  have l1 := hx.old.len; have l2 := hx.new.len; have l3 := hy.old.len; have l4 := hy.new.len
  have k1 := hx.omost; have k2 := hx.nmost; have k3 := hy.omost; have k4 := hy.nmost
  clear hx hy
  obtain ⟨⟨kd, nm, to, pl, old, new⟩, A, n, c, B, m, d⟩ := x
  obtain ⟨⟨ke, nn, tt, pk, pold, pnew⟩, C, i, e, D, j, f⟩ := y
  unfold prV turnHH
  dsimp only at *
  rw [l1, l2, l3, l4]
  clear l1 l2 l3 l4
  obtain ⟨hp1, hp2⟩ := hp
  obtain ⟨hq1, hq2⟩ := hq
  by_cases h1 : nm = nn
  · subst h1
    rw [if_neg (fun h => h rfl)]
    by_cases h2 : pk > pl + m
    · rw [if_pos h2]
      have hw : IntKind.i64.wrap (pk - ((m : Int) - n)) = pk - ((m : Int) - n) := IntWalk.i64_in _ (by omega)
      go_enter Tryz.func83, Tryz.ntmps83
      go_upto_region 4 with fail
      go_region_with (go_at_call 92; refine (growth_exact _ _ _ _ _ _ _ _ _ _ _ k1 k2).mono ?_; rintro e w' ⟨rfl, rfl⟩)
      all_goals go_upto_region 7 with fail
      all_goals go_region
      all_goals go_wp2
      all_goals
        obtain ⟨_, _, b2, b3, hl⟩ := four_boxes w _ _ _ _ 58
        exact bodyPost_ret (results_two rfl _ _ _ _ _ _ _ _ _ _ _ _ rfl rfl rfl (b2.later ((Later.refl _).alloc _).drew.drew) (b3.later ((Later.refl _).alloc _).drew.drew) Tryz.underlying58 rfl Tryz.primSize Tryz.primSize) rfl
          ⟨atC ⟨⟨ke, nm, tt, pk, pold, pnew⟩, C, i, e, D, j, f⟩ (pk - ((m : Int) - n)), ⟨⟨kd, nm, to, pl, old, new⟩, A, n, c, B, m, d⟩, rfl, rfl, rfl, (fun _ hx9 hy9 => ⟨(atC_ok hy9 (by omega) (by omega)), (hx9)⟩), (hl.alloc _).drew.drew⟩
    · rw [if_neg h2]
      by_cases h3 : pk + i < pl
      · rw [if_pos h3]
        have hw : IntKind.i64.wrap (pl + ((j : Int) - i)) = pl + ((j : Int) - i) := IntWalk.i64_in _ (by omega)
        go_enter Tryz.func83, Tryz.ntmps83
        go_upto_region 6 with fail
        go_region_with (go_at_call 92; refine (growth_exact _ _ _ _ _ _ _ _ _ _ _ k3 k4).mono ?_; rintro e w' ⟨rfl, rfl⟩)
        all_goals go_upto_region 7 with fail
        all_goals go_region
        all_goals go_wp2
        all_goals
          obtain ⟨_, _, b2, b3, hl⟩ := four_boxes w _ _ _ _ 58
          exact bodyPost_ret (results_two rfl _ _ _ _ _ _ _ _ _ _ _ _ rfl rfl rfl (b2.later ((Later.refl _).alloc _).drew.drew) (b3.later ((Later.refl _).alloc _).drew.drew) Tryz.underlying58 rfl Tryz.primSize Tryz.primSize) rfl
            ⟨⟨⟨ke, nm, tt, pk, pold, pnew⟩, C, i, e, D, j, f⟩, atC ⟨⟨kd, nm, to, pl, old, new⟩, A, n, c, B, m, d⟩ (pl + ((j : Int) - i)), rfl, rfl, rfl, (fun _ hx9 hy9 => ⟨(hy9), (atC_ok hx9 (by omega) (by omega))⟩), (hl.alloc _).drew.drew⟩
      · rw [if_neg h3]
        go_enter Tryz.func83, Tryz.ntmps83
        go_wp2
        obtain ⟨_, _, b2, b3, hl⟩ := four_boxes w _ _ _ _ 58
        exact bodyPost_ret (results_two rfl _ _ _ _ _ _ _ _ _ _ _ _ rfl rfl rfl b2 b3 Tryz.underlying58 rfl Tryz.primSize Tryz.primSize) rfl ⟨zeroC, zeroC, rfl, rfl, rfl, (fun _ _ _ => ⟨zeroC_ok _, zeroC_ok _⟩), hl⟩
  · rw [if_pos h1]
    have t1 := text_ne h1
    go_enter Tryz.func83, Tryz.ntmps83
    go_upto_region 7 with fail
    go_region
    go_wp2
    obtain ⟨_, _, b2, b3, hl⟩ := four_boxes w _ _ _ _ 58
    exact bodyPost_ret (results_two rfl _ _ _ _ _ _ _ _ _ _ _ _ rfl rfl rfl (b2.later (Later.refl _).drew) (b3.later (Later.refl _).drew) Tryz.underlying58 rfl Tryz.primSize Tryz.primSize) rfl
      ⟨⟨⟨ke, nn, tt, pk, pold, pnew⟩, C, i, e, D, j, f⟩, ⟨⟨kd, nm, to, pl, old, new⟩, A, n, c, B, m, d⟩, rfl, rfl, rfl, (fun _ hx9 hy9 => ⟨hy9, hx9⟩), hl.drew⟩

end Go.Proofs.YtlnjhimbgckdcaaGreat

/-
  Two arrays of two ints, compared.
-/
namespace Go.Proofs.YtlnjhimbgckdcaaGreat
open Go.RowKit

theorem kinds_eqAt (n : Nat) (hin : ∀ (x y : Int) (w : World), (Op.equalIn n 3 (.int .i64 x) (.int .i64 y)).run Tryz.prog w = .ok (x == y) w) (a b c d : Int) (w : World) :
    (Op.equalIn (n + 1) 113 (.agg #[.int .i64 a, .int .i64 b]) (.agg #[.int .i64 c, .int .i64 d])).run Tryz.prog w = .ok (a == c && b == d) w := by
  have p1 : ∀ (x y : Int) (w : World), (part 3 #[.int .i64 x, .int .i64 y] 0).run Tryz.prog w = .ok (.int .i64 x) w := fun x y w => by
    simp [part, Tryz.isAgg3]
  have p2 : ∀ (x y : Int) (w : World), (part 3 #[.int .i64 x, .int .i64 y] 1).run Tryz.prog w = .ok (.int .i64 y) w := fun x y w => by
    simp [part, Tryz.isAgg3]
  simp only [Op.equalIn, Sem.run_bind, run_underlying Tryz.underlying113, Result.andThen_ok, Tryz.sizeOf3]
  simp only [Std.Legacy.Range.forIn_eq_forIn_range', Std.Legacy.Range.size, Nat.sub_zero, Nat.add_sub_cancel, Nat.div_one, List.range', List.forIn_cons, List.forIn_nil, Nat.zero_add, Nat.mul_one, Sem.run_bind, p1, hin, Result.andThen_ok]
  cases h1 : a == c
  · simp
  · cases h2 : b == d
    · simp only [beq_eq_false_iff_ne, ne_eq] at h2
      simp [p2, hin, h2]
    · simp only [beq_iff_eq] at h2
      simp [p2, hin, h2]

theorem kinds_eqIn (a b c d : Int) (w : World) : (Op.equalIn 10000 113 (.agg #[.int .i64 a, .int .i64 b]) (.agg #[.int .i64 c, .int .i64 d])).run Tryz.prog w = .ok (a == c && b == d) w :=
  kinds_eqAt 9999 (fun x y w => run_equalIn_int w 9998 3 .i64 .i64 x y Tryz.underlying3) a b c d w

end Go.Proofs.YtlnjhimbgckdcaaGreat

/-
  What swap's turn comes to, as a call.
-/
namespace Go.Proofs.YtlnjhimbgckdcaaGreat
open Go.RowKit Go.Maps

theorem both_all {w : World} {g k : Nat} {x y : PrC} {t : TypeId} (h : BoxAt w g (prL x).toArray t) (h' : BoxAt w k (prL y).toArray t) : w.cell? ⟨g, 0, none⟩ = some (.int .i64 x.v.kind) /\ w.cell? ⟨g, 1, none⟩ = some (.string x.v.name) /\ w.cell? ⟨g, 2, none⟩ = some (.string x.v.to) /\ w.cell? ⟨g, 3, none⟩ = some (.int .i64 x.v.place) /\ w.cell? ⟨g, 4, none⟩ = some (.slice x.A x.n x.c) /\ w.cell? ⟨g, 5, none⟩ = some (.slice x.B x.m x.d) /\ w.cell? ⟨k, 0, none⟩ = some (.int .i64 y.v.kind) /\ w.cell? ⟨k, 1, none⟩ = some (.string y.v.name) /\ w.cell? ⟨k, 2, none⟩ = some (.string y.v.to) /\ w.cell? ⟨k, 3, none⟩ = some (.int .i64 y.v.place) /\ w.cell? ⟨k, 4, none⟩ = some (.slice y.A y.n y.c) /\ w.cell? ⟨k, 5, none⟩ = some (.slice y.B y.m y.d) :=
  ⟨h.cell rfl, h.cell rfl, h.cell rfl, h.cell rfl, h.cell rfl, h.cell rfl, h'.cell rfl, h'.cell rfl, h'.cell rfl, h'.cell rfl, h'.cell rfl, h'.cell rfl⟩
set_option maxRecDepth 100000 in
set_option maxHeartbeats 1600000 in
theorem turn_any (x y : PrC) (w : World) (hx : PrOk w x) (hy : PrOk w y) (hp : rightP x.v = true) (hq : rightP y.v = true) :
    Calls Tryz.prog 75 #[prV x, prV y] w (GivesW x y (turnP x.v y.v) w) := by
  have hgd : Tryz.prog.eqGuardType Tryz.prog.depth 113 = false := by kernel_rfl
  have he := fun (c d : Int) (w : World) => kinds_eqIn x.v.kind y.v.kind c d w
  by_cases h1 : x.v.kind = 0 /\ y.v.kind = 0
  · obtain ⟨b0, b1, b2, b3, hl⟩ := four_boxes w #[.int .i64 x.v.kind, .string x.v.name, .string x.v.to, .int .i64 x.v.place, .slice x.A x.n x.c, .slice x.B x.m x.d] #[.int .i64 y.v.kind, .string y.v.name, .string y.v.to, .int .i64 y.v.place, .slice y.A y.n y.c, .slice y.B y.m y.d] #[.int .i64 0, .string ⟨#[]⟩, .string ⟨#[]⟩, .int .i64 0, .slice none 0 0, .slice none 0 0] #[.int .i64 0, .string ⟨#[]⟩, .string ⟨#[]⟩, .int .i64 0, .slice none 0 0, .slice none 0 0] 58
    replace b0 := b0.alloc (.cells #[.int .i64 x.v.kind, .int .i64 y.v.kind] 113)
    replace b1 := b1.alloc (.cells #[.int .i64 x.v.kind, .int .i64 y.v.kind] 113)
    replace b2 := b2.alloc (.cells #[.int .i64 x.v.kind, .int .i64 y.v.kind] 113)
    replace b3 := b3.alloc (.cells #[.int .i64 x.v.kind, .int .i64 y.v.kind] 113)
    replace hl := hl.alloc (.cells #[.int .i64 x.v.kind, .int .i64 y.v.kind] 113)
    have E : turnP x.v y.v = turnHH x.v y.v := by unfold turnP; rw [if_pos h1]
    have d1 : (x.v.kind == 0 && y.v.kind == 0) = true := by rw [Bool.and_eq_true, beq_iff_eq, beq_iff_eq]; exact h1
    have e1 := he 0 0
    rw [d1] at e1
    rw [E]
    have HT := Lib.hid (fun (w' : World) (hl : Later w w') => turnHH_any x y w' (hx.later hl) (hy.later hl) (place_in hp h1.1) (place_in hq h1.2))
    generalize turnHH x.v y.v = rr at HT ⊢
    clear E hx hy hp hq he h1 d1
    unfold prV at HT ⊢
    go_enter Tryz.func75, Tryz.ntmps75
    go_wp2_with fail
    refine (HT.out _ hl).mono ?_
    generalize ((((w.alloc (.cells #[.int .i64 x.v.kind, .string x.v.name, .string x.v.to, .int .i64 x.v.place, .slice x.A x.n x.c, .slice x.B x.m x.d] 58)).alloc (.cells #[.int .i64 y.v.kind, .string y.v.name, .string y.v.to, .int .i64 y.v.place, .slice y.A y.n y.c, .slice y.B y.m y.d] 58)).alloc (.cells #[.int .i64 0, .string ⟨#[]⟩, .string ⟨#[]⟩, .int .i64 0, .slice none 0 0, .slice none 0 0] 58)).alloc (.cells #[.int .i64 0, .string ⟨#[]⟩, .string ⟨#[]⟩, .int .i64 0, .slice none 0 0, .slice none 0 0] 58)).alloc (.cells #[.int .i64 x.v.kind, .int .i64 y.v.kind] 113) = wb at b0 b1 b2 b3 hl ⊢
    rintro e w1 ⟨a, b, rfl, ha, hb, hao, hlw⟩
    have hsz := b3.lt
    have c2 := b2.later hlw
    have u0 := c2.cell (i := 0) rfl; have u1 := c2.cell (i := 1) rfl; have u2 := c2.cell (i := 2) rfl; have u3 := c2.cell (i := 3) rfl; have u4 := c2.cell (i := 4) rfl; have u5 := c2.cell (i := 5) rfl
    have v0 := c2.frozen 0; have v1 := c2.frozen 1; have v2 := c2.frozen 2; have v3 := c2.frozen 3; have v4 := c2.frozen 4; have v5 := c2.frozen 5
    have k2 := turned_set6 w1 (w.heap.size + 1 + 1) (.int .i64 a.v.kind) (.string a.v.name) (.string a.v.to) (.int .i64 a.v.place) (.slice a.A a.n a.c) (.slice a.B a.m a.d)
    have c3 := (b3.later hlw).other k2 (by omega)
    have r0 := c3.cell (i := 0) rfl; have r1 := c3.cell (i := 1) rfl; have r2 := c3.cell (i := 2) rfl; have r3 := c3.cell (i := 3) rfl; have r4 := c3.cell (i := 4) rfl; have r5 := c3.cell (i := 5) rfl
    have t0 := c3.frozen 0; have t1 := c3.frozen 1; have t2 := c3.frozen 2; have t3 := c3.frozen 3; have t4 := c3.frozen 4; have t5 := c3.frozen 5
    have k3 := turned_set6 ((((((w1.setCell ⟨w.heap.size + 1 + 1, 0, none⟩ (.int .i64 a.v.kind)).setCell ⟨w.heap.size + 1 + 1, 1, none⟩ (.string a.v.name)).setCell ⟨w.heap.size + 1 + 1, 2, none⟩ (.string a.v.to)).setCell ⟨w.heap.size + 1 + 1, 3, none⟩ (.int .i64 a.v.place)).setCell ⟨w.heap.size + 1 + 1, 4, none⟩ (.slice a.A a.n a.c)).setCell ⟨w.heap.size + 1 + 1, 5, none⟩ (.slice a.B a.m a.d)) (w.heap.size + 1 + 1 + 1) (.int .i64 b.v.kind) (.string b.v.name) (.string b.v.to) (.int .i64 b.v.place) (.slice b.A b.n b.c) (.slice b.B b.m b.d)
    have HLW := Lib.hid (hl.trans hlw); have HK2 := Lib.hid k2; have HK3 := Lib.hid k3; have HC2 := Lib.hid c2; have HC3 := Lib.hid c3; have HA := Lib.hid ha; have HB := Lib.hid hb; have HAO := Lib.hid hao
    clear b0 b1 b2 b3 hl hlw k2 k3 c2 c3 ha hb hao HT hgd
    unfold prV
    go_wp2
    exact bodyPost_ret (results_two rfl _ _ _ _ _ _ _ _ _ _ _ _ rfl rfl rfl ((HC2.out.set6 (.int .i64 a.v.kind) (.string a.v.name) (.string a.v.to) (.int .i64 a.v.place) (.slice a.A a.n a.c) (.slice a.B a.m a.d)).other HK3.out (by omega)) (HC3.out.set6 (.int .i64 b.v.kind) (.string b.v.name) (.string b.v.to) (.int .i64 b.v.place) (.slice b.A b.n b.c) (.slice b.B b.m b.d)) Tryz.underlying58 rfl Tryz.primSize Tryz.primSize) rfl
      ⟨a, b, rfl, HA.out, HB.out, HAO.out, (HLW.out.turn HK2.out (by omega)).turn HK3.out (by omega)⟩
  by_cases h2 : x.v.kind = 0 /\ y.v.kind = 3
  · obtain ⟨b0, b1, b2, b3, hl⟩ := four_boxes w #[.int .i64 x.v.kind, .string x.v.name, .string x.v.to, .int .i64 x.v.place, .slice x.A x.n x.c, .slice x.B x.m x.d] #[.int .i64 y.v.kind, .string y.v.name, .string y.v.to, .int .i64 y.v.place, .slice y.A y.n y.c, .slice y.B y.m y.d] #[.int .i64 0, .string ⟨#[]⟩, .string ⟨#[]⟩, .int .i64 0, .slice none 0 0, .slice none 0 0] #[.int .i64 0, .string ⟨#[]⟩, .string ⟨#[]⟩, .int .i64 0, .slice none 0 0, .slice none 0 0] 58
    replace b0 := b0.alloc (.cells #[.int .i64 x.v.kind, .int .i64 y.v.kind] 113)
    replace b1 := b1.alloc (.cells #[.int .i64 x.v.kind, .int .i64 y.v.kind] 113)
    replace b2 := b2.alloc (.cells #[.int .i64 x.v.kind, .int .i64 y.v.kind] 113)
    replace b3 := b3.alloc (.cells #[.int .i64 x.v.kind, .int .i64 y.v.kind] 113)
    replace hl := hl.alloc (.cells #[.int .i64 x.v.kind, .int .i64 y.v.kind] 113)
    have E : turnP x.v y.v = turnHM x.v y.v := by unfold turnP; rw [if_neg h1, if_pos h2]
    have d1 : (x.v.kind == 0 && y.v.kind == 0) = false := by rw [← Bool.not_eq_true, Bool.and_eq_true, beq_iff_eq, beq_iff_eq]; exact h1
    have d2 : (x.v.kind == 0 && y.v.kind == 3) = true := by rw [Bool.and_eq_true, beq_iff_eq, beq_iff_eq]; exact h2
    have e1 := he 0 0; have e2 := he 0 3
    rw [d1] at e1; rw [d2] at e2
    rw [E]
    have HT := Lib.hid (fun (w' : World) (hl : Later w w') => turnHM_any x y w' (hx.later hl) (hy.later hl))
    generalize turnHM x.v y.v = rr at HT ⊢
    clear E hx hy hp hq he h1 h2 d1 d2
    unfold prV at HT ⊢
    go_enter Tryz.func75, Tryz.ntmps75
    go_wp2_with fail
    refine (HT.out _ hl).mono ?_
    generalize ((((w.alloc (.cells #[.int .i64 x.v.kind, .string x.v.name, .string x.v.to, .int .i64 x.v.place, .slice x.A x.n x.c, .slice x.B x.m x.d] 58)).alloc (.cells #[.int .i64 y.v.kind, .string y.v.name, .string y.v.to, .int .i64 y.v.place, .slice y.A y.n y.c, .slice y.B y.m y.d] 58)).alloc (.cells #[.int .i64 0, .string ⟨#[]⟩, .string ⟨#[]⟩, .int .i64 0, .slice none 0 0, .slice none 0 0] 58)).alloc (.cells #[.int .i64 0, .string ⟨#[]⟩, .string ⟨#[]⟩, .int .i64 0, .slice none 0 0, .slice none 0 0] 58)).alloc (.cells #[.int .i64 x.v.kind, .int .i64 y.v.kind] 113) = wb at b0 b1 b2 b3 hl ⊢
    rintro e w1 ⟨a, b, rfl, ha, hb, hao, hlw⟩
    have hsz := b3.lt
    have c2 := b2.later hlw
    have u0 := c2.cell (i := 0) rfl; have u1 := c2.cell (i := 1) rfl; have u2 := c2.cell (i := 2) rfl; have u3 := c2.cell (i := 3) rfl; have u4 := c2.cell (i := 4) rfl; have u5 := c2.cell (i := 5) rfl
    have v0 := c2.frozen 0; have v1 := c2.frozen 1; have v2 := c2.frozen 2; have v3 := c2.frozen 3; have v4 := c2.frozen 4; have v5 := c2.frozen 5
    have k2 := turned_set6 w1 (w.heap.size + 1 + 1) (.int .i64 a.v.kind) (.string a.v.name) (.string a.v.to) (.int .i64 a.v.place) (.slice a.A a.n a.c) (.slice a.B a.m a.d)
    have c3 := (b3.later hlw).other k2 (by omega)
    have r0 := c3.cell (i := 0) rfl; have r1 := c3.cell (i := 1) rfl; have r2 := c3.cell (i := 2) rfl; have r3 := c3.cell (i := 3) rfl; have r4 := c3.cell (i := 4) rfl; have r5 := c3.cell (i := 5) rfl
    have t0 := c3.frozen 0; have t1 := c3.frozen 1; have t2 := c3.frozen 2; have t3 := c3.frozen 3; have t4 := c3.frozen 4; have t5 := c3.frozen 5
    have k3 := turned_set6 ((((((w1.setCell ⟨w.heap.size + 1 + 1, 0, none⟩ (.int .i64 a.v.kind)).setCell ⟨w.heap.size + 1 + 1, 1, none⟩ (.string a.v.name)).setCell ⟨w.heap.size + 1 + 1, 2, none⟩ (.string a.v.to)).setCell ⟨w.heap.size + 1 + 1, 3, none⟩ (.int .i64 a.v.place)).setCell ⟨w.heap.size + 1 + 1, 4, none⟩ (.slice a.A a.n a.c)).setCell ⟨w.heap.size + 1 + 1, 5, none⟩ (.slice a.B a.m a.d)) (w.heap.size + 1 + 1 + 1) (.int .i64 b.v.kind) (.string b.v.name) (.string b.v.to) (.int .i64 b.v.place) (.slice b.A b.n b.c) (.slice b.B b.m b.d)
    have HLW := Lib.hid (hl.trans hlw); have HK2 := Lib.hid k2; have HK3 := Lib.hid k3; have HC2 := Lib.hid c2; have HC3 := Lib.hid c3; have HA := Lib.hid ha; have HB := Lib.hid hb; have HAO := Lib.hid hao
    clear b0 b1 b2 b3 hl hlw k2 k3 c2 c3 ha hb hao HT hgd
    unfold prV
    go_wp2
    exact bodyPost_ret (results_two rfl _ _ _ _ _ _ _ _ _ _ _ _ rfl rfl rfl ((HC2.out.set6 (.int .i64 a.v.kind) (.string a.v.name) (.string a.v.to) (.int .i64 a.v.place) (.slice a.A a.n a.c) (.slice a.B a.m a.d)).other HK3.out (by omega)) (HC3.out.set6 (.int .i64 b.v.kind) (.string b.v.name) (.string b.v.to) (.int .i64 b.v.place) (.slice b.A b.n b.c) (.slice b.B b.m b.d)) Tryz.underlying58 rfl Tryz.primSize Tryz.primSize) rfl
      ⟨a, b, rfl, HA.out, HB.out, HAO.out, (HLW.out.turn HK2.out (by omega)).turn HK3.out (by omega)⟩
  by_cases h3 : x.v.kind = 3 /\ y.v.kind = 0
  · obtain ⟨b0, b1, b2, b3, hl⟩ := four_boxes w #[.int .i64 x.v.kind, .string x.v.name, .string x.v.to, .int .i64 x.v.place, .slice x.A x.n x.c, .slice x.B x.m x.d] #[.int .i64 y.v.kind, .string y.v.name, .string y.v.to, .int .i64 y.v.place, .slice y.A y.n y.c, .slice y.B y.m y.d] #[.int .i64 0, .string ⟨#[]⟩, .string ⟨#[]⟩, .int .i64 0, .slice none 0 0, .slice none 0 0] #[.int .i64 0, .string ⟨#[]⟩, .string ⟨#[]⟩, .int .i64 0, .slice none 0 0, .slice none 0 0] 58
    replace b0 := b0.alloc (.cells #[.int .i64 x.v.kind, .int .i64 y.v.kind] 113)
    replace b1 := b1.alloc (.cells #[.int .i64 x.v.kind, .int .i64 y.v.kind] 113)
    replace b2 := b2.alloc (.cells #[.int .i64 x.v.kind, .int .i64 y.v.kind] 113)
    replace b3 := b3.alloc (.cells #[.int .i64 x.v.kind, .int .i64 y.v.kind] 113)
    replace hl := hl.alloc (.cells #[.int .i64 x.v.kind, .int .i64 y.v.kind] 113)
    have E : turnP x.v y.v = turnMH x.v y.v := by unfold turnP; rw [if_neg h1, if_neg h2, if_pos h3]
    have d1 : (x.v.kind == 0 && y.v.kind == 0) = false := by rw [← Bool.not_eq_true, Bool.and_eq_true, beq_iff_eq, beq_iff_eq]; exact h1
    have d2 : (x.v.kind == 0 && y.v.kind == 3) = false := by rw [← Bool.not_eq_true, Bool.and_eq_true, beq_iff_eq, beq_iff_eq]; exact h2
    have d3 : (x.v.kind == 3 && y.v.kind == 0) = true := by rw [Bool.and_eq_true, beq_iff_eq, beq_iff_eq]; exact h3
    have e1 := he 0 0; have e2 := he 0 3; have e3 := he 3 0
    rw [d1] at e1; rw [d2] at e2; rw [d3] at e3
    rw [E]
    have HT := Lib.hid (fun (w' : World) (hl : Later w w') => turnMH_any x y w' (hx.later hl) (hy.later hl))
    generalize turnMH x.v y.v = rr at HT ⊢
    clear E hx hy hp hq he h1 h2 h3 d1 d2 d3
    unfold prV at HT ⊢
    go_enter Tryz.func75, Tryz.ntmps75
    go_wp2_with fail
    refine (HT.out _ hl).mono ?_
    generalize ((((w.alloc (.cells #[.int .i64 x.v.kind, .string x.v.name, .string x.v.to, .int .i64 x.v.place, .slice x.A x.n x.c, .slice x.B x.m x.d] 58)).alloc (.cells #[.int .i64 y.v.kind, .string y.v.name, .string y.v.to, .int .i64 y.v.place, .slice y.A y.n y.c, .slice y.B y.m y.d] 58)).alloc (.cells #[.int .i64 0, .string ⟨#[]⟩, .string ⟨#[]⟩, .int .i64 0, .slice none 0 0, .slice none 0 0] 58)).alloc (.cells #[.int .i64 0, .string ⟨#[]⟩, .string ⟨#[]⟩, .int .i64 0, .slice none 0 0, .slice none 0 0] 58)).alloc (.cells #[.int .i64 x.v.kind, .int .i64 y.v.kind] 113) = wb at b0 b1 b2 b3 hl ⊢
    rintro e w1 ⟨a, b, rfl, ha, hb, hao, hlw⟩
    have hsz := b3.lt
    have c2 := b2.later hlw
    have u0 := c2.cell (i := 0) rfl; have u1 := c2.cell (i := 1) rfl; have u2 := c2.cell (i := 2) rfl; have u3 := c2.cell (i := 3) rfl; have u4 := c2.cell (i := 4) rfl; have u5 := c2.cell (i := 5) rfl
    have v0 := c2.frozen 0; have v1 := c2.frozen 1; have v2 := c2.frozen 2; have v3 := c2.frozen 3; have v4 := c2.frozen 4; have v5 := c2.frozen 5
    have k2 := turned_set6 w1 (w.heap.size + 1 + 1) (.int .i64 a.v.kind) (.string a.v.name) (.string a.v.to) (.int .i64 a.v.place) (.slice a.A a.n a.c) (.slice a.B a.m a.d)
    have c3 := (b3.later hlw).other k2 (by omega)
    have r0 := c3.cell (i := 0) rfl; have r1 := c3.cell (i := 1) rfl; have r2 := c3.cell (i := 2) rfl; have r3 := c3.cell (i := 3) rfl; have r4 := c3.cell (i := 4) rfl; have r5 := c3.cell (i := 5) rfl
    have t0 := c3.frozen 0; have t1 := c3.frozen 1; have t2 := c3.frozen 2; have t3 := c3.frozen 3; have t4 := c3.frozen 4; have t5 := c3.frozen 5
    have k3 := turned_set6 ((((((w1.setCell ⟨w.heap.size + 1 + 1, 0, none⟩ (.int .i64 a.v.kind)).setCell ⟨w.heap.size + 1 + 1, 1, none⟩ (.string a.v.name)).setCell ⟨w.heap.size + 1 + 1, 2, none⟩ (.string a.v.to)).setCell ⟨w.heap.size + 1 + 1, 3, none⟩ (.int .i64 a.v.place)).setCell ⟨w.heap.size + 1 + 1, 4, none⟩ (.slice a.A a.n a.c)).setCell ⟨w.heap.size + 1 + 1, 5, none⟩ (.slice a.B a.m a.d)) (w.heap.size + 1 + 1 + 1) (.int .i64 b.v.kind) (.string b.v.name) (.string b.v.to) (.int .i64 b.v.place) (.slice b.A b.n b.c) (.slice b.B b.m b.d)
    have HLW := Lib.hid (hl.trans hlw); have HK2 := Lib.hid k2; have HK3 := Lib.hid k3; have HC2 := Lib.hid c2; have HC3 := Lib.hid c3; have HA := Lib.hid ha; have HB := Lib.hid hb; have HAO := Lib.hid hao
    clear b0 b1 b2 b3 hl hlw k2 k3 c2 c3 ha hb hao HT hgd
    unfold prV
    go_wp2
    exact bodyPost_ret (results_two rfl _ _ _ _ _ _ _ _ _ _ _ _ rfl rfl rfl ((HC2.out.set6 (.int .i64 a.v.kind) (.string a.v.name) (.string a.v.to) (.int .i64 a.v.place) (.slice a.A a.n a.c) (.slice a.B a.m a.d)).other HK3.out (by omega)) (HC3.out.set6 (.int .i64 b.v.kind) (.string b.v.name) (.string b.v.to) (.int .i64 b.v.place) (.slice b.A b.n b.c) (.slice b.B b.m b.d)) Tryz.underlying58 rfl Tryz.primSize Tryz.primSize) rfl
      ⟨a, b, rfl, HA.out, HB.out, HAO.out, (HLW.out.turn HK2.out (by omega)).turn HK3.out (by omega)⟩
  have E : turnP x.v y.v = (y.v, x.v, !commonP x.v y.v) := by unfold turnP; rw [if_neg h1, if_neg h2, if_neg h3]
  have d1 : (x.v.kind == 0 && y.v.kind == 0) = false := by rw [← Bool.not_eq_true, Bool.and_eq_true, beq_iff_eq, beq_iff_eq]; exact h1
  have d2 : (x.v.kind == 0 && y.v.kind == 3) = false := by rw [← Bool.not_eq_true, Bool.and_eq_true, beq_iff_eq, beq_iff_eq]; exact h2
  have d3 : (x.v.kind == 3 && y.v.kind == 0) = false := by rw [← Bool.not_eq_true, Bool.and_eq_true, beq_iff_eq, beq_iff_eq]; exact h3
  have e1 := he 0 0; have e2 := he 0 3; have e3 := he 3 0
  rw [d1] at e1; rw [d2] at e2; rw [d3] at e3
  rw [E]
  clear E hx hy hp hq he h1 h2 h3 d1 d2 d3
  unfold prV
  obtain ⟨b0, b1, b2, b3, hl⟩ := four_boxes w #[.int .i64 x.v.kind, .string x.v.name, .string x.v.to, .int .i64 x.v.place, .slice x.A x.n x.c, .slice x.B x.m x.d] #[.int .i64 y.v.kind, .string y.v.name, .string y.v.to, .int .i64 y.v.place, .slice y.A y.n y.c, .slice y.B y.m y.d] #[.int .i64 0, .string ⟨#[]⟩, .string ⟨#[]⟩, .int .i64 0, .slice none 0 0, .slice none 0 0] #[.int .i64 0, .string ⟨#[]⟩, .string ⟨#[]⟩, .int .i64 0, .slice none 0 0, .slice none 0 0] 58
  replace b0 := b0.alloc (.cells #[.int .i64 x.v.kind, .int .i64 y.v.kind] 113)
  replace b1 := b1.alloc (.cells #[.int .i64 x.v.kind, .int .i64 y.v.kind] 113)
  replace b2 := b2.alloc (.cells #[.int .i64 x.v.kind, .int .i64 y.v.kind] 113)
  replace b3 := b3.alloc (.cells #[.int .i64 x.v.kind, .int .i64 y.v.kind] 113)
  replace hl := hl.alloc (.cells #[.int .i64 x.v.kind, .int .i64 y.v.kind] 113)
  have HM := Lib.hid (fun w' => meet_any x y w')
  generalize commonP x.v y.v = cm at HM ⊢
  unfold prV at HM
  go_enter Tryz.func75, Tryz.ntmps75
  go_upto_region 8 with fail
  generalize ((((w.alloc (.cells #[.int .i64 x.v.kind, .string x.v.name, .string x.v.to, .int .i64 x.v.place, .slice x.A x.n x.c, .slice x.B x.m x.d] 58)).alloc (.cells #[.int .i64 y.v.kind, .string y.v.name, .string y.v.to, .int .i64 y.v.place, .slice y.A y.n y.c, .slice y.B y.m y.d] 58)).alloc (.cells #[.int .i64 0, .string ⟨#[]⟩, .string ⟨#[]⟩, .int .i64 0, .slice none 0 0, .slice none 0 0] 58)).alloc (.cells #[.int .i64 0, .string ⟨#[]⟩, .string ⟨#[]⟩, .int .i64 0, .slice none 0 0, .slice none 0 0] 58)).alloc (.cells #[.int .i64 x.v.kind, .int .i64 y.v.kind] 113) = wb at b0 b1 b2 b3 hl ⊢
  have hsz := b3.lt
  have HB0 := Lib.hid b0; have HB1 := Lib.hid b1; have HB2 := Lib.hid b2; have HB3 := Lib.hid b3; have HL := Lib.hid hl
  have s0 := both_all (x := x) (y := y) (b0.later (Later.refl wb).drew) (b1.later (Later.refl wb).drew)
  clear b0 b1 b2 b3 hl e1 e2 e3 hgd
  go_region_held3 (fun w' => w'.cell? ⟨w.heap.size, 0, none⟩ = some (.int .i64 x.v.kind) /\ w'.cell? ⟨w.heap.size, 1, none⟩ = some (.string x.v.name) /\ w'.cell? ⟨w.heap.size, 2, none⟩ = some (.string x.v.to) /\ w'.cell? ⟨w.heap.size, 3, none⟩ = some (.int .i64 x.v.place) /\ w'.cell? ⟨w.heap.size, 4, none⟩ = some (.slice x.A x.n x.c) /\ w'.cell? ⟨w.heap.size, 5, none⟩ = some (.slice x.B x.m x.d) /\ w'.cell? ⟨w.heap.size + 1, 0, none⟩ = some (.int .i64 y.v.kind) /\ w'.cell? ⟨w.heap.size + 1, 1, none⟩ = some (.string y.v.name) /\ w'.cell? ⟨w.heap.size + 1, 2, none⟩ = some (.string y.v.to) /\ w'.cell? ⟨w.heap.size + 1, 3, none⟩ = some (.int .i64 y.v.place) /\ w'.cell? ⟨w.heap.size + 1, 4, none⟩ = some (.slice y.A y.n y.c) /\ w'.cell? ⟨w.heap.size + 1, 5, none⟩ = some (.slice y.B y.m y.d))
    (first | with_reducible exact s3 | with_reducible exact s2 | with_reducible exact s1 | with_reducible exact s0)
    (first | (go_at_call 86; refine (HM.out _).mono ?_; rintro e w1 ⟨rfl, hl1⟩; have hlw : Later wb w1 := Later.trans (by first | exact Later.refl _ | exact (Later.refl _).drew | exact (Later.refl _).drewN _) hl1; have s1 := both_all (x := x) (y := y) (HB0.out.later hlw) (HB1.out.later hlw); have c2 := HB2.out.later hlw; have u0 := c2.cell (i := 0) rfl; have u1 := c2.cell (i := 1) rfl; have u2 := c2.cell (i := 2) rfl; have u3 := c2.cell (i := 3) rfl; have u4 := c2.cell (i := 4) rfl; have u5 := c2.cell (i := 5) rfl; have v0 := c2.frozen 0; have v1 := c2.frozen 1; have v2 := c2.frozen 2; have v3 := c2.frozen 3; have v4 := c2.frozen 4; have v5 := c2.frozen 5; have k2 := turned_set6 w1 (w.heap.size + 1 + 1) (.int .i64 y.v.kind) (.string y.v.name) (.string y.v.to) (.int .i64 y.v.place) (.slice y.A y.n y.c) (.slice y.B y.m y.d); have c3 := (HB3.out.later hlw).other k2 (by omega); have r0 := c3.cell (i := 0) rfl; have r1 := c3.cell (i := 1) rfl; have r2 := c3.cell (i := 2) rfl; have r3 := c3.cell (i := 3) rfl; have r4 := c3.cell (i := 4) rfl; have r5 := c3.cell (i := 5) rfl; have t0 := c3.frozen 0; have t1 := c3.frozen 1; have t2 := c3.frozen 2; have t3 := c3.frozen 3; have t4 := c3.frozen 4; have t5 := c3.frozen 5; have s2 := both_all (x := x) (y := y) ((HB0.out.later hlw).other k2 (by omega)) ((HB1.out.later hlw).other k2 (by omega)); have k3 := turned_set6 ((((((w1.setCell ⟨w.heap.size + 1 + 1, 0, none⟩ (.int .i64 y.v.kind)).setCell ⟨w.heap.size + 1 + 1, 1, none⟩ (.string y.v.name)).setCell ⟨w.heap.size + 1 + 1, 2, none⟩ (.string y.v.to)).setCell ⟨w.heap.size + 1 + 1, 3, none⟩ (.int .i64 y.v.place)).setCell ⟨w.heap.size + 1 + 1, 4, none⟩ (.slice y.A y.n y.c)).setCell ⟨w.heap.size + 1 + 1, 5, none⟩ (.slice y.B y.m y.d)) (w.heap.size + 1 + 1 + 1) (.int .i64 x.v.kind) (.string x.v.name) (.string x.v.to) (.int .i64 x.v.place) (.slice x.A x.n x.c) (.slice x.B x.m x.d); have s3 := both_all (x := x) (y := y) (((HB0.out.later hlw).other k2 (by omega)).other k3 (by omega)) (((HB1.out.later hlw).other k2 (by omega)).other k3 (by omega)); have HLW := Lib.hid hlw; have HK2 := Lib.hid k2; have HK3 := Lib.hid k3; have HC2 := Lib.hid c2; have HC3 := Lib.hid c3; clear hl1 hlw k2 k3 c2 c3))
  go_wp2
  exact bodyPost_ret (results_two rfl _ _ _ _ _ _ _ _ _ _ _ _ rfl rfl rfl ((HC2.out.set6 (.int .i64 y.v.kind) (.string y.v.name) (.string y.v.to) (.int .i64 y.v.place) (.slice y.A y.n y.c) (.slice y.B y.m y.d)).other HK3.out (by omega)) (HC3.out.set6 (.int .i64 x.v.kind) (.string x.v.name) (.string x.v.to) (.int .i64 x.v.place) (.slice x.A x.n x.c) (.slice x.B x.m x.d)) Tryz.underlying58 rfl Tryz.primSize Tryz.primSize) rfl
    ⟨y, x, rfl, rfl, rfl, (fun _ hx9 hy9 => ⟨hy9, hx9⟩), ((HL.out.trans HLW.out).turn HK2.out (by omega)).turn HK3.out (by omega)⟩

end Go.Proofs.YtlnjhimbgckdcaaGreat

/-
  What swap's Swap comes to, as a call.
-/
namespace Go.Proofs.YtlnjhimbgckdcaaGreat
open Go.RowKit Go.Maps

theorem IsPr.off {p : Pr} {w0 w w' : World} {u v : Value} {B : Nat} (h : IsPr p w0 w u v) (hg : Turned B w w') (hu : ∀ k, u.ownBlock = some k -> B < k) (hv : ∀ k, v.ownBlock = some k -> B < k) (hl : Later w0 w') : IsPr p w0 w' u v :=
  ⟨h.old.other hg (fun e => by have := hu _ e; omega) hl, h.new.other hg (fun e => by have := hv _ e; omega) hl, h.apart⟩
theorem swapR_none {p q : Pr} (h : swapP p q = none) : swapR (swapP p q) = noneP := by rw [h]; rfl
theorem heed_of {p q : Pr} (hp : rightP p = true) (hq : rightP q = true) {a b : Pr} {t : Bool} (h1 : a = (turnP p q).1) (h2 : b = (turnP p q).2.1) (h3 : t = (turnP p q).2.2) : swapP p q = heedP (a, b, t) := by
  rw [swapP_turn p q hp hq, h1, h2, h3]

end Go.Proofs.YtlnjhimbgckdcaaGreat

/-
  What seq's clone comes to, as a call.
-/
namespace Go.Proofs.YtlnjhimbgckdcaaGreat
open Go.RowKit Go.Maps

theorem GivesPr.prim {p : Pr} {w w' : World} {e : Ending} (h : GivesPr p w e w') (hm : Mild p) : ∃ y : PrC, e = .returned (prV y) /\ y.v = p /\ PrOk w' y /\ Fresh w y /\ Later w w' := by
  obtain ⟨u, v, rfl, hp⟩ := h
  obtain ⟨A, c, rfl, hc, hr⟩ := hp.old.row
  obtain ⟨B, d, rfl, hd, hs⟩ := hp.new.row
  exact ⟨⟨p, A, _, c, B, _, d⟩, rfl, rfl, ⟨hr, hs, hc, hd, hm.omost, hm.nmost, hm.name, hm.to, hm.lo, hm.hi, hm.olds, hm.news⟩, ⟨hp.old.block, hp.new.block⟩, hp.later⟩
theorem Fresh.base {w0 w : World} {x : PrC} (h : Fresh w x) (hl : Later w0 w) : Fresh w0 x := ⟨fun k hk => Nat.le_trans hl.le (h.1 k hk), fun k hk => Nat.le_trans hl.le (h.2 k hk)⟩
theorem cloneP_any (x : PrC) (w : World) (hx : PrOk w x) : Calls Tryz.prog 38 #[prV x] w fun e w' => ∃ y : PrC, e = .returned (prV y) /\ y.v = x.v /\ PrOk w' y /\ Fresh w y /\ Later w w' :=
  (primClone_any x w hx).mono fun _ _ h => h.prim hx.mild
def GivesC (l : List Pr) (w : World) (e : Ending) (w' : World) : Prop := ∃ v xs, e = .returned v /\ OwnPs 58 w w' v xs /\ valsP xs = l /\ ∀ x ∈ xs, Fresh w x

set_option maxRecDepth 100000 in
set_option maxHeartbeats 800000 in
theorem clone5_any (A : Option Addr) (n c : Nat) (xs : List PrC) (w : World) (hx : PsOk w A n xs) (hn : n <= 65536) :
    Calls Tryz.prog 47 #[.slice A n c] w (GivesC (valsP xs) w) := by
  have HX := Lib.hid hx; clear hx
  obtain ⟨i0, hi, hz0, hz1, hz2⟩ := info_parts Tryz.primInfo
  go_enter Tryz.func47, Tryz.ntmps47
  go_wp2
  go_loopg [3, 8] (n + 1) (fun g s3 s8 wr => ∃ (k : Nat) (v : Value) (ys : List PrC), k <= n /\ n - k <= g /\ s8 = .int .i64 k /\ s3 = v /\ ys.length = k /\ Hid (valsP ys = (valsP xs).take k) /\ Hid (OwnPs 58 w wr v ys) /\ Hid (∀ y ∈ ys, Fresh w y))
  case atStart => exact ⟨0, _, [], Nat.zero_le _, by omega, rfl, rfl, rfl, by simp [Hid, valsP], OwnPs.nil (Later.refl w), fun y hy => by cases hy⟩
  case round =>
    obtain ⟨k, v, ys, hk, hg, rfl, hv, hyl, hys, hown, hfr⟩ := hrel
    obtain rfl := hv.symm
    clear hv
    by_cases hlt : k < n
    · obtain ⟨b, o, x, rfl, hz, hok, g0, g1, g2, g3, g4, g5⟩ := (HX.out.later hown.out.later).get hlt
      have HLB : Hid (Later wr (wr.alloc (.cells #[.int .i64 x.v.kind, .string x.v.name, .string x.v.to, .int .i64 x.v.place, .slice x.A x.n x.c, .slice x.B x.m x.d] 58))) := (Later.refl wr).alloc _
      have HC := Lib.hid (cloneP_any x _ (hok.later HLB.out))
      have HTK := Lib.hid (valsP_take hz)
      clear hok hz
      unfold prV at HC
      go_wp2_with fail
      refine HC.out.mono ?_
      rintro e w2 ⟨y, rfl, hy, hoky, hfry, hl2⟩
      have HL2 := Lib.hid hl2; have HVY := Lib.hid hy; have HOK := Lib.hid hoky; have HFY := Lib.hid (hfry.base (hown.out.later.trans HLB.out))
      have HO1 := Lib.hid ((hown.out.on HLB.out).on hl2 |>.on ((Later.refl w2).alloc (.cells #[.int .i64 y.v.kind, .string y.v.name, .string y.v.to, .int .i64 y.v.place, .slice y.A y.n y.c, .slice y.B y.m y.d] 58)))
      have HAW : Hid (∀ z ∈ [y], ∀ g, v.ownBlock = some g -> Away g z) := by
        intro z hz g hgb
        simp at hz; subst hz
        have h1 := hown.out.lt g hgb
        have h2 := HLB.out.le
        exact hfry.away (by omega)
      clear hl2 hy hoky hfry HC g0 g1 g2 g3 g4 g5
      go_wp2_with (at_builtin; refine wpList_append_ps rfl _ _ 28 rfl i0 _ 96 Tryz.underlying28 hi hz0 hz1 hz2 rfl HO1.out rfl _ _ _ [y] rfl (row_one _ _ _) (fun z hz => by simp at hz; subst hz; exact HOK.out.later6 _) HAW.out (by omega) (by omega) ?_; intro v4 w4 hown4 hg4; have HO4 := Lib.hid hown4; clear hown4 hg4)
      go_roundg (n - (k + 1))
      case measure => omega
      case rel =>
        exact ⟨k + 1, v4, ys ++ [y], by omega, Nat.le_refl _, by go_num, rfl, by simp; omega, by show valsP (ys ++ [y]) = _; rw [HTK.out, ← hys.out, ← HVY.out]; simp [valsP], HO4, fun z hz => by
          rcases List.mem_append.1 hz with h | h
          · exact hfr.out z h
          · simp at h; subst h; exact HFY.out⟩
    · have HE : Hid (valsP ys = valsP xs) := by
        have := hys.out
        rw [List.take_of_length_le (by rw [valsP_length, HX.out.len]; omega)] at this
        exact this
      go_wp2
      go_ret
      exact ⟨v, ys, rfl, hown.out, HE.out, hfr.out⟩

end Go.Proofs.YtlnjhimbgckdcaaGreat

/-
  Rows of prims as plain lists: when they are the same, how many lines they have, the trees that they make. Nothing of any program.
-/
namespace Go.Proofs.YtlnjhimbgckdcaaGreat
open Go.RowKit

def sameS : List Pr -> List Pr -> Bool
  | [], [] => true
  | p :: a, q :: b => sameP p q && sameS a b
  | _, _ => false
theorem sameS_iff : ∀ {a b : List Pr}, sameS a b = true ↔ a = b
  | [], [] => by simp [sameS]
  | [], q :: b => by simp [sameS]
  | p :: a, [] => by simp [sameS]
  | p :: a, q :: b => by simp only [sameS, Bool.and_eq_true, sameP_iff, sameS_iff (a := a) (b := b), List.cons.injEq]
theorem sameS_length {a b : List Pr} (h : a.length ≠ b.length) : sameS a b = false := by
  cases hs : sameS a b
  · rfl
  · exact absurd (congrArg List.length (sameS_iff.1 hs)) h
theorem sameS_at {a b : List Pr} {k : Nat} {p q : Pr} (h1 : a[k]? = some p) (h2 : b[k]? = some q) (h : sameP p q = false) : sameS a b = false := by
  cases hs : sameS a b
  · rfl
  · rw [sameS_iff.1 hs, h2] at h1
    cases h1
    rw [sameP_self] at h
    cases h
theorem sameS_all {a b : List Pr} (hl : a.length = b.length) (h : ∀ (k : Nat) (p q : Pr), a[k]? = some p -> b[k]? = some q -> sameP p q = true) : sameS a b = true := by
  refine sameS_iff.2 (List.ext_getElem? fun k => ?_)
  rcases Nat.lt_or_ge k a.length with hk | hk
  · rw [List.getElem?_eq_getElem hk, List.getElem?_eq_getElem (by omega)]
    rw [sameP_iff.1 (h k _ _ (List.getElem?_eq_getElem hk) (List.getElem?_eq_getElem (by omega)))]
  · rw [List.getElem?_eq_none hk, List.getElem?_eq_none (by omega)]


end Go.Proofs.YtlnjhimbgckdcaaGreat

/-
  A prim behind a row, place by place; a row behind a row, from its last one on. Nothing of any program.
-/
namespace Go.Proofs.YtlnjhimbgckdcaaGreat
open Go.RowKit

theorem swap1_one (p q : Pr) : swap1 p [q] = (swapP p q).map fun s => ([s.1], s.2) := by
  simp only [swap1]
  cases swapP p q <;> rfl
theorem swap1_step {l : List Pr} {k : Nat} {p p1 q a b : Pr} {d : List Pr} (h : swap1 p (l.take k) = some (d, p1)) (hq : l[k]? = some q) (hs : swapP p1 q = some (a, b)) : swap1 p (l.take (k + 1)) = some (d ++ [a], b) := by
  obtain ⟨hk, rfl⟩ := List.getElem?_eq_some_iff.1 hq
  rw [List.take_succ_eq_append_getElem hk, swap1_append, h]
  simp [swap1_one, hs]
theorem swap1_stop {l : List Pr} {k : Nat} {p p1 q : Pr} {d : List Pr} (h : swap1 p (l.take k) = some (d, p1)) (hq : l[k]? = some q) (hs : swapP p1 q = none) : swap1 p l = none := by
  obtain ⟨hk, rfl⟩ := List.getElem?_eq_some_iff.1 hq
  have e : l = l.take k ++ (l[k] :: l.drop (k + 1)) := by rw [← List.drop_eq_getElem_cons hk, List.take_append_drop]
  rw [e, swap1_append, h]
  simp [swap1, hs]
theorem swapS_step {l m a b m2 : List Pr} {k : Nat} {p p' : Pr} (h : swapS (l.drop (k + 1)) m = some (a, b)) (hp : l[k]? = some p) (hs : swap1 p a = some (m2, p')) : swapS (l.drop k) m = some (m2, p' :: b) := by
  obtain ⟨hk, rfl⟩ := List.getElem?_eq_some_iff.1 hp
  rw [List.drop_eq_getElem_cons hk]
  exact swapS_cons.2 ⟨a, b, m2, p', h, hs, rfl⟩
theorem swapS_stop {l m a b : List Pr} {k : Nat} {p : Pr} (h : swapS (l.drop (k + 1)) m = some (a, b)) (hp : l[k]? = some p) (hs : swap1 p a = none) : swapS l m = none := by
  obtain ⟨hk, rfl⟩ := List.getElem?_eq_some_iff.1 hp
  have e : l = l.take k ++ (l[k] :: l.drop (k + 1)) := by rw [← List.drop_eq_getElem_cons hk, List.take_append_drop]
  rw [e, swapS_append_left]
  simp only [swapS, h, Option.bind_some, hs, Option.map_none, Option.bind_none]

end Go.Proofs.YtlnjhimbgckdcaaGreat
