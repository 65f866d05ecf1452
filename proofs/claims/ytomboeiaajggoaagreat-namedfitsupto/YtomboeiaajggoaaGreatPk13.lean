import Derived.Test.YtomboeiaajggoaaGreatPk12
import Derived.Test.YtomboeiaajggoaaGreatPk11
import Derived.Test.YtomboeiaajggoaaGreatPk6
import Derived.Deep.LoopGhost
import Derived.Deep.QuietTactic
import Derived.BigQuiet
import Derived.Lib.Hide
import Derived.Test.YtomboeiaajggoaaGreatPk4

/-
  What swap's Swap comes to, as a call.
-/
namespace Go.Proofs.YtomboeiaajggoaaGreat
open Go.RowKit Go.Maps

theorem IsPr.off {p : Pr} {w0 w w' : World} {u v : Value} {B : Nat} (h : IsPr p w0 w u v) (hg : Turned B w w') (hu : ∀ k, u.ownBlock = some k → B < k) (hv : ∀ k, v.ownBlock = some k → B < k) (hl : Later w0 w') : IsPr p w0 w' u v :=
  ⟨h.old.other hg (fun e => by have := hu _ e; omega) hl, h.new.other hg (fun e => by have := hv _ e; omega) hl, h.apart⟩
theorem swapR_none {p q : Pr} (h : swapP p q = none) : swapR (swapP p q) = noneP := by rw [h]; rfl
theorem heed_of {p q : Pr} (hp : rightP p = true) (hq : rightP q = true) {a b : Pr} {t : Bool} (h1 : a = (turnP p q).1) (h2 : b = (turnP p q).2.1) (h3 : t = (turnP p q).2.2) : swapP p q = heedP (a, b, t) := by
  rw [swapP_turn p q hp hq, h1, h2, h3]

set_option maxRecDepth 100000 in
set_option maxHeartbeats 1600000 in
theorem swap_any (x y : PrC) (w : World) (hx : PrOk w x) (hy : PrOk w y) :
    Calls Tryz.prog 89 #[prV x, prV y] w (GivesT (swapR (swapP x.v y.v)) w) := by
  obtain ⟨b0, b1, b2, b3, hl⟩ := four_boxes w #[.int .i64 x.v.kind, .string x.v.name, .string x.v.to, .int .i64 x.v.place, .slice x.A x.n x.c, .slice x.B x.m x.d] #[.int .i64 y.v.kind, .string y.v.name, .string y.v.to, .int .i64 y.v.place, .slice y.A y.n y.c, .slice y.B y.m y.d] #[.int .i64 0, .string ⟨#[]⟩, .string ⟨#[]⟩, .int .i64 0, .slice none 0 0, .slice none 0 0] #[.int .i64 0, .string ⟨#[]⟩, .string ⟨#[]⟩, .int .i64 0, .slice none 0 0, .slice none 0 0] 69
  have HR1 := Lib.hid (fun (w' : World) (h : Later w w') => primRight_any x w' (hx.later h))
  have HR2 := Lib.hid (fun (w' : World) (h : Later w w') => primRight_any y w' (hy.later h))
  have HTN := Lib.hid (fun (hp : rightP x.v = true) (hq : rightP y.v = true) (w' : World) (h : Later w w') => turn_any x y w' (hx.later h) (hy.later h) hp hq)
  have HX := Lib.hid hx; have HY := Lib.hid hy
  clear hx hy
  unfold prV at HR1 HR2 HTN ⊢
  cases hp : rightP x.v
  · rw [swapR_none (swapP_not _ _ (by simp [hp]))]
    rw [hp] at HR1
    clear HR2 HTN hp
    go_enter Tryz.func89, Tryz.ntmps89
    go_wp2_with fail
    refine (HR1.out _ hl).mono ?_
    generalize (((w.alloc (.cells #[.int .i64 x.v.kind, .string x.v.name, .string x.v.to, .int .i64 x.v.place, .slice x.A x.n x.c, .slice x.B x.m x.d] 69)).alloc (.cells #[.int .i64 y.v.kind, .string y.v.name, .string y.v.to, .int .i64 y.v.place, .slice y.A y.n y.c, .slice y.B y.m y.d] 69)).alloc (.cells #[.int .i64 0, .string ⟨#[]⟩, .string ⟨#[]⟩, .int .i64 0, .slice none 0 0, .slice none 0 0] 69)).alloc (.cells #[.int .i64 0, .string ⟨#[]⟩, .string ⟨#[]⟩, .int .i64 0, .slice none 0 0, .slice none 0 0] 69) = wb at b0 b1 b2 b3 hl ⊢
    rintro e w1 ⟨rfl, hlw⟩
    have hsz := b3.lt
    have c2 := b2.later hlw
    have u0 := c2.cell (i := 0) rfl; have u1 := c2.cell (i := 1) rfl; have u2 := c2.cell (i := 2) rfl; have u3 := c2.cell (i := 3) rfl; have u4 := c2.cell (i := 4) rfl; have u5 := c2.cell (i := 5) rfl
    have v0 := c2.frozen 0; have v1 := c2.frozen 1; have v2 := c2.frozen 2; have v3 := c2.frozen 3; have v4 := c2.frozen 4; have v5 := c2.frozen 5
    have k2 := turned_set6 w1 (w.heap.size + 1 + 1) (.int .i64 0) (.string ⟨#[]⟩) (.string ⟨#[]⟩) (.int .i64 0) (.slice none 0 0) (.slice none 0 0)
    have c3 := (b3.later hlw).other k2 (by omega)
    have r0 := c3.cell (i := 0) rfl; have r1 := c3.cell (i := 1) rfl; have r2 := c3.cell (i := 2) rfl; have r3 := c3.cell (i := 3) rfl; have r4 := c3.cell (i := 4) rfl; have r5 := c3.cell (i := 5) rfl
    have t0 := c3.frozen 0; have t1 := c3.frozen 1; have t2 := c3.frozen 2; have t3 := c3.frozen 3; have t4 := c3.frozen 4; have t5 := c3.frozen 5
    have k3 := turned_set6 ((((((w1.setCell ⟨w.heap.size + 1 + 1, 0, none⟩ (.int .i64 0)).setCell ⟨w.heap.size + 1 + 1, 1, none⟩ (.string ⟨#[]⟩)).setCell ⟨w.heap.size + 1 + 1, 2, none⟩ (.string ⟨#[]⟩)).setCell ⟨w.heap.size + 1 + 1, 3, none⟩ (.int .i64 0)).setCell ⟨w.heap.size + 1 + 1, 4, none⟩ (.slice none 0 0)).setCell ⟨w.heap.size + 1 + 1, 5, none⟩ (.slice none 0 0)) (w.heap.size + 1 + 1 + 1) (.int .i64 0) (.string ⟨#[]⟩) (.string ⟨#[]⟩) (.int .i64 0) (.slice none 0 0) (.slice none 0 0)
    have HK2z := Lib.hid k2; have HK3z := Lib.hid k3; have HC2z := Lib.hid ((c2.set6 (.int .i64 0) (.string ⟨#[]⟩) (.string ⟨#[]⟩) (.int .i64 0) (.slice none 0 0) (.slice none 0 0)).other k3 (by omega)); have HC3z := Lib.hid (c3.set6 (.int .i64 0) (.string ⟨#[]⟩) (.string ⟨#[]⟩) (.int .i64 0) (.slice none 0 0) (.slice none 0 0))
    clear k2 k3 c2 c3
    have HL := Lib.hid (hl.trans hlw)
    clear b0 b1 b2 b3 hl hlw HR1
    go_wp2
    exact bodyPost_ret (results_two rfl _ _ _ _ _ _ _ _ _ _ _ _ rfl rfl rfl HC2z.out HC3z.out Tryz.underlying69 rfl Tryz.primSize Tryz.primSize) rfl
      ⟨zeroC, zeroC, rfl, rfl, rfl, zeroC_ok _, zeroC_ok _, ((HL.out).turn HK2z.out (by omega)).turn HK3z.out (by omega)⟩
  cases hq : rightP y.v
  · rw [swapR_none (swapP_not _ _ (by simp [hq]))]
    rw [hp] at HR1
    rw [hq] at HR2
    clear HTN hp hq
    go_enter Tryz.func89, Tryz.ntmps89
    go_wp2_with fail
    refine (HR1.out _ hl).mono ?_
    generalize (((w.alloc (.cells #[.int .i64 x.v.kind, .string x.v.name, .string x.v.to, .int .i64 x.v.place, .slice x.A x.n x.c, .slice x.B x.m x.d] 69)).alloc (.cells #[.int .i64 y.v.kind, .string y.v.name, .string y.v.to, .int .i64 y.v.place, .slice y.A y.n y.c, .slice y.B y.m y.d] 69)).alloc (.cells #[.int .i64 0, .string ⟨#[]⟩, .string ⟨#[]⟩, .int .i64 0, .slice none 0 0, .slice none 0 0] 69)).alloc (.cells #[.int .i64 0, .string ⟨#[]⟩, .string ⟨#[]⟩, .int .i64 0, .slice none 0 0, .slice none 0 0] 69) = wb at b0 b1 b2 b3 hl ⊢
    rintro e w1 ⟨rfl, hlw⟩
    have hsz := b3.lt
    obtain ⟨q0, q1, q2, q3, q4, q5⟩ := BoxAt.all (x := y) (b1.later hlw)
    have HB2 := Lib.hid (b2.later hlw); have HB3 := Lib.hid (b3.later hlw); have HL1 := Lib.hid (hl.trans hlw)
    clear b0 b1 b2 b3 hl hlw HR1
    go_wp2_with fail
    refine (HR2.out _ HL1.out).mono ?_
    rintro e w2 ⟨rfl, hlw⟩
    clear q0 q1 q2 q3 q4 q5
    have c2 := HB2.out.later hlw
    have u0 := c2.cell (i := 0) rfl; have u1 := c2.cell (i := 1) rfl; have u2 := c2.cell (i := 2) rfl; have u3 := c2.cell (i := 3) rfl; have u4 := c2.cell (i := 4) rfl; have u5 := c2.cell (i := 5) rfl
    have v0 := c2.frozen 0; have v1 := c2.frozen 1; have v2 := c2.frozen 2; have v3 := c2.frozen 3; have v4 := c2.frozen 4; have v5 := c2.frozen 5
    have k2 := turned_set6 w2 (w.heap.size + 1 + 1) (.int .i64 0) (.string ⟨#[]⟩) (.string ⟨#[]⟩) (.int .i64 0) (.slice none 0 0) (.slice none 0 0)
    have c3 := (HB3.out.later hlw).other k2 (by omega)
    have r0 := c3.cell (i := 0) rfl; have r1 := c3.cell (i := 1) rfl; have r2 := c3.cell (i := 2) rfl; have r3 := c3.cell (i := 3) rfl; have r4 := c3.cell (i := 4) rfl; have r5 := c3.cell (i := 5) rfl
    have t0 := c3.frozen 0; have t1 := c3.frozen 1; have t2 := c3.frozen 2; have t3 := c3.frozen 3; have t4 := c3.frozen 4; have t5 := c3.frozen 5
    have k3 := turned_set6 ((((((w2.setCell ⟨w.heap.size + 1 + 1, 0, none⟩ (.int .i64 0)).setCell ⟨w.heap.size + 1 + 1, 1, none⟩ (.string ⟨#[]⟩)).setCell ⟨w.heap.size + 1 + 1, 2, none⟩ (.string ⟨#[]⟩)).setCell ⟨w.heap.size + 1 + 1, 3, none⟩ (.int .i64 0)).setCell ⟨w.heap.size + 1 + 1, 4, none⟩ (.slice none 0 0)).setCell ⟨w.heap.size + 1 + 1, 5, none⟩ (.slice none 0 0)) (w.heap.size + 1 + 1 + 1) (.int .i64 0) (.string ⟨#[]⟩) (.string ⟨#[]⟩) (.int .i64 0) (.slice none 0 0) (.slice none 0 0)
    have HK2z := Lib.hid k2; have HK3z := Lib.hid k3; have HC2z := Lib.hid ((c2.set6 (.int .i64 0) (.string ⟨#[]⟩) (.string ⟨#[]⟩) (.int .i64 0) (.slice none 0 0) (.slice none 0 0)).other k3 (by omega)); have HC3z := Lib.hid (c3.set6 (.int .i64 0) (.string ⟨#[]⟩) (.string ⟨#[]⟩) (.int .i64 0) (.slice none 0 0) (.slice none 0 0))
    clear k2 k3 c2 c3
    have HL := Lib.hid (HL1.out.trans hlw)
    clear hlw HR2
    go_wp2
    exact bodyPost_ret (results_two rfl _ _ _ _ _ _ _ _ _ _ _ _ rfl rfl rfl HC2z.out HC3z.out Tryz.underlying69 rfl Tryz.primSize Tryz.primSize) rfl
      ⟨zeroC, zeroC, rfl, rfl, rfl, zeroC_ok _, zeroC_ok _, ((HL.out).turn HK2z.out (by omega)).turn HK3z.out (by omega)⟩
  rw [hp] at HR1
  rw [hq] at HR2
  generalize hR : swapR (swapP x.v y.v) = R
  have HRR := Lib.hid hR
  clear hR
  go_enter Tryz.func89, Tryz.ntmps89
  go_wp2_with fail
  refine (HR1.out _ hl).mono ?_
  generalize (((w.alloc (.cells #[.int .i64 x.v.kind, .string x.v.name, .string x.v.to, .int .i64 x.v.place, .slice x.A x.n x.c, .slice x.B x.m x.d] 69)).alloc (.cells #[.int .i64 y.v.kind, .string y.v.name, .string y.v.to, .int .i64 y.v.place, .slice y.A y.n y.c, .slice y.B y.m y.d] 69)).alloc (.cells #[.int .i64 0, .string ⟨#[]⟩, .string ⟨#[]⟩, .int .i64 0, .slice none 0 0, .slice none 0 0] 69)).alloc (.cells #[.int .i64 0, .string ⟨#[]⟩, .string ⟨#[]⟩, .int .i64 0, .slice none 0 0, .slice none 0 0] 69) = wb at b0 b1 b2 b3 hl ⊢
  rintro e w1 ⟨rfl, hlw⟩
  have hsz := b3.lt
  obtain ⟨q0, q1, q2, q3, q4, q5⟩ := BoxAt.all (x := y) (b1.later hlw)
  have HB0 := Lib.hid (b0.later hlw); have HB1 := Lib.hid (b1.later hlw); have HB2 := Lib.hid (b2.later hlw); have HB3 := Lib.hid (b3.later hlw); have HL1 := Lib.hid (hl.trans hlw)
  clear b0 b1 b2 b3 hl hlw HR1
  go_wp2_with fail
  refine (HR2.out _ HL1.out).mono ?_
  rintro e w2 ⟨rfl, hlw⟩
  clear q0 q1 q2 q3 q4 q5
  obtain ⟨p0, p1, p2, p3, p4, p5⟩ := BoxAt.all (x := x) (HB0.out.later hlw)
  obtain ⟨q0, q1, q2, q3, q4, q5⟩ := BoxAt.all (x := y) (HB1.out.later hlw)
  have hlt2 := (HB3.out.later hlw).lt
  have HB4 := Lib.hid (HB2.out.later hlw); have HB5 := Lib.hid (HB3.out.later hlw); have HL2 := Lib.hid (HL1.out.trans hlw)
  clear hlw HR2
  go_wp2_with fail
  refine (HTN.out hp hq _ HL2.out).mono ?_
  rintro e w3 ⟨a, b, rfl, ha, hb, hao, hlw⟩
  clear p0 p1 p2 p3 p4 p5 q0 q1 q2 q3 q4 q5 HTN HB0 HB1 HB2 HB3
  have hsw : R = swapR (heedP (a.v, b.v, (turnP x.v y.v).2.2)) := by rw [← HRR.out, heed_of hp hq ha hb rfl]
  have HSW := Lib.hid hsw
  clear hsw
  generalize (turnP x.v y.v).2.2 = t at HSW ⊢
  clear ha hb HRR
  obtain ⟨hao1, hbo1⟩ := hao w HX.out HY.out
  have HAO := Lib.hid hao1; have HBO := Lib.hid hbo1
  clear hao hao1 hbo1 hp hq HX HY
  have c2 := HB4.out.later hlw
  have u0 := c2.cell (i := 0) rfl; have u1 := c2.cell (i := 1) rfl; have u2 := c2.cell (i := 2) rfl; have u3 := c2.cell (i := 3) rfl; have u4 := c2.cell (i := 4) rfl; have u5 := c2.cell (i := 5) rfl
  have v0 := c2.frozen 0; have v1 := c2.frozen 1; have v2 := c2.frozen 2; have v3 := c2.frozen 3; have v4 := c2.frozen 4; have v5 := c2.frozen 5
  have k2 := turned_set6 w3 (w.heap.size + 1 + 1) (.int .i64 a.v.kind) (.string a.v.name) (.string a.v.to) (.int .i64 a.v.place) (.slice a.A a.n a.c) (.slice a.B a.m a.d)
  have c3 := (HB5.out.later hlw).other k2 (by omega)
  have r0 := c3.cell (i := 0) rfl; have r1 := c3.cell (i := 1) rfl; have r2 := c3.cell (i := 2) rfl; have r3 := c3.cell (i := 3) rfl; have r4 := c3.cell (i := 4) rfl; have r5 := c3.cell (i := 5) rfl
  have t0 := c3.frozen 0; have t1 := c3.frozen 1; have t2 := c3.frozen 2; have t3 := c3.frozen 3; have t4 := c3.frozen 4; have t5 := c3.frozen 5
  have k3 := turned_set6 ((((((w3.setCell ⟨w.heap.size + 1 + 1, 0, none⟩ (.int .i64 a.v.kind)).setCell ⟨w.heap.size + 1 + 1, 1, none⟩ (.string a.v.name)).setCell ⟨w.heap.size + 1 + 1, 2, none⟩ (.string a.v.to)).setCell ⟨w.heap.size + 1 + 1, 3, none⟩ (.int .i64 a.v.place)).setCell ⟨w.heap.size + 1 + 1, 4, none⟩ (.slice a.A a.n a.c)).setCell ⟨w.heap.size + 1 + 1, 5, none⟩ (.slice a.B a.m a.d)) (w.heap.size + 1 + 1 + 1) (.int .i64 b.v.kind) (.string b.v.name) (.string b.v.to) (.int .i64 b.v.place) (.slice b.A b.n b.c) (.slice b.B b.m b.d)
  have HK2 := Lib.hid k2; have HK3 := Lib.hid k3; have HC2 := Lib.hid ((c2.set6 (.int .i64 a.v.kind) (.string a.v.name) (.string a.v.to) (.int .i64 a.v.place) (.slice a.A a.n a.c) (.slice a.B a.m a.d)).other k3 (by omega)); have HC3 := Lib.hid (c3.set6 (.int .i64 b.v.kind) (.string b.v.name) (.string b.v.to) (.int .i64 b.v.place) (.slice b.A b.n b.c) (.slice b.B b.m b.d))
  clear k2 k3 c2 c3
  have HL3 := Lib.hid (((HL2.out.trans hlw).turn HK2.out (by omega)).turn HK3.out (by omega))
  clear hlw HK2 HK3 HB4 HB5
  unfold prV
  go_upto_region 4 with fail
  generalize (((((((((((w3.setCell ⟨w.heap.size + 1 + 1, 0, none⟩ (.int .i64 a.v.kind)).setCell ⟨w.heap.size + 1 + 1, 1, none⟩ (.string a.v.name)).setCell ⟨w.heap.size + 1 + 1, 2, none⟩ (.string a.v.to)).setCell ⟨w.heap.size + 1 + 1, 3, none⟩ (.int .i64 a.v.place)).setCell ⟨w.heap.size + 1 + 1, 4, none⟩ (.slice a.A a.n a.c)).setCell ⟨w.heap.size + 1 + 1, 5, none⟩ (.slice a.B a.m a.d)).setCell ⟨w.heap.size + 1 + 1 + 1, 0, none⟩ (.int .i64 b.v.kind)).setCell ⟨w.heap.size + 1 + 1 + 1, 1, none⟩ (.string b.v.name)).setCell ⟨w.heap.size + 1 + 1 + 1, 2, none⟩ (.string b.v.to)).setCell ⟨w.heap.size + 1 + 1 + 1, 3, none⟩ (.int .i64 b.v.place)).setCell ⟨w.heap.size + 1 + 1 + 1, 4, none⟩ (.slice b.A b.n b.c)).setCell ⟨w.heap.size + 1 + 1 + 1, 5, none⟩ (.slice b.B b.m b.d) = w4 at HC2 HC3 HL3 ⊢
  clear u0 u1 u2 u3 u4 u5 v0 v1 v2 v3 v4 v5 r0 r1 r2 r3 r4 r5 t0 t1 t2 t3 t4 t5
  have HRA := Lib.hid (fun (w' : World) (h : Later w w') => primRight_any a w' (HAO.out.later h))
  have HRB := Lib.hid (fun (w' : World) (h : Later w w') => primRight_any b w' (HBO.out.later h))
  unfold prV at HRA HRB
  cases t
  · obtain rfl : R = noneP := by rw [HSW.out, heed_false]; rfl
    clear HSW HRA HRB
    have c2 := HC2.out
    have u0 := c2.cell (i := 0) rfl; have u1 := c2.cell (i := 1) rfl; have u2 := c2.cell (i := 2) rfl; have u3 := c2.cell (i := 3) rfl; have u4 := c2.cell (i := 4) rfl; have u5 := c2.cell (i := 5) rfl
    have v0 := c2.frozen 0; have v1 := c2.frozen 1; have v2 := c2.frozen 2; have v3 := c2.frozen 3; have v4 := c2.frozen 4; have v5 := c2.frozen 5
    have k2 := turned_set6 w4 (w.heap.size + 1 + 1) (.int .i64 0) (.string ⟨#[]⟩) (.string ⟨#[]⟩) (.int .i64 0) (.slice none 0 0) (.slice none 0 0)
    have c3 := (HC3.out).other k2 (by omega)
    have r0 := c3.cell (i := 0) rfl; have r1 := c3.cell (i := 1) rfl; have r2 := c3.cell (i := 2) rfl; have r3 := c3.cell (i := 3) rfl; have r4 := c3.cell (i := 4) rfl; have r5 := c3.cell (i := 5) rfl
    have t0 := c3.frozen 0; have t1 := c3.frozen 1; have t2 := c3.frozen 2; have t3 := c3.frozen 3; have t4 := c3.frozen 4; have t5 := c3.frozen 5
    have k3 := turned_set6 ((((((w4.setCell ⟨w.heap.size + 1 + 1, 0, none⟩ (.int .i64 0)).setCell ⟨w.heap.size + 1 + 1, 1, none⟩ (.string ⟨#[]⟩)).setCell ⟨w.heap.size + 1 + 1, 2, none⟩ (.string ⟨#[]⟩)).setCell ⟨w.heap.size + 1 + 1, 3, none⟩ (.int .i64 0)).setCell ⟨w.heap.size + 1 + 1, 4, none⟩ (.slice none 0 0)).setCell ⟨w.heap.size + 1 + 1, 5, none⟩ (.slice none 0 0)) (w.heap.size + 1 + 1 + 1) (.int .i64 0) (.string ⟨#[]⟩) (.string ⟨#[]⟩) (.int .i64 0) (.slice none 0 0) (.slice none 0 0)
    have HK2z := Lib.hid k2; have HK3z := Lib.hid k3; have HC2z := Lib.hid ((c2.set6 (.int .i64 0) (.string ⟨#[]⟩) (.string ⟨#[]⟩) (.int .i64 0) (.slice none 0 0) (.slice none 0 0)).other k3 (by omega)); have HC3z := Lib.hid (c3.set6 (.int .i64 0) (.string ⟨#[]⟩) (.string ⟨#[]⟩) (.int .i64 0) (.slice none 0 0) (.slice none 0 0))
    clear k2 k3 c2 c3
    go_wp2
    exact bodyPost_ret (results_two rfl _ _ _ _ _ _ _ _ _ _ _ _ rfl rfl rfl HC2z.out HC3z.out Tryz.underlying69 rfl Tryz.primSize Tryz.primSize) rfl
      ⟨zeroC, zeroC, rfl, rfl, rfl, zeroC_ok _, zeroC_ok _, ((HL3.out).turn HK2z.out (by omega)).turn HK3z.out (by omega)⟩
  obtain ⟨y0, y1, y2, y3, y4, y5⟩ := BoxAt.all (x := a) HC2.out
  cases ha : rightP a.v
  · obtain rfl : R = noneP := by rw [HSW.out]; simp [heedP, ha, swapR]
    rw [ha] at HRA
    clear HSW HRB ha
    go_wp2_with fail
    refine (HRA.out _ HL3.out).mono ?_
    rintro e w5 ⟨rfl, hlw⟩
    clear y0 y1 y2 y3 y4 y5
    have c2 := HC2.out.later hlw
    have u0 := c2.cell (i := 0) rfl; have u1 := c2.cell (i := 1) rfl; have u2 := c2.cell (i := 2) rfl; have u3 := c2.cell (i := 3) rfl; have u4 := c2.cell (i := 4) rfl; have u5 := c2.cell (i := 5) rfl
    have v0 := c2.frozen 0; have v1 := c2.frozen 1; have v2 := c2.frozen 2; have v3 := c2.frozen 3; have v4 := c2.frozen 4; have v5 := c2.frozen 5
    have k2 := turned_set6 w5 (w.heap.size + 1 + 1) (.int .i64 0) (.string ⟨#[]⟩) (.string ⟨#[]⟩) (.int .i64 0) (.slice none 0 0) (.slice none 0 0)
    have c3 := (HC3.out.later hlw).other k2 (by omega)
    have r0 := c3.cell (i := 0) rfl; have r1 := c3.cell (i := 1) rfl; have r2 := c3.cell (i := 2) rfl; have r3 := c3.cell (i := 3) rfl; have r4 := c3.cell (i := 4) rfl; have r5 := c3.cell (i := 5) rfl
    have t0 := c3.frozen 0; have t1 := c3.frozen 1; have t2 := c3.frozen 2; have t3 := c3.frozen 3; have t4 := c3.frozen 4; have t5 := c3.frozen 5
    have k3 := turned_set6 ((((((w5.setCell ⟨w.heap.size + 1 + 1, 0, none⟩ (.int .i64 0)).setCell ⟨w.heap.size + 1 + 1, 1, none⟩ (.string ⟨#[]⟩)).setCell ⟨w.heap.size + 1 + 1, 2, none⟩ (.string ⟨#[]⟩)).setCell ⟨w.heap.size + 1 + 1, 3, none⟩ (.int .i64 0)).setCell ⟨w.heap.size + 1 + 1, 4, none⟩ (.slice none 0 0)).setCell ⟨w.heap.size + 1 + 1, 5, none⟩ (.slice none 0 0)) (w.heap.size + 1 + 1 + 1) (.int .i64 0) (.string ⟨#[]⟩) (.string ⟨#[]⟩) (.int .i64 0) (.slice none 0 0) (.slice none 0 0)
    have HK2z := Lib.hid k2; have HK3z := Lib.hid k3; have HC2z := Lib.hid ((c2.set6 (.int .i64 0) (.string ⟨#[]⟩) (.string ⟨#[]⟩) (.int .i64 0) (.slice none 0 0) (.slice none 0 0)).other k3 (by omega)); have HC3z := Lib.hid (c3.set6 (.int .i64 0) (.string ⟨#[]⟩) (.string ⟨#[]⟩) (.int .i64 0) (.slice none 0 0) (.slice none 0 0))
    clear k2 k3 c2 c3
    have HL := Lib.hid (HL3.out.trans hlw)
    clear hlw HRA
    go_wp2
    exact bodyPost_ret (results_two rfl _ _ _ _ _ _ _ _ _ _ _ _ rfl rfl rfl HC2z.out HC3z.out Tryz.underlying69 rfl Tryz.primSize Tryz.primSize) rfl
      ⟨zeroC, zeroC, rfl, rfl, rfl, zeroC_ok _, zeroC_ok _, ((HL.out).turn HK2z.out (by omega)).turn HK3z.out (by omega)⟩
  rw [ha] at HRA
  cases hb : rightP b.v
  · obtain rfl : R = noneP := by rw [HSW.out]; simp [heedP, hb, swapR]
    rw [hb] at HRB
    clear HSW ha hb
    go_wp2_with fail
    refine (HRA.out _ HL3.out).mono ?_
    rintro e w5 ⟨rfl, hlw⟩
    clear y0 y1 y2 y3 y4 y5
    have HC4 := Lib.hid (HC2.out.later hlw); have HC5 := Lib.hid (HC3.out.later hlw); have HL5 := Lib.hid (HL3.out.trans hlw)
    obtain ⟨z0, z1, z2, z3, z4, z5⟩ := BoxAt.all (x := b) HC5.out
    clear hlw HRA
    go_wp2_with fail
    refine (HRB.out _ HL5.out).mono ?_
    rintro e w6 ⟨rfl, hlw⟩
    clear z0 z1 z2 z3 z4 z5
    have c2 := HC4.out.later hlw
    have u0 := c2.cell (i := 0) rfl; have u1 := c2.cell (i := 1) rfl; have u2 := c2.cell (i := 2) rfl; have u3 := c2.cell (i := 3) rfl; have u4 := c2.cell (i := 4) rfl; have u5 := c2.cell (i := 5) rfl
    have v0 := c2.frozen 0; have v1 := c2.frozen 1; have v2 := c2.frozen 2; have v3 := c2.frozen 3; have v4 := c2.frozen 4; have v5 := c2.frozen 5
    have k2 := turned_set6 w6 (w.heap.size + 1 + 1) (.int .i64 0) (.string ⟨#[]⟩) (.string ⟨#[]⟩) (.int .i64 0) (.slice none 0 0) (.slice none 0 0)
    have c3 := (HC5.out.later hlw).other k2 (by omega)
    have r0 := c3.cell (i := 0) rfl; have r1 := c3.cell (i := 1) rfl; have r2 := c3.cell (i := 2) rfl; have r3 := c3.cell (i := 3) rfl; have r4 := c3.cell (i := 4) rfl; have r5 := c3.cell (i := 5) rfl
    have t0 := c3.frozen 0; have t1 := c3.frozen 1; have t2 := c3.frozen 2; have t3 := c3.frozen 3; have t4 := c3.frozen 4; have t5 := c3.frozen 5
    have k3 := turned_set6 ((((((w6.setCell ⟨w.heap.size + 1 + 1, 0, none⟩ (.int .i64 0)).setCell ⟨w.heap.size + 1 + 1, 1, none⟩ (.string ⟨#[]⟩)).setCell ⟨w.heap.size + 1 + 1, 2, none⟩ (.string ⟨#[]⟩)).setCell ⟨w.heap.size + 1 + 1, 3, none⟩ (.int .i64 0)).setCell ⟨w.heap.size + 1 + 1, 4, none⟩ (.slice none 0 0)).setCell ⟨w.heap.size + 1 + 1, 5, none⟩ (.slice none 0 0)) (w.heap.size + 1 + 1 + 1) (.int .i64 0) (.string ⟨#[]⟩) (.string ⟨#[]⟩) (.int .i64 0) (.slice none 0 0) (.slice none 0 0)
    have HK2z := Lib.hid k2; have HK3z := Lib.hid k3; have HC2z := Lib.hid ((c2.set6 (.int .i64 0) (.string ⟨#[]⟩) (.string ⟨#[]⟩) (.int .i64 0) (.slice none 0 0) (.slice none 0 0)).other k3 (by omega)); have HC3z := Lib.hid (c3.set6 (.int .i64 0) (.string ⟨#[]⟩) (.string ⟨#[]⟩) (.int .i64 0) (.slice none 0 0) (.slice none 0 0))
    clear k2 k3 c2 c3
    have HL := Lib.hid (HL5.out.trans hlw)
    clear hlw HRB
    go_wp2
    exact bodyPost_ret (results_two rfl _ _ _ _ _ _ _ _ _ _ _ _ rfl rfl rfl HC2z.out HC3z.out Tryz.underlying69 rfl Tryz.primSize Tryz.primSize) rfl
      ⟨zeroC, zeroC, rfl, rfl, rfl, zeroC_ok _, zeroC_ok _, ((HL.out).turn HK2z.out (by omega)).turn HK3z.out (by omega)⟩
  obtain rfl : R = (a.v, b.v, true) := by rw [HSW.out]; simp [heedP, ha, hb, swapR]
  rw [hb] at HRB
  clear HSW ha hb
  go_wp2_with fail
  refine (HRA.out _ HL3.out).mono ?_
  rintro e w5 ⟨rfl, hlw⟩
  clear y0 y1 y2 y3 y4 y5
  have HC4 := Lib.hid (HC2.out.later hlw); have HC5 := Lib.hid (HC3.out.later hlw); have HL5 := Lib.hid (HL3.out.trans hlw)
  obtain ⟨z0, z1, z2, z3, z4, z5⟩ := BoxAt.all (x := b) HC5.out
  clear hlw HRA
  go_wp2_with fail
  refine (HRB.out _ HL5.out).mono ?_
  rintro e w6 ⟨rfl, hlw⟩
  clear z0 z1 z2 z3 z4 z5
  have HC6 := Lib.hid (HC4.out.later hlw); have HC7 := Lib.hid (HC5.out.later hlw); have HL6 := Lib.hid (HL5.out.trans hlw)
  clear hlw HRB HC2 HC3 HC4 HC5
  have HCA := Lib.hid (fun (w' : World) (h : Later w w') => primClone_any a w' (HAO.out.later h))
  have HCB := Lib.hid (fun (w' : World) (h : Later w w') => primClone_any b w' (HBO.out.later h))
  unfold prV at HCA HCB
  obtain ⟨y0, y1, y2, y3, y4, y5⟩ := BoxAt.all (x := a) HC6.out
  obtain ⟨z0, z1, z2, z3, z4, z5⟩ := BoxAt.all (x := b) HC7.out
  have hlt6 := HC7.out.lt
  go_upto_region 6 with fail
  go_region_with (first | (go_at_call 51; have hq := H7; clear hq; refine (HCB.out _ (Later.trans (HL6.out.trans HL7.out) (by first | exact Later.refl _ | exact (Later.refl _).drew | exact (Later.refl _).drewN _))).mono ?_; rintro e w8 ⟨u8, v8, rfl, hpr8⟩; obtain ⟨A8, c8, hv8, hcc8, hr8⟩ := hpr8.old.row; obtain ⟨B8, d8, hv9, hdd8, hs8⟩ := hpr8.new.row; subst hv8 hv9; have hlw : Later w7 w8 := Later.trans (by first | exact Later.refl _ | exact (Later.refl _).drew | exact (Later.refl _).drewN _) hpr8.later; have c2 := HC8.out.later hlw; have u0 := c2.cell (i := 0) rfl; have u1 := c2.cell (i := 1) rfl; have u2 := c2.cell (i := 2) rfl; have u3 := c2.cell (i := 3) rfl; have u4 := c2.cell (i := 4) rfl; have u5 := c2.cell (i := 5) rfl; have v0 := c2.frozen 0; have v1 := c2.frozen 1; have v2 := c2.frozen 2; have v3 := c2.frozen 3; have v4 := c2.frozen 4; have v5 := c2.frozen 5; have k2 := turned_set6 w8 (w.heap.size + 1 + 1) (.int .i64 a.v.kind) (.string a.v.name) (.string a.v.to) (.int .i64 a.v.place) (.slice A7 a.v.old.length c7) (.slice B7 a.v.new.length d7); have c3 := (HC9.out.later hlw).other k2 (by omega); have r0 := c3.cell (i := 0) rfl; have r1 := c3.cell (i := 1) rfl; have r2 := c3.cell (i := 2) rfl; have r3 := c3.cell (i := 3) rfl; have r4 := c3.cell (i := 4) rfl; have r5 := c3.cell (i := 5) rfl; have t0 := c3.frozen 0; have t1 := c3.frozen 1; have t2 := c3.frozen 2; have t3 := c3.frozen 3; have t4 := c3.frozen 4; have t5 := c3.frozen 5; have k3 := turned_set6 ((((((w8.setCell ⟨w.heap.size + 1 + 1, 0, none⟩ (.int .i64 a.v.kind)).setCell ⟨w.heap.size + 1 + 1, 1, none⟩ (.string a.v.name)).setCell ⟨w.heap.size + 1 + 1, 2, none⟩ (.string a.v.to)).setCell ⟨w.heap.size + 1 + 1, 3, none⟩ (.int .i64 a.v.place)).setCell ⟨w.heap.size + 1 + 1, 4, none⟩ (.slice A7 a.v.old.length c7)).setCell ⟨w.heap.size + 1 + 1, 5, none⟩ (.slice B7 a.v.new.length d7)) (w.heap.size + 1 + 1 + 1) (.int .i64 b.v.kind) (.string b.v.name) (.string b.v.to) (.int .i64 b.v.place) (.slice A8 b.v.old.length c8) (.slice B8 b.v.new.length d8); have HK2z := Lib.hid k2; have HK3z := Lib.hid k3; have HC2z := Lib.hid ((c2.set6 (.int .i64 a.v.kind) (.string a.v.name) (.string a.v.to) (.int .i64 a.v.place) (.slice A7 a.v.old.length c7) (.slice B7 a.v.new.length d7)).other k3 (by omega)); have HC3z := Lib.hid (c3.set6 (.int .i64 b.v.kind) (.string b.v.name) (.string b.v.to) (.int .i64 b.v.place) (.slice A8 b.v.old.length c8) (.slice B8 b.v.new.length d8)); clear k2 k3 c2 c3; have H8 : Hid (IsPr b.v w7 w8 (.slice A8 b.v.old.length c8) (.slice B8 b.v.new.length d8)) := hpr8.base (by first | exact Later.refl _ | exact (Later.refl _).drew | exact (Later.refl _).drewN _); have HU8 : Hid ((∀ k, (Value.slice A8 b.v.old.length c8).ownBlock = some k → w7.heap.size ≤ k) ∧ (∀ k, (Value.slice B8 b.v.new.length d8).ownBlock = some k → w7.heap.size ≤ k)) := ⟨H8.out.old.block, H8.out.new.block⟩; have HL8 := Lib.hid hlw; clear hpr8 hlw hr8 hs8 hcc8 hdd8) | (go_at_call 51; refine (HCA.out _ (Later.trans HL6.out (by first | exact Later.refl _ | exact (Later.refl _).drew | exact (Later.refl _).drewN _))).mono ?_; rintro e w7 ⟨u7, v7, rfl, hpr7⟩; obtain ⟨A7, c7, hv7, hcc7, hr7⟩ := hpr7.old.row; obtain ⟨B7, d7, hv7', hdd7, hs7⟩ := hpr7.new.row; subst hv7 hv7'; have hlw : Later w6 w7 := Later.trans (by first | exact Later.refl _ | exact (Later.refl _).drew | exact (Later.refl _).drewN _) hpr7.later; have H7 : Hid (IsPr a.v w6 w7 (.slice A7 a.v.old.length c7) (.slice B7 a.v.new.length d7)) := hpr7.base (by first | exact Later.refl _ | exact (Later.refl _).drew | exact (Later.refl _).drewN _); have HU7 : Hid ((∀ k, (Value.slice A7 a.v.old.length c7).ownBlock = some k → w6.heap.size ≤ k) ∧ (∀ k, (Value.slice B7 a.v.new.length d7).ownBlock = some k → w6.heap.size ≤ k)) := ⟨H7.out.old.block, H7.out.new.block⟩; have HL7 := Lib.hid hlw; have HC8 := Lib.hid (HC6.out.later hlw); have HC9 := Lib.hid (HC7.out.later hlw); obtain ⟨f0, f1, f2, f3, f4, f5⟩ := BoxAt.all (x := b) HC9.out; clear hpr7 hlw hr7 hs7 hcc7 hdd7))
  all_goals go_wp2
  all_goals
    have hle := HL7.out.le
    have l1 : Later w w7 := HL6.out.trans HL7.out
    have l2 : Later w w8 := l1.trans HL8.out
    have l3 := l2.turn HK2z.out (by omega)
    have l4 := l3.turn HK3z.out (by omega)
    have i1 := (((H7.out.base HL6.out).on HL8.out).off HK2z.out (fun k hk => by have := HU7.out.1 k hk; omega) (fun k hk => by have := HU7.out.2 k hk; omega) l3).off HK3z.out (fun k hk => by have := HU7.out.1 k hk; omega) (fun k hk => by have := HU7.out.2 k hk; omega) l4
    have i2 := ((H8.out.base l1).off HK2z.out (fun k hk => by have := HU8.out.1 k hk; omega) (fun k hk => by have := HU8.out.2 k hk; omega) l3).off HK3z.out (fun k hk => by have := HU8.out.1 k hk; omega) (fun k hk => by have := HU8.out.2 k hk; omega) l4
    have m1 := HAO.out.mild
    have m2 := HBO.out.mild
    obtain ⟨xa, ea1, ea2, ea3⟩ := i1.ok m1.omost m1.nmost m1.name m1.to m1.lo m1.hi m1.olds m1.news
    obtain ⟨xb, eb1, eb2, eb3⟩ := i2.ok m2.omost m2.nmost m2.name m2.to m2.lo m2.hi m2.olds m2.news
    exact bodyPost_ret (results_two rfl _ _ _ _ _ _ _ _ _ _ _ _ rfl rfl rfl HC2z.out HC3z.out Tryz.underlying69 rfl Tryz.primSize Tryz.primSize) rfl ⟨xa, xb, by rw [← ea2, ← eb2]; rfl, ea1, eb1, ea3, eb3, l4⟩

end Go.Proofs.YtomboeiaajggoaaGreat

/-
  What seq's clone comes to, as a call.
-/
namespace Go.Proofs.YtomboeiaajggoaaGreat
open Go.RowKit Go.Maps

/-- A prim whose rows lie behind all that was there. -/
theorem IsPr.fresh {w0 w : World} {x : PrC} (h : IsPr x.v w0 w (.slice x.A x.n x.c) (.slice x.B x.m x.d)) : Fresh w0 x := ⟨h.old.block, h.new.block⟩
/-- What Clone (or Invert) tells, as a prim that stands there. -/
theorem GivesPr.prim {p : Pr} {w w' : World} {e : Ending} (h : GivesPr p w e w') (hm : Mild p) : ∃ y : PrC, e = .returned (prV y) ∧ y.v = p ∧ PrOk w' y ∧ Fresh w y ∧ Later w w' := by
  obtain ⟨u, v, rfl, hp⟩ := h
  obtain ⟨A, c, rfl, hc, hr⟩ := hp.old.row
  obtain ⟨B, d, rfl, hd, hs⟩ := hp.new.row
  exact ⟨⟨p, A, _, c, B, _, d⟩, rfl, rfl, ⟨hr, hs, hc, hd, hm.omost, hm.nmost, hm.name, hm.to, hm.lo, hm.hi, hm.olds, hm.news⟩, ⟨hp.old.block, hp.new.block⟩, hp.later⟩
theorem Fresh.base {w0 w : World} {x : PrC} (h : Fresh w x) (hl : Later w0 w) : Fresh w0 x := ⟨fun k hk => Nat.le_trans hl.le (h.1 k hk), fun k hk => Nat.le_trans hl.le (h.2 k hk)⟩
theorem cloneP_any (x : PrC) (w : World) (hx : PrOk w x) : Calls Tryz.prog 51 #[prV x] w fun e w' => ∃ y : PrC, e = .returned (prV y) ∧ y.v = x.v ∧ PrOk w' y ∧ Fresh w y ∧ Later w w' :=
  (primClone_any x w hx).mono fun _ _ h => h.prim hx.mild
theorem invertP_any (x : PrC) (w : World) (hx : PrOk w x) : Calls Tryz.prog 79 #[prV x] w fun e w' => ∃ y : PrC, e = .returned (prV y) ∧ y.v = invertP x.v ∧ PrOk w' y ∧ Fresh w y ∧ Later w w' :=
  (primInvert_any x w hx).mono fun _ _ h => h.prim hx.mild.invert

/-- A row of its own of prims of its own. -/
def GivesC (l : List Pr) (w : World) (e : Ending) (w' : World) : Prop := ∃ v xs, e = .returned v ∧ OwnPs 69 w w' v xs ∧ valsP xs = l ∧ ∀ x ∈ xs, Fresh w x

set_option maxRecDepth 100000 in
set_option maxHeartbeats 800000 in
theorem clone5_any (A : Option Addr) (n c : Nat) (xs : List PrC) (w : World) (hx : PsOk w A n xs) (hn : n ≤ 65536) :
    Calls Tryz.prog 60 #[.slice A n c] w (GivesC (valsP xs) w) := by
  have HX := Lib.hid hx; clear hx
  obtain ⟨i0, hi, hz0, hz1, hz2⟩ := info_parts Tryz.primInfo
  go_enter Tryz.func60, Tryz.ntmps60
  go_wp2
  go_loopg [3, 8] (n + 1) (fun g s3 s8 wr => ∃ (k : Nat) (v : Value) (ys : List PrC), k ≤ n ∧ n - k ≤ g ∧ s8 = .int .i64 k ∧ s3 = v ∧ ys.length = k ∧ Hid (valsP ys = (valsP xs).take k) ∧ Hid (OwnPs 69 w wr v ys) ∧ Hid (∀ y ∈ ys, Fresh w y))
  case atStart => exact ⟨0, _, [], Nat.zero_le _, by omega, rfl, rfl, rfl, by simp [Hid, valsP], OwnPs.nil (Later.refl w), fun y hy => by cases hy⟩
  case round =>
    obtain ⟨k, v, ys, hk, hg, rfl, hv, hyl, hys, hown, hfr⟩ := hrel
    obtain rfl := hv.symm
    clear hv
    by_cases hlt : k < n
    · obtain ⟨b, o, x, rfl, hz, hok, g0, g1, g2, g3, g4, g5⟩ := (HX.out.later hown.out.later).get hlt
      have HLB : Hid (Later wr (wr.alloc (.cells #[.int .i64 x.v.kind, .string x.v.name, .string x.v.to, .int .i64 x.v.place, .slice x.A x.n x.c, .slice x.B x.m x.d] 69))) := (Later.refl wr).alloc _
      have HC := Lib.hid (cloneP_any x _ (hok.later HLB.out))
      have HTK := Lib.hid (valsP_take hz)
      clear hok hz
      unfold prV at HC
      go_wp2_with fail
      refine HC.out.mono ?_
      rintro e w2 ⟨y, rfl, hy, hoky, hfry, hl2⟩
      have HL2 := Lib.hid hl2; have HVY := Lib.hid hy; have HOK := Lib.hid hoky; have HFY := Lib.hid (hfry.base (hown.out.later.trans HLB.out))
      have HO1 := Lib.hid ((hown.out.on HLB.out).on hl2 |>.on ((Later.refl w2).alloc (.cells #[.int .i64 y.v.kind, .string y.v.name, .string y.v.to, .int .i64 y.v.place, .slice y.A y.n y.c, .slice y.B y.m y.d] 69)))
      have HAW : Hid (∀ z ∈ [y], ∀ g, v.ownBlock = some g → Away g z) := by
        intro z hz g hgb
        simp at hz; subst hz
        have h1 := hown.out.lt g hgb
        have h2 := HLB.out.le
        exact hfry.away (by omega)
      clear hl2 hy hoky hfry HC g0 g1 g2 g3 g4 g5
      go_wp2_with (at_builtin; refine wpList_append_ps rfl _ _ 28 rfl i0 _ 96 Tryz.underlying28 hi hz0 hz1 hz2 rfl HO1.out rfl _ _ _ [y] rfl (row_one _ _ _) (fun z hz => by simp at hz; subst hz; exact HOK.out.later6 _) HAW.out (by omega) (by omega) ?_; intro v4 w4 hown4 hg4; have HO4 := Lib.hid hown4; clear hown4 hg4)
      go_roundg (n - (k + 1))
      case measure => omega
      case rel =>
        exact ⟨k + 1, v4, ys ++ [y], by omega, Nat.le_refl _, by go_num, rfl, by simp; omega, by show valsP (ys ++ [y]) = _; rw [HTK.out, ← hys.out, ← HVY.out]; simp [valsP], HO4, fun z hz => by
          rcases List.mem_append.1 hz with h | h
          · exact hfr.out z h
          · simp at h; subst h; exact HFY.out⟩
    · have HE : Hid (valsP ys = valsP xs) := by
        have := hys.out
        rw [List.take_of_length_le (by rw [valsP_length, HX.out.len]; omega)] at this
        exact this
      go_wp2
      go_ret
      exact ⟨v, ys, rfl, hown.out, HE.out, hfr.out⟩

end Go.Proofs.YtomboeiaajggoaaGreat

/-
  Rows of prims as plain lists: when they are the same, how many lines they have, the trees that they make. Nothing of any program.
-/
namespace Go.Proofs.YtomboeiaajggoaaGreat
open Go.RowKit

/-- Are two rows the same? -/
def sameS : List Pr → List Pr → Bool
  | [], [] => true
  | p :: a, q :: b => sameP p q && sameS a b
  | _, _ => false
theorem sameS_iff : ∀ {a b : List Pr}, sameS a b = true ↔ a = b
  | [], [] => by simp [sameS]
  | [], q :: b => by simp [sameS]
  | p :: a, [] => by simp [sameS]
  | p :: a, q :: b => by simp only [sameS, Bool.and_eq_true, sameP_iff, sameS_iff (a := a) (b := b), List.cons.injEq]
theorem sameS_self (a : List Pr) : sameS a a = true := sameS_iff.2 rfl
theorem sameS_length {a b : List Pr} (h : a.length ≠ b.length) : sameS a b = false := by
  cases hs : sameS a b
  · rfl
  · exact absurd (congrArg List.length (sameS_iff.1 hs)) h
/-- They differ at a place. -/
theorem sameS_at {a b : List Pr} {k : Nat} {p q : Pr} (h1 : a[k]? = some p) (h2 : b[k]? = some q) (h : sameP p q = false) : sameS a b = false := by
  cases hs : sameS a b
  · rfl
  · rw [sameS_iff.1 hs, h2] at h1
    cases h1
    rw [sameP_self] at h
    cases h
/-- They are the same at all places. -/
theorem sameS_all {a b : List Pr} (hl : a.length = b.length) (h : ∀ (k : Nat) (p q : Pr), a[k]? = some p → b[k]? = some q → sameP p q = true) : sameS a b = true := by
  refine sameS_iff.2 (List.ext_getElem? fun k => ?_)
  rcases Nat.lt_or_ge k a.length with hk | hk
  · rw [List.getElem?_eq_getElem hk, List.getElem?_eq_getElem (by omega)]
    rw [sameP_iff.1 (h k _ _ (List.getElem?_eq_getElem hk) (List.getElem?_eq_getElem (by omega)))]
  · rw [List.getElem?_eq_none hk, List.getElem?_eq_none (by omega)]

/-- How many lines. -/
def linesS (l : List Pr) : Nat := (l.map fun p => p.old.length + p.new.length).sum
theorem linesS_nil : linesS [] = 0 := rfl
theorem linesS_cons (p : Pr) (l : List Pr) : linesS (p :: l) = p.old.length + p.new.length + linesS l := by simp [linesS]
theorem linesS_append (l m : List Pr) : linesS (l ++ m) = linesS l + linesS m := by simp [linesS]
theorem invert_lines (p : Pr) : (invertP p).old.length + (invertP p).new.length = p.old.length + p.new.length := by
  unfold invertP
  repeat' split
  all_goals first | rfl | (dsimp only; omega)
theorem linesS_invert (l : List Pr) : linesS (invertS l) = linesS l := by
  induction l with
  | nil => rfl
  | cons p l ih => rw [invertS_cons, linesS_append, ih, linesS_cons, linesS_cons, linesS_nil, invert_lines]; omega
theorem swap1_lines {p : Pr} {m : List Pr} {r : List Pr × Pr} (h : swap1 p m = some r) : linesS r.1 = linesS m ∧ r.2.old = p.old ∧ r.2.new = p.new := by
  induction m generalizing p r with
  | nil => cases h; exact ⟨rfl, rfl, rfl⟩
  | cons q m ih =>
    obtain ⟨q', p1, m', p', h1, h2, rfl⟩ := swap1_cons.1 h
    obtain ⟨k1, k2, k3⟩ := ih h2
    obtain ⟨-, e1, e2, -, -, e3, e4, -⟩ := swap_keeps h1
    dsimp only at k1 k2 k3 ⊢
    rw [linesS_cons, linesS_cons, e1, e2, k1]
    exact ⟨rfl, k2.trans e3, k3.trans e4⟩
theorem swapS_lines {l m a b : List Pr} (h : swapS l m = some (a, b)) : linesS a = linesS m ∧ linesS b = linesS l := by
  induction l generalizing a b with
  | nil => cases h; exact ⟨rfl, rfl⟩
  | cons p l ih =>
    obtain ⟨m1, l', m2, p', h1, h2, e⟩ := swapS_cons.1 h
    cases e
    obtain ⟨k1, k2⟩ := ih h1
    obtain ⟨j1, j2, j3⟩ := swap1_lines h2
    dsimp only at j1 j2 j3
    rw [linesS_cons, linesS_cons, j2, j3, k2, j1, k1]
    exact ⟨rfl, rfl⟩
theorem rebase_lines {l m a : List Pr} (h : rebaseS m l = some a) : linesS a = linesS m ∧ a.length = m.length := by
  obtain ⟨b, hb⟩ := rebase_iff.1 h
  exact ⟨(swapS_lines hb).1, (swapS_length hb).1⟩
theorem splitStep_lines (w : Bool) (s : List Pr × List Pr) (p : Pr) : linesS (splitStep w s p).1 + linesS (splitStep w s p).2 = linesS s.1 + linesS s.2 + linesS [p] ∧ (splitStep w s p).1.length + (splitStep w s p).2.length = s.1.length + s.2.length + 1 := by
  unfold splitStep
  cases hs : swapS s.2 [p] with
  | none => simp only [linesS_append, List.length_append, List.length_cons, List.length_nil]; omega
  | some r =>
    obtain ⟨a, b⟩ := r
    have h1 := swapS_lines hs
    have h2 := swapS_length hs
    simp only [List.length_cons, List.length_nil] at h2
    dsimp only
    split
    · simp only [linesS_append, List.length_append]; omega
    · simp only [linesS_append, List.length_append, List.length_cons, List.length_nil]; omega
theorem splitS_lines (wanted : Nat → Bool) (l : List Pr) (k : Nat) (s : List Pr × List Pr) : linesS (splitS wanted k s l).1 + linesS (splitS wanted k s l).2 = linesS s.1 + linesS s.2 + linesS l ∧ (splitS wanted k s l).1.length + (splitS wanted k s l).2.length = s.1.length + s.2.length + l.length := by
  induction l generalizing k s with
  | nil => exact ⟨rfl, rfl⟩
  | cons p l ih =>
    have h1 := ih (k + 1) (splitStep (wanted k) s p)
    have h2 := splitStep_lines (wanted k) s p
    simp only [splitS]
    rw [linesS_cons, linesS_nil] at h2
    rw [linesS_cons, List.length_cons]
    omega
/-- What stands behind k rounds. -/
theorem splitS_take (wanted : Nat → Bool) (l : List Pr) (j : Nat) (s : List Pr × List Pr) {k : Nat} {p : Pr} (h : l[k]? = some p) : splitS wanted j s (l.take (k + 1)) = splitStep (wanted (j + k)) (splitS wanted j s (l.take k)) p := by
  induction l generalizing j s k with
  | nil => simp at h
  | cons q l ih =>
    cases k with
    | zero => simp at h; subst h; simp [splitS]
    | succ k =>
      simp only [List.take_succ_cons, splitS]
      rw [ih (j + 1) _ (by simpa using h), show j + 1 + k = j + (k + 1) by omega]

/-- With an error the tree is as it was. -/
theorem apply_errS {t : Tr} {p : Pr} (h : (applyP t p).2 ≠ 0) : (applyP t p).1 = t := by
  revert h
  unfold applyP
  split
  · exact fun _ => rfl
  split
  · unfold hunkT
    split
    · exact fun _ => rfl
    · split
      · exact fun h => absurd rfl h
      · exact fun _ => rfl
  split
  · split
    · exact fun _ => rfl
    · exact fun h => absurd rfl h
  split
  · split
    · exact fun _ => rfl
    · split
      · exact fun _ => rfl
      · exact fun h => absurd rfl h
  · split
    · exact fun _ => rfl
    · split
      · exact fun _ => rfl
      · exact fun h => absurd rfl h

section
variable {k h : Nat} {t u : Tr} {l : List Pr}
theorem runS_sized (hs : Sized k h t) : Sized (k + l.length) (h + linesS l) (runS t l).1 := by
  induction l generalizing k h t with
  | nil => exact hs
  | cons p l ih =>
    have h1 := hs.apply p
    simp only [runS]
    split
    · exact (ih h1).mono (by simp; omega) (by rw [linesS_cons]; omega)
    · exact h1.mono (by simp) (by rw [linesS_cons]; omega)
theorem runS_snoc {p : Pr} (h : runS t l = (u, 0)) : runS t (l ++ [p]) = applyP u p := by
  induction l generalizing t with
  | nil =>
    simp only [runS, Prod.mk.injEq, and_true] at h
    subst h
    simp only [List.nil_append, runS]
    split
    · rename_i e; rw [Prod.ext_iff]; exact ⟨rfl, e.symm⟩
    · rfl
  | cons q l ih =>
    obtain ⟨s, h1, h2⟩ := runS_cons.1 h
    simp only [List.cons_append, runS, h1, if_true]
    exact ih h2
/-- The first error. -/
theorem runS_err {p : Pr} {m : List Pr} (h : runS t l = (u, 0)) (he : (applyP u p).2 ≠ 0) : runS t (l ++ p :: m) = applyP u p := by
  induction l generalizing t with
  | nil =>
    simp only [runS, Prod.mk.injEq, and_true] at h
    subst h
    simp only [List.nil_append, runS]
    rw [if_neg he]
  | cons q l ih =>
    obtain ⟨s, h1, h2⟩ := runS_cons.1 h
    simp only [List.cons_append, runS, h1, if_true]
    exact ih h2
theorem applyS_err {p : Pr} {m : List Pr} (h : runS t l = (u, 0)) (he : (applyP u p).2 ≠ 0) : applyS t (l ++ p :: m) = (t, (applyP u p).2) := by
  unfold applyS
  rw [runS_err h he, if_neg he]
end

end Go.Proofs.YtomboeiaajggoaaGreat

/-
  A prim behind a row, place by place; a row behind a row, from its last one on. Nothing of any program.
-/
namespace Go.Proofs.YtomboeiaajggoaaGreat
open Go.RowKit

theorem swap1_one (p q : Pr) : swap1 p [q] = (swapP p q).map fun s => ([s.1], s.2) := by
  simp only [swap1]
  cases swapP p q <;> rfl
theorem swap1_step {l : List Pr} {k : Nat} {p p1 q a b : Pr} {d : List Pr} (h : swap1 p (l.take k) = some (d, p1)) (hq : l[k]? = some q) (hs : swapP p1 q = some (a, b)) : swap1 p (l.take (k + 1)) = some (d ++ [a], b) := by
  obtain ⟨hk, rfl⟩ := List.getElem?_eq_some_iff.1 hq
  rw [List.take_succ_eq_append_getElem hk, swap1_append, h]
  simp [swap1_one, hs]
theorem swap1_stop {l : List Pr} {k : Nat} {p p1 q : Pr} {d : List Pr} (h : swap1 p (l.take k) = some (d, p1)) (hq : l[k]? = some q) (hs : swapP p1 q = none) : swap1 p l = none := by
  obtain ⟨hk, rfl⟩ := List.getElem?_eq_some_iff.1 hq
  have e : l = l.take k ++ (l[k] :: l.drop (k + 1)) := by rw [← List.drop_eq_getElem_cons hk, List.take_append_drop]
  rw [e, swap1_append, h]
  simp [swap1, hs]
/-- The last ones, from place k on, behind m. -/
theorem swapS_step {l m a b m2 : List Pr} {k : Nat} {p p' : Pr} (h : swapS (l.drop (k + 1)) m = some (a, b)) (hp : l[k]? = some p) (hs : swap1 p a = some (m2, p')) : swapS (l.drop k) m = some (m2, p' :: b) := by
  obtain ⟨hk, rfl⟩ := List.getElem?_eq_some_iff.1 hp
  rw [List.drop_eq_getElem_cons hk]
  exact swapS_cons.2 ⟨a, b, m2, p', h, hs, rfl⟩
theorem swapS_stop {l m a b : List Pr} {k : Nat} {p : Pr} (h : swapS (l.drop (k + 1)) m = some (a, b)) (hp : l[k]? = some p) (hs : swap1 p a = none) : swapS l m = none := by
  obtain ⟨hk, rfl⟩ := List.getElem?_eq_some_iff.1 hp
  have e : l = l.take k ++ (l[k] :: l.drop (k + 1)) := by rw [← List.drop_eq_getElem_cons hk, List.take_append_drop]
  rw [e, swapS_append_left]
  simp only [swapS, h, Option.bind_some, hs, Option.map_none, Option.bind_none]

end Go.Proofs.YtomboeiaajggoaaGreat
