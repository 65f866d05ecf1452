import Derived.Test.YtalgapoigkbiaaaPk9
import Derived.Test.YtalgapoigkbiaaaPk11
import Derived.Test.YtalgapoigkbiaaaPk4

/-
  What swap's Swap comes to, as a call: what it tells lies behind all that was there.
-/
namespace Go.Proofs.Ytalgapoigkbiaaa
open Go.RowKit Go.Maps

/-- Two prims, behind all that was there, and a Bool. -/
def GivesF (r : Pr × Pr × Bool) (w : World) (e : Ending) (w' : World) : Prop :=
  ∃ a b : PrC, e = .returned (.tuple #[prV a, prV b, .bool r.2.2]) ∧ a.v = r.1 ∧ b.v = r.2.1 ∧ PrOk w' a ∧ PrOk w' b ∧ Fresh w a ∧ Fresh w b ∧ Later w w'
theorem fresh_zero (w : World) : Fresh w zeroC := ⟨(fun k h => by cases h), (fun k h => by cases h)⟩

set_option maxRecDepth 100000 in
set_option maxHeartbeats 1600000 in
theorem swap_fresh (x y : PrC) (w : World) (hx : PrOk w x) (hy : PrOk w y) :
    Calls Try.prog 12 #[prV x, prV y] w (GivesF (swapR (swapP x.v y.v)) w) := by
  obtain ⟨b0, b1, b2, b3, hl⟩ := four_boxes w #[.int .i64 x.v.kind, .string x.v.name, .string x.v.to, .int .i64 x.v.place, .slice x.A x.n x.c, .slice x.B x.m x.d] #[.int .i64 y.v.kind, .string y.v.name, .string y.v.to, .int .i64 y.v.place, .slice y.A y.n y.c, .slice y.B y.m y.d] #[.int .i64 0, .string ⟨#[]⟩, .string ⟨#[]⟩, .int .i64 0, .slice none 0 0, .slice none 0 0] #[.int .i64 0, .string ⟨#[]⟩, .string ⟨#[]⟩, .int .i64 0, .slice none 0 0, .slice none 0 0] 27
  have HR1 := Lib.hid (fun (w' : World) (h : Later w w') => primRight_any x w' (hx.later h))
  have HR2 := Lib.hid (fun (w' : World) (h : Later w w') => primRight_any y w' (hy.later h))
  have HTN := Lib.hid (fun (hp : rightP x.v = true) (hq : rightP y.v = true) (w' : World) (h : Later w w') => turn_any x y w' (hx.later h) (hy.later h) hp hq)
  have HX := Lib.hid hx; have HY := Lib.hid hy
  clear hx hy
  unfold prV at HR1 HR2 HTN ⊢
  cases hp : rightP x.v
  · rw [swapR_none (swapP_not _ _ (by simp [hp]))]
    rw [hp] at HR1
    clear HR2 HTN hp
    go_enter Try.func12, Try.ntmps12
    go_wp2_with fail
    refine (HR1.out _ hl).mono ?_
    generalize (((w.alloc (.cells #[.int .i64 x.v.kind, .string x.v.name, .string x.v.to, .int .i64 x.v.place, .slice x.A x.n x.c, .slice x.B x.m x.d] 27)).alloc (.cells #[.int .i64 y.v.kind, .string y.v.name, .string y.v.to, .int .i64 y.v.place, .slice y.A y.n y.c, .slice y.B y.m y.d] 27)).alloc (.cells #[.int .i64 0, .string ⟨#[]⟩, .string ⟨#[]⟩, .int .i64 0, .slice none 0 0, .slice none 0 0] 27)).alloc (.cells #[.int .i64 0, .string ⟨#[]⟩, .string ⟨#[]⟩, .int .i64 0, .slice none 0 0, .slice none 0 0] 27) = wb at b0 b1 b2 b3 hl ⊢
    rintro e w1 ⟨rfl, hlw⟩
    have hsz := b3.lt
    have c2 := b2.later hlw
    have u0 := c2.cell (i := 0) rfl; have u1 := c2.cell (i := 1) rfl; have u2 := c2.cell (i := 2) rfl; have u3 := c2.cell (i := 3) rfl; have u4 := c2.cell (i := 4) rfl; have u5 := c2.cell (i := 5) rfl
    have v0 := c2.frozen 0; have v1 := c2.frozen 1; have v2 := c2.frozen 2; have v3 := c2.frozen 3; have v4 := c2.frozen 4; have v5 := c2.frozen 5
    have k2 := turned_set6 w1 (w.heap.size + 1 + 1) (.int .i64 0) (.string ⟨#[]⟩) (.string ⟨#[]⟩) (.int .i64 0) (.slice none 0 0) (.slice none 0 0)
    have c3 := (b3.later hlw).other k2 (by omega)
    have r0 := c3.cell (i := 0) rfl; have r1 := c3.cell (i := 1) rfl; have r2 := c3.cell (i := 2) rfl; have r3 := c3.cell (i := 3) rfl; have r4 := c3.cell (i := 4) rfl; have r5 := c3.cell (i := 5) rfl
    have t0 := c3.frozen 0; have t1 := c3.frozen 1; have t2 := c3.frozen 2; have t3 := c3.frozen 3; have t4 := c3.frozen 4; have t5 := c3.frozen 5
    have k3 := turned_set6 ((((((w1.setCell ⟨w.heap.size + 1 + 1, 0, none⟩ (.int .i64 0)).setCell ⟨w.heap.size + 1 + 1, 1, none⟩ (.string ⟨#[]⟩)).setCell ⟨w.heap.size + 1 + 1, 2, none⟩ (.string ⟨#[]⟩)).setCell ⟨w.heap.size + 1 + 1, 3, none⟩ (.int .i64 0)).setCell ⟨w.heap.size + 1 + 1, 4, none⟩ (.slice none 0 0)).setCell ⟨w.heap.size + 1 + 1, 5, none⟩ (.slice none 0 0)) (w.heap.size + 1 + 1 + 1) (.int .i64 0) (.string ⟨#[]⟩) (.string ⟨#[]⟩) (.int .i64 0) (.slice none 0 0) (.slice none 0 0)
    have HK2z := Lib.hid k2; have HK3z := Lib.hid k3; have HC2z := Lib.hid ((c2.set6 (.int .i64 0) (.string ⟨#[]⟩) (.string ⟨#[]⟩) (.int .i64 0) (.slice none 0 0) (.slice none 0 0)).other k3 (by omega)); have HC3z := Lib.hid (c3.set6 (.int .i64 0) (.string ⟨#[]⟩) (.string ⟨#[]⟩) (.int .i64 0) (.slice none 0 0) (.slice none 0 0))
    clear k2 k3 c2 c3
    have HL := Lib.hid (hl.trans hlw)
    clear b0 b1 b2 b3 hl hlw HR1
    go_wp2
    exact bodyPost_ret (results_two rfl _ _ _ _ _ _ _ _ _ _ _ _ rfl rfl rfl HC2z.out HC3z.out Try.underlying27 rfl Try.primSize Try.primSize) rfl
      ⟨zeroC, zeroC, rfl, rfl, rfl, zeroC_ok _, zeroC_ok _, fresh_zero w, fresh_zero w, ((HL.out).turn HK2z.out (by omega)).turn HK3z.out (by omega)⟩
  cases hq : rightP y.v
  · rw [swapR_none (swapP_not _ _ (by simp [hq]))]
    rw [hp] at HR1
    rw [hq] at HR2
    clear HTN hp hq
    go_enter Try.func12, Try.ntmps12
    go_wp2_with fail
    refine (HR1.out _ hl).mono ?_
    generalize (((w.alloc (.cells #[.int .i64 x.v.kind, .string x.v.name, .string x.v.to, .int .i64 x.v.place, .slice x.A x.n x.c, .slice x.B x.m x.d] 27)).alloc (.cells #[.int .i64 y.v.kind, .string y.v.name, .string y.v.to, .int .i64 y.v.place, .slice y.A y.n y.c, .slice y.B y.m y.d] 27)).alloc (.cells #[.int .i64 0, .string ⟨#[]⟩, .string ⟨#[]⟩, .int .i64 0, .slice none 0 0, .slice none 0 0] 27)).alloc (.cells #[.int .i64 0, .string ⟨#[]⟩, .string ⟨#[]⟩, .int .i64 0, .slice none 0 0, .slice none 0 0] 27) = wb at b0 b1 b2 b3 hl ⊢
    rintro e w1 ⟨rfl, hlw⟩
    have hsz := b3.lt
    obtain ⟨q0, q1, q2, q3, q4, q5⟩ := BoxAt.all (x := y) (b1.later hlw)
    have HB2 := Lib.hid (b2.later hlw); have HB3 := Lib.hid (b3.later hlw); have HL1 := Lib.hid (hl.trans hlw)
    clear b0 b1 b2 b3 hl hlw HR1
    go_wp2_with fail
    refine (HR2.out _ HL1.out).mono ?_
    rintro e w2 ⟨rfl, hlw⟩
    clear q0 q1 q2 q3 q4 q5
    have c2 := HB2.out.later hlw
    have u0 := c2.cell (i := 0) rfl; have u1 := c2.cell (i := 1) rfl; have u2 := c2.cell (i := 2) rfl; have u3 := c2.cell (i := 3) rfl; have u4 := c2.cell (i := 4) rfl; have u5 := c2.cell (i := 5) rfl
    have v0 := c2.frozen 0; have v1 := c2.frozen 1; have v2 := c2.frozen 2; have v3 := c2.frozen 3; have v4 := c2.frozen 4; have v5 := c2.frozen 5
    have k2 := turned_set6 w2 (w.heap.size + 1 + 1) (.int .i64 0) (.string ⟨#[]⟩) (.string ⟨#[]⟩) (.int .i64 0) (.slice none 0 0) (.slice none 0 0)
    have c3 := (HB3.out.later hlw).other k2 (by omega)
    have r0 := c3.cell (i := 0) rfl; have r1 := c3.cell (i := 1) rfl; have r2 := c3.cell (i := 2) rfl; have r3 := c3.cell (i := 3) rfl; have r4 := c3.cell (i := 4) rfl; have r5 := c3.cell (i := 5) rfl
    have t0 := c3.frozen 0; have t1 := c3.frozen 1; have t2 := c3.frozen 2; have t3 := c3.frozen 3; have t4 := c3.frozen 4; have t5 := c3.frozen 5
    have k3 := turned_set6 ((((((w2.setCell ⟨w.heap.size + 1 + 1, 0, none⟩ (.int .i64 0)).setCell ⟨w.heap.size + 1 + 1, 1, none⟩ (.string ⟨#[]⟩)).setCell ⟨w.heap.size + 1 + 1, 2, none⟩ (.string ⟨#[]⟩)).setCell ⟨w.heap.size + 1 + 1, 3, none⟩ (.int .i64 0)).setCell ⟨w.heap.size + 1 + 1, 4, none⟩ (.slice none 0 0)).setCell ⟨w.heap.size + 1 + 1, 5, none⟩ (.slice none 0 0)) (w.heap.size + 1 + 1 + 1) (.int .i64 0) (.string ⟨#[]⟩) (.string ⟨#[]⟩) (.int .i64 0) (.slice none 0 0) (.slice none 0 0)
    have HK2z := Lib.hid k2; have HK3z := Lib.hid k3; have HC2z := Lib.hid ((c2.set6 (.int .i64 0) (.string ⟨#[]⟩) (.string ⟨#[]⟩) (.int .i64 0) (.slice none 0 0) (.slice none 0 0)).other k3 (by omega)); have HC3z := Lib.hid (c3.set6 (.int .i64 0) (.string ⟨#[]⟩) (.string ⟨#[]⟩) (.int .i64 0) (.slice none 0 0) (.slice none 0 0))
    clear k2 k3 c2 c3
    have HL := Lib.hid (HL1.out.trans hlw)
    clear hlw HR2
    go_wp2
    exact bodyPost_ret (results_two rfl _ _ _ _ _ _ _ _ _ _ _ _ rfl rfl rfl HC2z.out HC3z.out Try.underlying27 rfl Try.primSize Try.primSize) rfl
      ⟨zeroC, zeroC, rfl, rfl, rfl, zeroC_ok _, zeroC_ok _, fresh_zero w, fresh_zero w, ((HL.out).turn HK2z.out (by omega)).turn HK3z.out (by omega)⟩
  rw [hp] at HR1
  rw [hq] at HR2
  generalize hR : swapR (swapP x.v y.v) = R
  have HRR := Lib.hid hR
  clear hR
  go_enter Try.func12, Try.ntmps12
  go_wp2_with fail
  refine (HR1.out _ hl).mono ?_
  generalize (((w.alloc (.cells #[.int .i64 x.v.kind, .string x.v.name, .string x.v.to, .int .i64 x.v.place, .slice x.A x.n x.c, .slice x.B x.m x.d] 27)).alloc (.cells #[.int .i64 y.v.kind, .string y.v.name, .string y.v.to, .int .i64 y.v.place, .slice y.A y.n y.c, .slice y.B y.m y.d] 27)).alloc (.cells #[.int .i64 0, .string ⟨#[]⟩, .string ⟨#[]⟩, .int .i64 0, .slice none 0 0, .slice none 0 0] 27)).alloc (.cells #[.int .i64 0, .string ⟨#[]⟩, .string ⟨#[]⟩, .int .i64 0, .slice none 0 0, .slice none 0 0] 27) = wb at b0 b1 b2 b3 hl ⊢
  rintro e w1 ⟨rfl, hlw⟩
  have hsz := b3.lt
  obtain ⟨q0, q1, q2, q3, q4, q5⟩ := BoxAt.all (x := y) (b1.later hlw)
  have HB0 := Lib.hid (b0.later hlw); have HB1 := Lib.hid (b1.later hlw); have HB2 := Lib.hid (b2.later hlw); have HB3 := Lib.hid (b3.later hlw); have HL1 := Lib.hid (hl.trans hlw)
  clear b0 b1 b2 b3 hl hlw HR1
  go_wp2_with fail
  refine (HR2.out _ HL1.out).mono ?_
  rintro e w2 ⟨rfl, hlw⟩
  clear q0 q1 q2 q3 q4 q5
  obtain ⟨p0, p1, p2, p3, p4, p5⟩ := BoxAt.all (x := x) (HB0.out.later hlw)
  obtain ⟨q0, q1, q2, q3, q4, q5⟩ := BoxAt.all (x := y) (HB1.out.later hlw)
  have hlt2 := (HB3.out.later hlw).lt
  have HB4 := Lib.hid (HB2.out.later hlw); have HB5 := Lib.hid (HB3.out.later hlw); have HL2 := Lib.hid (HL1.out.trans hlw)
  clear hlw HR2
  go_wp2_with fail
  refine (HTN.out hp hq _ HL2.out).mono ?_
  rintro e w3 ⟨a, b, rfl, ha, hb, hao, hlw⟩
  clear p0 p1 p2 p3 p4 p5 q0 q1 q2 q3 q4 q5 HTN HB0 HB1 HB2 HB3
  have hsw : R = swapR (heedP (a.v, b.v, (turnP x.v y.v).2.2)) := by rw [← HRR.out, heed_of hp hq ha hb rfl]
  have HSW := Lib.hid hsw
  clear hsw
  generalize (turnP x.v y.v).2.2 = t at HSW ⊢
  clear ha hb HRR
  obtain ⟨hao1, hbo1⟩ := hao w HX.out HY.out
  have HAO := Lib.hid hao1; have HBO := Lib.hid hbo1
  clear hao hao1 hbo1 hp hq HX HY
  have c2 := HB4.out.later hlw
  have u0 := c2.cell (i := 0) rfl; have u1 := c2.cell (i := 1) rfl; have u2 := c2.cell (i := 2) rfl; have u3 := c2.cell (i := 3) rfl; have u4 := c2.cell (i := 4) rfl; have u5 := c2.cell (i := 5) rfl
  have v0 := c2.frozen 0; have v1 := c2.frozen 1; have v2 := c2.frozen 2; have v3 := c2.frozen 3; have v4 := c2.frozen 4; have v5 := c2.frozen 5
  have k2 := turned_set6 w3 (w.heap.size + 1 + 1) (.int .i64 a.v.kind) (.string a.v.name) (.string a.v.to) (.int .i64 a.v.place) (.slice a.A a.n a.c) (.slice a.B a.m a.d)
  have c3 := (HB5.out.later hlw).other k2 (by omega)
  have r0 := c3.cell (i := 0) rfl; have r1 := c3.cell (i := 1) rfl; have r2 := c3.cell (i := 2) rfl; have r3 := c3.cell (i := 3) rfl; have r4 := c3.cell (i := 4) rfl; have r5 := c3.cell (i := 5) rfl
  have t0 := c3.frozen 0; have t1 := c3.frozen 1; have t2 := c3.frozen 2; have t3 := c3.frozen 3; have t4 := c3.frozen 4; have t5 := c3.frozen 5
  have k3 := turned_set6 ((((((w3.setCell ⟨w.heap.size + 1 + 1, 0, none⟩ (.int .i64 a.v.kind)).setCell ⟨w.heap.size + 1 + 1, 1, none⟩ (.string a.v.name)).setCell ⟨w.heap.size + 1 + 1, 2, none⟩ (.string a.v.to)).setCell ⟨w.heap.size + 1 + 1, 3, none⟩ (.int .i64 a.v.place)).setCell ⟨w.heap.size + 1 + 1, 4, none⟩ (.slice a.A a.n a.c)).setCell ⟨w.heap.size + 1 + 1, 5, none⟩ (.slice a.B a.m a.d)) (w.heap.size + 1 + 1 + 1) (.int .i64 b.v.kind) (.string b.v.name) (.string b.v.to) (.int .i64 b.v.place) (.slice b.A b.n b.c) (.slice b.B b.m b.d)
  have HK2 := Lib.hid k2; have HK3 := Lib.hid k3; have HC2 := Lib.hid ((c2.set6 (.int .i64 a.v.kind) (.string a.v.name) (.string a.v.to) (.int .i64 a.v.place) (.slice a.A a.n a.c) (.slice a.B a.m a.d)).other k3 (by omega)); have HC3 := Lib.hid (c3.set6 (.int .i64 b.v.kind) (.string b.v.name) (.string b.v.to) (.int .i64 b.v.place) (.slice b.A b.n b.c) (.slice b.B b.m b.d))
  clear k2 k3 c2 c3
  have HL3 := Lib.hid (((HL2.out.trans hlw).turn HK2.out (by omega)).turn HK3.out (by omega))
  clear hlw HK2 HK3 HB4 HB5
  unfold prV
  go_upto_region 4 with fail
  generalize (((((((((((w3.setCell ⟨w.heap.size + 1 + 1, 0, none⟩ (.int .i64 a.v.kind)).setCell ⟨w.heap.size + 1 + 1, 1, none⟩ (.string a.v.name)).setCell ⟨w.heap.size + 1 + 1, 2, none⟩ (.string a.v.to)).setCell ⟨w.heap.size + 1 + 1, 3, none⟩ (.int .i64 a.v.place)).setCell ⟨w.heap.size + 1 + 1, 4, none⟩ (.slice a.A a.n a.c)).setCell ⟨w.heap.size + 1 + 1, 5, none⟩ (.slice a.B a.m a.d)).setCell ⟨w.heap.size + 1 + 1 + 1, 0, none⟩ (.int .i64 b.v.kind)).setCell ⟨w.heap.size + 1 + 1 + 1, 1, none⟩ (.string b.v.name)).setCell ⟨w.heap.size + 1 + 1 + 1, 2, none⟩ (.string b.v.to)).setCell ⟨w.heap.size + 1 + 1 + 1, 3, none⟩ (.int .i64 b.v.place)).setCell ⟨w.heap.size + 1 + 1 + 1, 4, none⟩ (.slice b.A b.n b.c)).setCell ⟨w.heap.size + 1 + 1 + 1, 5, none⟩ (.slice b.B b.m b.d) = w4 at HC2 HC3 HL3 ⊢
  clear u0 u1 u2 u3 u4 u5 v0 v1 v2 v3 v4 v5 r0 r1 r2 r3 r4 r5 t0 t1 t2 t3 t4 t5
  have HRA := Lib.hid (fun (w' : World) (h : Later w w') => primRight_any a w' (HAO.out.later h))
  have HRB := Lib.hid (fun (w' : World) (h : Later w w') => primRight_any b w' (HBO.out.later h))
  unfold prV at HRA HRB
  cases t
  · obtain rfl : R = noneP := by rw [HSW.out, heed_false]; rfl
    clear HSW HRA HRB
    have c2 := HC2.out
    have u0 := c2.cell (i := 0) rfl; have u1 := c2.cell (i := 1) rfl; have u2 := c2.cell (i := 2) rfl; have u3 := c2.cell (i := 3) rfl; have u4 := c2.cell (i := 4) rfl; have u5 := c2.cell (i := 5) rfl
    have v0 := c2.frozen 0; have v1 := c2.frozen 1; have v2 := c2.frozen 2; have v3 := c2.frozen 3; have v4 := c2.frozen 4; have v5 := c2.frozen 5
    have k2 := turned_set6 w4 (w.heap.size + 1 + 1) (.int .i64 0) (.string ⟨#[]⟩) (.string ⟨#[]⟩) (.int .i64 0) (.slice none 0 0) (.slice none 0 0)
    have c3 := (HC3.out).other k2 (by omega)
    have r0 := c3.cell (i := 0) rfl; have r1 := c3.cell (i := 1) rfl; have r2 := c3.cell (i := 2) rfl; have r3 := c3.cell (i := 3) rfl; have r4 := c3.cell (i := 4) rfl; have r5 := c3.cell (i := 5) rfl
    have t0 := c3.frozen 0; have t1 := c3.frozen 1; have t2 := c3.frozen 2; have t3 := c3.frozen 3; have t4 := c3.frozen 4; have t5 := c3.frozen 5
    have k3 := turned_set6 ((((((w4.setCell ⟨w.heap.size + 1 + 1, 0, none⟩ (.int .i64 0)).setCell ⟨w.heap.size + 1 + 1, 1, none⟩ (.string ⟨#[]⟩)).setCell ⟨w.heap.size + 1 + 1, 2, none⟩ (.string ⟨#[]⟩)).setCell ⟨w.heap.size + 1 + 1, 3, none⟩ (.int .i64 0)).setCell ⟨w.heap.size + 1 + 1, 4, none⟩ (.slice none 0 0)).setCell ⟨w.heap.size + 1 + 1, 5, none⟩ (.slice none 0 0)) (w.heap.size + 1 + 1 + 1) (.int .i64 0) (.string ⟨#[]⟩) (.string ⟨#[]⟩) (.int .i64 0) (.slice none 0 0) (.slice none 0 0)
    have HK2z := Lib.hid k2; have HK3z := Lib.hid k3; have HC2z := Lib.hid ((c2.set6 (.int .i64 0) (.string ⟨#[]⟩) (.string ⟨#[]⟩) (.int .i64 0) (.slice none 0 0) (.slice none 0 0)).other k3 (by omega)); have HC3z := Lib.hid (c3.set6 (.int .i64 0) (.string ⟨#[]⟩) (.string ⟨#[]⟩) (.int .i64 0) (.slice none 0 0) (.slice none 0 0))
    clear k2 k3 c2 c3
    go_wp2
    exact bodyPost_ret (results_two rfl _ _ _ _ _ _ _ _ _ _ _ _ rfl rfl rfl HC2z.out HC3z.out Try.underlying27 rfl Try.primSize Try.primSize) rfl
      ⟨zeroC, zeroC, rfl, rfl, rfl, zeroC_ok _, zeroC_ok _, fresh_zero w, fresh_zero w, ((HL3.out).turn HK2z.out (by omega)).turn HK3z.out (by omega)⟩
  obtain ⟨y0, y1, y2, y3, y4, y5⟩ := BoxAt.all (x := a) HC2.out
  cases ha : rightP a.v
  · obtain rfl : R = noneP := by rw [HSW.out]; simp [heedP, ha, swapR]
    rw [ha] at HRA
    clear HSW HRB ha
    go_wp2_with fail
    refine (HRA.out _ HL3.out).mono ?_
    rintro e w5 ⟨rfl, hlw⟩
    clear y0 y1 y2 y3 y4 y5
    have c2 := HC2.out.later hlw
    have u0 := c2.cell (i := 0) rfl; have u1 := c2.cell (i := 1) rfl; have u2 := c2.cell (i := 2) rfl; have u3 := c2.cell (i := 3) rfl; have u4 := c2.cell (i := 4) rfl; have u5 := c2.cell (i := 5) rfl
    have v0 := c2.frozen 0; have v1 := c2.frozen 1; have v2 := c2.frozen 2; have v3 := c2.frozen 3; have v4 := c2.frozen 4; have v5 := c2.frozen 5
    have k2 := turned_set6 w5 (w.heap.size + 1 + 1) (.int .i64 0) (.string ⟨#[]⟩) (.string ⟨#[]⟩) (.int .i64 0) (.slice none 0 0) (.slice none 0 0)
    have c3 := (HC3.out.later hlw).other k2 (by omega)
    have r0 := c3.cell (i := 0) rfl; have r1 := c3.cell (i := 1) rfl; have r2 := c3.cell (i := 2) rfl; have r3 := c3.cell (i := 3) rfl; have r4 := c3.cell (i := 4) rfl; have r5 := c3.cell (i := 5) rfl
    have t0 := c3.frozen 0; have t1 := c3.frozen 1; have t2 := c3.frozen 2; have t3 := c3.frozen 3; have t4 := c3.frozen 4; have t5 := c3.frozen 5
    have k3 := turned_set6 ((((((w5.setCell ⟨w.heap.size + 1 + 1, 0, none⟩ (.int .i64 0)).setCell ⟨w.heap.size + 1 + 1, 1, none⟩ (.string ⟨#[]⟩)).setCell ⟨w.heap.size + 1 + 1, 2, none⟩ (.string ⟨#[]⟩)).setCell ⟨w.heap.size + 1 + 1, 3, none⟩ (.int .i64 0)).setCell ⟨w.heap.size + 1 + 1, 4, none⟩ (.slice none 0 0)).setCell ⟨w.heap.size + 1 + 1, 5, none⟩ (.slice none 0 0)) (w.heap.size + 1 + 1 + 1) (.int .i64 0) (.string ⟨#[]⟩) (.string ⟨#[]⟩) (.int .i64 0) (.slice none 0 0) (.slice none 0 0)
    have HK2z := Lib.hid k2; have HK3z := Lib.hid k3; have HC2z := Lib.hid ((c2.set6 (.int .i64 0) (.string ⟨#[]⟩) (.string ⟨#[]⟩) (.int .i64 0) (.slice none 0 0) (.slice none 0 0)).other k3 (by omega)); have HC3z := Lib.hid (c3.set6 (.int .i64 0) (.string ⟨#[]⟩) (.string ⟨#[]⟩) (.int .i64 0) (.slice none 0 0) (.slice none 0 0))
    clear k2 k3 c2 c3
    have HL := Lib.hid (HL3.out.trans hlw)
    clear hlw HRA
    go_wp2
    exact bodyPost_ret (results_two rfl _ _ _ _ _ _ _ _ _ _ _ _ rfl rfl rfl HC2z.out HC3z.out Try.underlying27 rfl Try.primSize Try.primSize) rfl
      ⟨zeroC, zeroC, rfl, rfl, rfl, zeroC_ok _, zeroC_ok _, fresh_zero w, fresh_zero w, ((HL.out).turn HK2z.out (by omega)).turn HK3z.out (by omega)⟩
  rw [ha] at HRA
  cases hb : rightP b.v
  · obtain rfl : R = noneP := by rw [HSW.out]; simp [heedP, hb, swapR]
    rw [hb] at HRB
    clear HSW ha hb
    go_wp2_with fail
    refine (HRA.out _ HL3.out).mono ?_
    rintro e w5 ⟨rfl, hlw⟩
    clear y0 y1 y2 y3 y4 y5
    have HC4 := Lib.hid (HC2.out.later hlw); have HC5 := Lib.hid (HC3.out.later hlw); have HL5 := Lib.hid (HL3.out.trans hlw)
    obtain ⟨z0, z1, z2, z3, z4, z5⟩ := BoxAt.all (x := b) HC5.out
    clear hlw HRA
    go_wp2_with fail
    refine (HRB.out _ HL5.out).mono ?_
    rintro e w6 ⟨rfl, hlw⟩
    clear z0 z1 z2 z3 z4 z5
    have c2 := HC4.out.later hlw
    have u0 := c2.cell (i := 0) rfl; have u1 := c2.cell (i := 1) rfl; have u2 := c2.cell (i := 2) rfl; have u3 := c2.cell (i := 3) rfl; have u4 := c2.cell (i := 4) rfl; have u5 := c2.cell (i := 5) rfl
    have v0 := c2.frozen 0; have v1 := c2.frozen 1; have v2 := c2.frozen 2; have v3 := c2.frozen 3; have v4 := c2.frozen 4; have v5 := c2.frozen 5
    have k2 := turned_set6 w6 (w.heap.size + 1 + 1) (.int .i64 0) (.string ⟨#[]⟩) (.string ⟨#[]⟩) (.int .i64 0) (.slice none 0 0) (.slice none 0 0)
    have c3 := (HC5.out.later hlw).other k2 (by omega)
    have r0 := c3.cell (i := 0) rfl; have r1 := c3.cell (i := 1) rfl; have r2 := c3.cell (i := 2) rfl; have r3 := c3.cell (i := 3) rfl; have r4 := c3.cell (i := 4) rfl; have r5 := c3.cell (i := 5) rfl
    have t0 := c3.frozen 0; have t1 := c3.frozen 1; have t2 := c3.frozen 2; have t3 := c3.frozen 3; have t4 := c3.frozen 4; have t5 := c3.frozen 5
    have k3 := turned_set6 ((((((w6.setCell ⟨w.heap.size + 1 + 1, 0, none⟩ (.int .i64 0)).setCell ⟨w.heap.size + 1 + 1, 1, none⟩ (.string ⟨#[]⟩)).setCell ⟨w.heap.size + 1 + 1, 2, none⟩ (.string ⟨#[]⟩)).setCell ⟨w.heap.size + 1 + 1, 3, none⟩ (.int .i64 0)).setCell ⟨w.heap.size + 1 + 1, 4, none⟩ (.slice none 0 0)).setCell ⟨w.heap.size + 1 + 1, 5, none⟩ (.slice none 0 0)) (w.heap.size + 1 + 1 + 1) (.int .i64 0) (.string ⟨#[]⟩) (.string ⟨#[]⟩) (.int .i64 0) (.slice none 0 0) (.slice none 0 0)
    have HK2z := Lib.hid k2; have HK3z := Lib.hid k3; have HC2z := Lib.hid ((c2.set6 (.int .i64 0) (.string ⟨#[]⟩) (.string ⟨#[]⟩) (.int .i64 0) (.slice none 0 0) (.slice none 0 0)).other k3 (by omega)); have HC3z := Lib.hid (c3.set6 (.int .i64 0) (.string ⟨#[]⟩) (.string ⟨#[]⟩) (.int .i64 0) (.slice none 0 0) (.slice none 0 0))
    clear k2 k3 c2 c3
    have HL := Lib.hid (HL5.out.trans hlw)
    clear hlw HRB
    go_wp2
    exact bodyPost_ret (results_two rfl _ _ _ _ _ _ _ _ _ _ _ _ rfl rfl rfl HC2z.out HC3z.out Try.underlying27 rfl Try.primSize Try.primSize) rfl
      ⟨zeroC, zeroC, rfl, rfl, rfl, zeroC_ok _, zeroC_ok _, fresh_zero w, fresh_zero w, ((HL.out).turn HK2z.out (by omega)).turn HK3z.out (by omega)⟩
  obtain rfl : R = (a.v, b.v, true) := by rw [HSW.out]; simp [heedP, ha, hb, swapR]
  rw [hb] at HRB
  clear HSW ha hb
  go_wp2_with fail
  refine (HRA.out _ HL3.out).mono ?_
  rintro e w5 ⟨rfl, hlw⟩
  clear y0 y1 y2 y3 y4 y5
  have HC4 := Lib.hid (HC2.out.later hlw); have HC5 := Lib.hid (HC3.out.later hlw); have HL5 := Lib.hid (HL3.out.trans hlw)
  obtain ⟨z0, z1, z2, z3, z4, z5⟩ := BoxAt.all (x := b) HC5.out
  clear hlw HRA
  go_wp2_with fail
  refine (HRB.out _ HL5.out).mono ?_
  rintro e w6 ⟨rfl, hlw⟩
  clear z0 z1 z2 z3 z4 z5
  have HC6 := Lib.hid (HC4.out.later hlw); have HC7 := Lib.hid (HC5.out.later hlw); have HL6 := Lib.hid (HL5.out.trans hlw)
  clear hlw HRB HC2 HC3 HC4 HC5
  have HCA := Lib.hid (fun (w' : World) (h : Later w w') => primClone_any a w' (HAO.out.later h))
  have HCB := Lib.hid (fun (w' : World) (h : Later w w') => primClone_any b w' (HBO.out.later h))
  unfold prV at HCA HCB
  obtain ⟨y0, y1, y2, y3, y4, y5⟩ := BoxAt.all (x := a) HC6.out
  obtain ⟨z0, z1, z2, z3, z4, z5⟩ := BoxAt.all (x := b) HC7.out
  have hlt6 := HC7.out.lt
  go_upto_region 6 with fail
  go_region_with (first | (go_at_call 29; have hq := H7; clear hq; refine (HCB.out _ (Later.trans (HL6.out.trans HL7.out) (by first | exact Later.refl _ | exact (Later.refl _).drew | exact (Later.refl _).drewN _))).mono ?_; rintro e w8 ⟨u8, v8, rfl, hpr8⟩; obtain ⟨A8, c8, hv8, hcc8, hr8⟩ := hpr8.old.row; obtain ⟨B8, d8, hv9, hdd8, hs8⟩ := hpr8.new.row; subst hv8 hv9; have hlw : Later w7 w8 := Later.trans (by first | exact Later.refl _ | exact (Later.refl _).drew | exact (Later.refl _).drewN _) hpr8.later; have c2 := HC8.out.later hlw; have u0 := c2.cell (i := 0) rfl; have u1 := c2.cell (i := 1) rfl; have u2 := c2.cell (i := 2) rfl; have u3 := c2.cell (i := 3) rfl; have u4 := c2.cell (i := 4) rfl; have u5 := c2.cell (i := 5) rfl; have v0 := c2.frozen 0; have v1 := c2.frozen 1; have v2 := c2.frozen 2; have v3 := c2.frozen 3; have v4 := c2.frozen 4; have v5 := c2.frozen 5; have k2 := turned_set6 w8 (w.heap.size + 1 + 1) (.int .i64 a.v.kind) (.string a.v.name) (.string a.v.to) (.int .i64 a.v.place) (.slice A7 a.v.old.length c7) (.slice B7 a.v.new.length d7); have c3 := (HC9.out.later hlw).other k2 (by omega); have r0 := c3.cell (i := 0) rfl; have r1 := c3.cell (i := 1) rfl; have r2 := c3.cell (i := 2) rfl; have r3 := c3.cell (i := 3) rfl; have r4 := c3.cell (i := 4) rfl; have r5 := c3.cell (i := 5) rfl; have t0 := c3.frozen 0; have t1 := c3.frozen 1; have t2 := c3.frozen 2; have t3 := c3.frozen 3; have t4 := c3.frozen 4; have t5 := c3.frozen 5; have k3 := turned_set6 ((((((w8.setCell ⟨w.heap.size + 1 + 1, 0, none⟩ (.int .i64 a.v.kind)).setCell ⟨w.heap.size + 1 + 1, 1, none⟩ (.string a.v.name)).setCell ⟨w.heap.size + 1 + 1, 2, none⟩ (.string a.v.to)).setCell ⟨w.heap.size + 1 + 1, 3, none⟩ (.int .i64 a.v.place)).setCell ⟨w.heap.size + 1 + 1, 4, none⟩ (.slice A7 a.v.old.length c7)).setCell ⟨w.heap.size + 1 + 1, 5, none⟩ (.slice B7 a.v.new.length d7)) (w.heap.size + 1 + 1 + 1) (.int .i64 b.v.kind) (.string b.v.name) (.string b.v.to) (.int .i64 b.v.place) (.slice A8 b.v.old.length c8) (.slice B8 b.v.new.length d8); have HK2z := Lib.hid k2; have HK3z := Lib.hid k3; have HC2z := Lib.hid ((c2.set6 (.int .i64 a.v.kind) (.string a.v.name) (.string a.v.to) (.int .i64 a.v.place) (.slice A7 a.v.old.length c7) (.slice B7 a.v.new.length d7)).other k3 (by omega)); have HC3z := Lib.hid (c3.set6 (.int .i64 b.v.kind) (.string b.v.name) (.string b.v.to) (.int .i64 b.v.place) (.slice A8 b.v.old.length c8) (.slice B8 b.v.new.length d8)); clear k2 k3 c2 c3; have H8 : Hid (IsPr b.v w7 w8 (.slice A8 b.v.old.length c8) (.slice B8 b.v.new.length d8)) := hpr8.base (by first | exact Later.refl _ | exact (Later.refl _).drew | exact (Later.refl _).drewN _); have HU8 : Hid ((∀ k, (Value.slice A8 b.v.old.length c8).ownBlock = some k → w7.heap.size ≤ k) ∧ (∀ k, (Value.slice B8 b.v.new.length d8).ownBlock = some k → w7.heap.size ≤ k)) := ⟨H8.out.old.block, H8.out.new.block⟩; have HL8 := Lib.hid hlw; clear hpr8 hlw hr8 hs8 hcc8 hdd8) | (go_at_call 29; refine (HCA.out _ (Later.trans HL6.out (by first | exact Later.refl _ | exact (Later.refl _).drew | exact (Later.refl _).drewN _))).mono ?_; rintro e w7 ⟨u7, v7, rfl, hpr7⟩; obtain ⟨A7, c7, hv7, hcc7, hr7⟩ := hpr7.old.row; obtain ⟨B7, d7, hv7', hdd7, hs7⟩ := hpr7.new.row; subst hv7 hv7'; have hlw : Later w6 w7 := Later.trans (by first | exact Later.refl _ | exact (Later.refl _).drew | exact (Later.refl _).drewN _) hpr7.later; have H7 : Hid (IsPr a.v w6 w7 (.slice A7 a.v.old.length c7) (.slice B7 a.v.new.length d7)) := hpr7.base (by first | exact Later.refl _ | exact (Later.refl _).drew | exact (Later.refl _).drewN _); have HU7 : Hid ((∀ k, (Value.slice A7 a.v.old.length c7).ownBlock = some k → w6.heap.size ≤ k) ∧ (∀ k, (Value.slice B7 a.v.new.length d7).ownBlock = some k → w6.heap.size ≤ k)) := ⟨H7.out.old.block, H7.out.new.block⟩; have HL7 := Lib.hid hlw; have HC8 := Lib.hid (HC6.out.later hlw); have HC9 := Lib.hid (HC7.out.later hlw); obtain ⟨f0, f1, f2, f3, f4, f5⟩ := BoxAt.all (x := b) HC9.out; clear hpr7 hlw hr7 hs7 hcc7 hdd7))
  all_goals go_wp2
  all_goals
    have hle := HL7.out.le
    have l1 : Later w w7 := HL6.out.trans HL7.out
    have l2 : Later w w8 := l1.trans HL8.out
    have l3 := l2.turn HK2z.out (by omega)
    have l4 := l3.turn HK3z.out (by omega)
    have i1 := (((H7.out.base HL6.out).on HL8.out).off HK2z.out (fun k hk => by have := HU7.out.1 k hk; omega) (fun k hk => by have := HU7.out.2 k hk; omega) l3).off HK3z.out (fun k hk => by have := HU7.out.1 k hk; omega) (fun k hk => by have := HU7.out.2 k hk; omega) l4
    have i2 := ((H8.out.base l1).off HK2z.out (fun k hk => by have := HU8.out.1 k hk; omega) (fun k hk => by have := HU8.out.2 k hk; omega) l3).off HK3z.out (fun k hk => by have := HU8.out.1 k hk; omega) (fun k hk => by have := HU8.out.2 k hk; omega) l4
    have m1 := HAO.out.mild
    have m2 := HBO.out.mild
    obtain ⟨A9, c9, hv9, hc9, hr9⟩ := i1.old.row
    cases hv9
    obtain ⟨A9, c9, hv9, hc9', hr9'⟩ := i1.new.row
    cases hv9
    obtain ⟨A9, c9, hv9, hd9, hs9⟩ := i2.old.row
    cases hv9
    obtain ⟨A9, c9, hv9, hd9', hs9'⟩ := i2.new.row
    cases hv9
    have hw6 := HL6.out.le
    exact bodyPost_ret (results_two rfl _ _ _ _ _ _ _ _ _ _ _ _ rfl rfl rfl HC2z.out HC3z.out Try.underlying27 rfl Try.primSize Try.primSize) rfl
      ⟨⟨a.v, A7, a.v.old.length, c7, B7, a.v.new.length, d7⟩, ⟨b.v, A8, b.v.old.length, c8, B8, b.v.new.length, d8⟩, rfl, rfl, rfl, ⟨hr9, hr9', hc9, hc9', m1.omost, m1.nmost, m1.name, m1.to, m1.lo, m1.hi, m1.olds, m1.news⟩, ⟨hs9, hs9', hd9, hd9', m2.omost, m2.nmost, m2.name, m2.to, m2.lo, m2.hi, m2.olds, m2.news⟩,
        ⟨fun k hk => Nat.le_trans hw6 (HU7.out.1 k hk), fun k hk => Nat.le_trans hw6 (HU7.out.2 k hk)⟩, ⟨fun k hk => Nat.le_trans (Nat.le_trans hw6 hle) (HU8.out.1 k hk), fun k hk => Nat.le_trans (Nat.le_trans hw6 hle) (HU8.out.2 k hk)⟩, l4⟩

end Go.Proofs.Ytalgapoigkbiaaa

/-
  How great the document's prim is.
-/
namespace Go.Proofs.Ytalgapoigkbiaaa
open Go.RowKit
theorem Try.refPrimSize : (Try.prog.info? 24).map (·.size) = some 6 := by kernel_rfl
end Go.Proofs.Ytalgapoigkbiaaa

/-
  A statement that undoes a prim, swaps it and another one, and keeps both: in whatever order its operations come.
-/
namespace Go.Proofs.Ytalgapoigkbiaaa
open Go.RowKit Go.Maps

set_option maxHeartbeats 1600000 in
theorem sq_region {ops : Array Oper} (hn : ops.size = 13) (hg : goesBack ops = true)
    (o0 : OpIs ops 0 (.load 24 (.tmp 2)) (some 28) [])
    (o1 : OpIs ops 1 (.call { callee := .value (.func 23), args := #[.tmp 28], argTypes := #[27] }) (some 29) [0])
    (o2 : OpIs ops 2 (.load 27 (.tmp 5)) (some 30) [])
    (o3 : OpIs ops 3 (.call { callee := .value (.func 12), args := #[.tmp 29, .tmp 30], argTypes := #[27, 27] }) (some 31) [1, 2])
    (o4 : OpIs ops 4 (.move (.tmp 31)) (some 27) [3])
    (o5 : OpIs ops 5 (.extract (.tmp 27) 0) (some 32) [4])
    (o6 : OpIs ops 6 (.extract (.tmp 27) 1) (some 33) [4])
    (o7 : OpIs ops 7 (.extract (.tmp 27) 2) (some 34) [4])
    (o8 : OpIs ops 8 (.alloc 27) (some 8) [])
    (o9 : OpIs ops 9 (.alloc 27) (some 9) [])
    (o10 : OpIs ops 10 (.store 27 (.tmp 8) (.tmp 32)) none [8, 5, 3, 9])
    (o11 : OpIs ops 11 (.store 27 (.tmp 9) (.tmp 33)) none [9, 6, 3, 8])
    (o12 : OpIs ops 12 (.assign (.tmp 34)) (some 10) [7])
    {a1 : Act} (hs : 50 ≤ a1.tmps.size) {wx : World} {x a_ : PrC} {gx ga : Nat} (e2 : a1.eval (.tmp 2) = .pointer (some ⟨gx, 0, none⟩)) (e5 : a1.eval (.tmp 5) = .pointer (some ⟨ga, 0, none⟩)) (bx : BoxAt wx gx (prL x).toArray 24) (ba_ : BoxAt wx ga (prL a_).toArray 27) (ox_ : PrOk wx x) (oa__ : PrOk wx a_) {r s : Pr} {t : Bool} (hsw : swapR (swapP (invertP x.v) a_.v) = (r, s, t))
    {Q : Exit → Act → World → Prop} {id : Nat} (hend : ∀ (D : Dat) (a : Act) (w : World), SameOut a1 a [28, 29, 30, 31, 27, 32, 33, 34, 8, 9, 10] → a.eval (.tmp 8) = .pointer (some ⟨D.g8, 0, none⟩) → a.eval (.tmp 9) = .pointer (some ⟨D.g9, 0, none⟩) → a.eval (.tmp 10) = .bool t → Wd wx (invertP x.v) zeroPr r s true false true true true true true D w → Q .normal a w) :
    (Code.region id ops true).wp Try.prog Q a1 wx := by
  refine region_inv (by kernel_rfl) hg (fun l a w => ∃ D : Dat, SameOut a1 a [28, 29, 30, 31, 27, 32, 33, 34, 8, 9, 10] ∧ Wd wx (invertP x.v) zeroPr r s (l 1) false (l 3) (l 8) (l 9) (l 10) (l 11) D w ∧ (l 0 = true → a.eval (.tmp 28) = prV x) ∧ (l 1 = true → a.eval (.tmp 29) = prV D.i) ∧ (l 2 = true → a.eval (.tmp 30) = prV a_) ∧ (l 3 = true → a.eval (.tmp 31) = .tuple #[prV D.c, prV D.d, .bool t]) ∧ (l 4 = true → a.eval (.tmp 27) = .tuple #[prV D.c, prV D.d, .bool t]) ∧ (l 5 = true → a.eval (.tmp 32) = prV D.c) ∧ (l 6 = true → a.eval (.tmp 33) = prV D.d) ∧ (l 7 = true → a.eval (.tmp 34) = .bool t) ∧ (l 8 = true → a.eval (.tmp 8) = .pointer (some ⟨D.g8, 0, none⟩)) ∧ (l 9 = true → a.eval (.tmp 9) = .pointer (some ⟨D.g9, 0, none⟩)) ∧ (l 12 = true → a.eval (.tmp 10) = .bool t) ∧ (l 4 = true → l 3 = true) ∧ (l 5 = true → l 3 = true) ∧ (l 6 = true → l 3 = true) ∧ (l 10 = true → l 3 = true) ∧ (l 11 = true → l 3 = true) ∧ (l 10 = true → l 8 = true) ∧ (l 11 = true → l 9 = true)) ?_ ?_ ?_
  · intro l a w i o ho hl hwait ⟨D, so, wd, f0, f1, f2, f3, f4, f5, f6, f7, f8, f9, f12, d4_3, d5_3, d6_3, d10_3, d11_3, d10_8, d11_9⟩
    have hi : i < 13 := by rw [← hn]; exact (Array.getElem?_eq_some_iff.1 ho).1
    have hc : i = 0 ∨ i = 1 ∨ i = 2 ∨ i = 3 ∨ i = 4 ∨ i = 5 ∨ i = 6 ∨ i = 7 ∨ i = 8 ∨ i = 9 ∨ i = 10 ∨ i = 11 ∨ i = 12 := by omega
    rcases hc with rfl | rfl | rfl | rfl | rfl | rfl | rfl | rfl | rfl | rfl | rfl | rfl | rfl
    · refine o0.load Try.underlying24 Try.refPrimSize ((show _ = a1.eval _ from by simp only [Act.eval, Array.getD_eq_getD_getElem?, so.out 2 (by decide)]).trans e2) (bx.later wd.later) ?_
      exact ⟨D, (so.put (by decide) _), wd, (fun _ => eval_put_same' _ _ _ (by rw [so.size]; show (28 : Nat) < _; omega)), (fun e => (eval_put_other' _ _ (by decide)).trans (f1 e)), (fun e => (eval_put_other' _ _ (by decide)).trans (f2 e)), (fun e => (eval_put_other' _ _ (by decide)).trans (f3 e)), (fun e => (eval_put_other' _ _ (by decide)).trans (f4 e)), (fun e => (eval_put_other' _ _ (by decide)).trans (f5 e)), (fun e => (eval_put_other' _ _ (by decide)).trans (f6 e)), (fun e => (eval_put_other' _ _ (by decide)).trans (f7 e)), (fun e => (eval_put_other' _ _ (by decide)).trans (f8 e)), (fun e => (eval_put_other' _ _ (by decide)).trans (f9 e)), (fun e => (eval_put_other' _ _ (by decide)).trans (f12 e)), d4_3, d5_3, d6_3, d10_3, d11_3, d10_8, d11_9⟩
    · have ws := o1.waits ho hwait
      have w0 := ws 0 (by simp)
      refine o1.call1 (enters_of Try.func23 (by kernel_rfl) rfl) (f0 w0) (invert_v (ox_.later wd.later).at) ?_
      rintro e w' ⟨v, rfl, ⟨z, rfl, hz, oz⟩, hl'⟩
      exact ⟨_, rfl, { D with i := z }, (so.put (by decide) _), wd.inv1 hl' hz oz, (fun e => (eval_put_other' _ _ (by decide)).trans (f0 e)), (fun _ => eval_put_same' _ _ _ (by rw [so.size]; show (29 : Nat) < _; omega)), (fun e => (eval_put_other' _ _ (by decide)).trans (f2 e)), (fun e => (eval_put_other' _ _ (by decide)).trans (f3 e)), (fun e => (eval_put_other' _ _ (by decide)).trans (f4 e)), (fun e => (eval_put_other' _ _ (by decide)).trans (f5 e)), (fun e => (eval_put_other' _ _ (by decide)).trans (f6 e)), (fun e => (eval_put_other' _ _ (by decide)).trans (f7 e)), (fun e => (eval_put_other' _ _ (by decide)).trans (f8 e)), (fun e => (eval_put_other' _ _ (by decide)).trans (f9 e)), (fun e => (eval_put_other' _ _ (by decide)).trans (f12 e)), d4_3, d5_3, d6_3, d10_3, d11_3, d10_8, d11_9⟩
    · refine o2.load Try.underlying27 Try.primSize ((show _ = a1.eval _ from by simp only [Act.eval, Array.getD_eq_getD_getElem?, so.out 5 (by decide)]).trans e5) (ba_.later wd.later) ?_
      exact ⟨D, (so.put (by decide) _), wd, (fun e => (eval_put_other' _ _ (by decide)).trans (f0 e)), (fun e => (eval_put_other' _ _ (by decide)).trans (f1 e)), (fun _ => eval_put_same' _ _ _ (by rw [so.size]; show (30 : Nat) < _; omega)), (fun e => (eval_put_other' _ _ (by decide)).trans (f3 e)), (fun e => (eval_put_other' _ _ (by decide)).trans (f4 e)), (fun e => (eval_put_other' _ _ (by decide)).trans (f5 e)), (fun e => (eval_put_other' _ _ (by decide)).trans (f6 e)), (fun e => (eval_put_other' _ _ (by decide)).trans (f7 e)), (fun e => (eval_put_other' _ _ (by decide)).trans (f8 e)), (fun e => (eval_put_other' _ _ (by decide)).trans (f9 e)), (fun e => (eval_put_other' _ _ (by decide)).trans (f12 e)), d4_3, d5_3, d6_3, d10_3, d11_3, d10_8, d11_9⟩
    · have ws := o3.waits ho hwait
      have w1 := ws 1 (by simp)
      have w2 := ws 2 (by simp)
      have hb8 : l 10 = false := by cases hx : l 10 with | false => rfl | true => have := d10_3 hx; rw [hl] at this; cases this
      have hb9 : l 11 = false := by cases hx : l 11 with | false => rfl | true => have := d11_3 hx; rw [hl] at this; cases this
      have hc := swap_fresh D.i a_ w (wd.wi w1 hl).2 (oa__.later wd.later)
      rw [(wd.wi w1 hl).1, hsw] at hc
      refine o3.call2 (enters_of Try.func12 (by kernel_rfl) rfl) (f1 w1) (f2 w2) hc ?_
      rintro e w' ⟨c, d, rfl, hc1, hd1, oc, od, fc, fd, hl'⟩
      have wd1 := wd.swap' hl hb8 hb9 hl' hc1 hd1 oc od fc fd
      exact ⟨_, rfl, { D with c := c, d := d }, (so.put (by decide) _), wd1, (fun e => (eval_put_other' _ _ (by decide)).trans (f0 e)), (fun e => (eval_put_other' _ _ (by decide)).trans (f1 e)), (fun e => (eval_put_other' _ _ (by decide)).trans (f2 e)), (fun _ => eval_put_same' _ _ _ (by rw [so.size]; show (31 : Nat) < _; omega)), (fun e => by have := d4_3 e; rw [hl] at this; cases this), (fun e => by have := d5_3 e; rw [hl] at this; cases this), (fun e => by have := d6_3 e; rw [hl] at this; cases this), (fun e => (eval_put_other' _ _ (by decide)).trans (f7 e)), (fun e => (eval_put_other' _ _ (by decide)).trans (f8 e)), (fun e => (eval_put_other' _ _ (by decide)).trans (f9 e)), (fun e => (eval_put_other' _ _ (by decide)).trans (f12 e)), (fun _ => rfl), (fun _ => rfl), (fun _ => rfl), (fun _ => rfl), (fun _ => rfl), d10_8, d11_9⟩
    · have ws := o4.waits ho hwait
      have w3 := ws 3 (by simp)
      refine o4.move ?_
      rw [f3 w3]
      exact ⟨D, (so.put (by decide) _), wd, (fun e => (eval_put_other' _ _ (by decide)).trans (f0 e)), (fun e => (eval_put_other' _ _ (by decide)).trans (f1 e)), (fun e => (eval_put_other' _ _ (by decide)).trans (f2 e)), (fun e => (eval_put_other' _ _ (by decide)).trans (f3 e)), (fun _ => eval_put_same' _ _ _ (by rw [so.size]; show (27 : Nat) < _; omega)), (fun e => (eval_put_other' _ _ (by decide)).trans (f5 e)), (fun e => (eval_put_other' _ _ (by decide)).trans (f6 e)), (fun e => (eval_put_other' _ _ (by decide)).trans (f7 e)), (fun e => (eval_put_other' _ _ (by decide)).trans (f8 e)), (fun e => (eval_put_other' _ _ (by decide)).trans (f9 e)), (fun e => (eval_put_other' _ _ (by decide)).trans (f12 e)), (fun _ => w3), d5_3, d6_3, d10_3, d11_3, d10_8, d11_9⟩
    · have ws := o5.waits ho hwait
      have w4 := ws 4 (by simp)
      have w3 := d4_3 w4
      refine o5.extract (f4 w4) rfl ?_
      exact ⟨D, (so.put (by decide) _), wd, (fun e => (eval_put_other' _ _ (by decide)).trans (f0 e)), (fun e => (eval_put_other' _ _ (by decide)).trans (f1 e)), (fun e => (eval_put_other' _ _ (by decide)).trans (f2 e)), (fun e => (eval_put_other' _ _ (by decide)).trans (f3 e)), (fun e => (eval_put_other' _ _ (by decide)).trans (f4 e)), (fun _ => eval_put_same' _ _ _ (by rw [so.size]; show (32 : Nat) < _; omega)), (fun e => (eval_put_other' _ _ (by decide)).trans (f6 e)), (fun e => (eval_put_other' _ _ (by decide)).trans (f7 e)), (fun e => (eval_put_other' _ _ (by decide)).trans (f8 e)), (fun e => (eval_put_other' _ _ (by decide)).trans (f9 e)), (fun e => (eval_put_other' _ _ (by decide)).trans (f12 e)), d4_3, (fun _ => w3), d6_3, d10_3, d11_3, d10_8, d11_9⟩
    · have ws := o6.waits ho hwait
      have w4 := ws 4 (by simp)
      have w3 := d4_3 w4
      refine o6.extract (f4 w4) rfl ?_
      exact ⟨D, (so.put (by decide) _), wd, (fun e => (eval_put_other' _ _ (by decide)).trans (f0 e)), (fun e => (eval_put_other' _ _ (by decide)).trans (f1 e)), (fun e => (eval_put_other' _ _ (by decide)).trans (f2 e)), (fun e => (eval_put_other' _ _ (by decide)).trans (f3 e)), (fun e => (eval_put_other' _ _ (by decide)).trans (f4 e)), (fun e => (eval_put_other' _ _ (by decide)).trans (f5 e)), (fun _ => eval_put_same' _ _ _ (by rw [so.size]; show (33 : Nat) < _; omega)), (fun e => (eval_put_other' _ _ (by decide)).trans (f7 e)), (fun e => (eval_put_other' _ _ (by decide)).trans (f8 e)), (fun e => (eval_put_other' _ _ (by decide)).trans (f9 e)), (fun e => (eval_put_other' _ _ (by decide)).trans (f12 e)), d4_3, d5_3, (fun _ => w3), d10_3, d11_3, d10_8, d11_9⟩
    · have ws := o7.waits ho hwait
      have w4 := ws 4 (by simp)
      have w3 := d4_3 w4
      refine o7.extract (f4 w4) rfl ?_
      exact ⟨D, (so.put (by decide) _), wd, (fun e => (eval_put_other' _ _ (by decide)).trans (f0 e)), (fun e => (eval_put_other' _ _ (by decide)).trans (f1 e)), (fun e => (eval_put_other' _ _ (by decide)).trans (f2 e)), (fun e => (eval_put_other' _ _ (by decide)).trans (f3 e)), (fun e => (eval_put_other' _ _ (by decide)).trans (f4 e)), (fun e => (eval_put_other' _ _ (by decide)).trans (f5 e)), (fun e => (eval_put_other' _ _ (by decide)).trans (f6 e)), (fun _ => eval_put_same' _ _ _ (by rw [so.size]; show (34 : Nat) < _; omega)), (fun e => (eval_put_other' _ _ (by decide)).trans (f8 e)), (fun e => (eval_put_other' _ _ (by decide)).trans (f9 e)), (fun e => (eval_put_other' _ _ (by decide)).trans (f12 e)), d4_3, d5_3, d6_3, d10_3, d11_3, d10_8, d11_9⟩
    · have hb : l 10 = false := by cases hx : l 10 with | false => rfl | true => have := d10_8 hx; rw [hl] at this; cases this
      have wd1 := wd.alloc8' hl hb
      refine o8.alloc ?_
      exact ⟨{ D with g8 := w.heap.size }, (so.put (by decide) _), wd1, (fun e => (eval_put_other' _ _ (by decide)).trans (f0 e)), (fun e => (eval_put_other' _ _ (by decide)).trans (f1 e)), (fun e => (eval_put_other' _ _ (by decide)).trans (f2 e)), (fun e => (eval_put_other' _ _ (by decide)).trans (f3 e)), (fun e => (eval_put_other' _ _ (by decide)).trans (f4 e)), (fun e => (eval_put_other' _ _ (by decide)).trans (f5 e)), (fun e => (eval_put_other' _ _ (by decide)).trans (f6 e)), (fun e => (eval_put_other' _ _ (by decide)).trans (f7 e)), (fun _ => eval_put_same' _ _ _ (by rw [so.size]; show (8 : Nat) < _; omega)), (fun e => (eval_put_other' _ _ (by decide)).trans (f9 e)), (fun e => (eval_put_other' _ _ (by decide)).trans (f12 e)), d4_3, d5_3, d6_3, d10_3, d11_3, (fun _ => rfl), d11_9⟩
    · have hb : l 11 = false := by cases hx : l 11 with | false => rfl | true => have := d11_9 hx; rw [hl] at this; cases this
      have wd1 := wd.alloc9' hl hb
      refine o9.alloc ?_
      exact ⟨{ D with g9 := w.heap.size }, (so.put (by decide) _), wd1, (fun e => (eval_put_other' _ _ (by decide)).trans (f0 e)), (fun e => (eval_put_other' _ _ (by decide)).trans (f1 e)), (fun e => (eval_put_other' _ _ (by decide)).trans (f2 e)), (fun e => (eval_put_other' _ _ (by decide)).trans (f3 e)), (fun e => (eval_put_other' _ _ (by decide)).trans (f4 e)), (fun e => (eval_put_other' _ _ (by decide)).trans (f5 e)), (fun e => (eval_put_other' _ _ (by decide)).trans (f6 e)), (fun e => (eval_put_other' _ _ (by decide)).trans (f7 e)), (fun e => (eval_put_other' _ _ (by decide)).trans (f8 e)), (fun _ => eval_put_same' _ _ _ (by rw [so.size]; show (9 : Nat) < _; omega)), (fun e => (eval_put_other' _ _ (by decide)).trans (f12 e)), d4_3, d5_3, d6_3, d10_3, d11_3, d10_8, (fun _ => rfl)⟩
    · have ws := o10.waits ho hwait
      have w8 := ws 8 (by simp)
      have w5 := ws 5 (by simp)
      have w3 := ws 3 (by simp)
      have w9 := ws 9 (by simp)
      obtain ⟨_, cs, hcs, hbx, _⟩ := wd.w8 w8
      refine o10.store (f8 w8) (f5 w5) hbx hcs ?_
      intro w' hb' ht'
      have wd1 := wd.st8' w3 w8 w9 hb' ht'
      exact ⟨D, so, wd1, f0, f1, f2, f3, f4, f5, f6, f7, f8, f9, f12, d4_3, d5_3, d6_3, (fun _ => w3), d11_3, (fun _ => w8), d11_9⟩
    · have ws := o11.waits ho hwait
      have w9 := ws 9 (by simp)
      have w6 := ws 6 (by simp)
      have w3 := ws 3 (by simp)
      have w8 := ws 8 (by simp)
      obtain ⟨_, cs, hcs, hbx, _⟩ := wd.w9 w9
      refine o11.store (f9 w9) (f6 w6) hbx hcs ?_
      intro w' hb' ht'
      have wd1 := wd.st9' w3 w8 w9 hb' ht'
      exact ⟨D, so, wd1, f0, f1, f2, f3, f4, f5, f6, f7, f8, f9, f12, d4_3, d5_3, d6_3, d10_3, (fun _ => w3), d10_8, (fun _ => w9)⟩
    · have ws := o12.waits ho hwait
      have w7 := ws 7 (by simp)
      refine o12.assign ?_
      rw [f7 w7]
      exact ⟨D, (so.put (by decide) _), wd, (fun e => (eval_put_other' _ _ (by decide)).trans (f0 e)), (fun e => (eval_put_other' _ _ (by decide)).trans (f1 e)), (fun e => (eval_put_other' _ _ (by decide)).trans (f2 e)), (fun e => (eval_put_other' _ _ (by decide)).trans (f3 e)), (fun e => (eval_put_other' _ _ (by decide)).trans (f4 e)), (fun e => (eval_put_other' _ _ (by decide)).trans (f5 e)), (fun e => (eval_put_other' _ _ (by decide)).trans (f6 e)), (fun e => (eval_put_other' _ _ (by decide)).trans (f7 e)), (fun e => (eval_put_other' _ _ (by decide)).trans (f8 e)), (fun e => (eval_put_other' _ _ (by decide)).trans (f9 e)), (fun _ => eval_put_same' _ _ _ (by rw [so.size]; show (10 : Nat) < _; omega)), d4_3, d5_3, d6_3, d10_3, d11_3, d10_8, d11_9⟩
  · intro l a w hall ⟨D, so, wd, f0, f1, f2, f3, f4, f5, f6, f7, f8, f9, f12, d4_3, d5_3, d6_3, d10_3, d11_3, d10_8, d11_9⟩
    rw [hn] at hall
    rw [hall 1 (by decide), hall 3 (by decide), hall 8 (by decide), hall 9 (by decide), hall 10 (by decide), hall 11 (by decide)] at wd
    exact hend D a w so (f8 (hall 8 (by decide))) (f9 (hall 9 (by decide))) (f12 (hall 12 (by decide))) wd
  · exact ⟨⟨x, x, x, x, 0, 0⟩, SameOut.refl _ _, Wd.start _ ((Later.refl wx).drew), (fun e => by cases e), (fun e => by cases e), (fun e => by cases e), (fun e => by cases e), (fun e => by cases e), (fun e => by cases e), (fun e => by cases e), (fun e => by cases e), (fun e => by cases e), (fun e => by cases e), (fun e => by cases e), (fun e => by cases e), (fun e => by cases e), (fun e => by cases e), (fun e => by cases e), (fun e => by cases e), (fun e => by cases e), (fun e => by cases e)⟩

end Go.Proofs.Ytalgapoigkbiaaa
