import Derived.Test.YtlnjhimbgckdcaaGreatPk7
import Derived.Test.YtlnjhimbgckdcaaGreatPk4
import Derived.Test.YtlnjhimbgckdcaaGreatPk6
import Derived.Deep.LoopGhost
import Derived.Deep.QuietTactic
import Derived.BigQuiet
import Derived.Lib.Hide

/-
  What swap's Swap comes to, as a call: what it tells lies behind all that was there.
-/
namespace Go.Proofs.YtlnjhimbgckdcaaGreat
open Go.RowKit Go.Maps

def GivesF (r : Pr × Pr × Bool) (w : World) (e : Ending) (w' : World) : Prop :=
  ∃ a b : PrC, e = .returned (.tuple #[prV a, prV b, .bool r.2.2]) /\ a.v = r.1 /\ b.v = r.2.1 /\ PrOk w' a /\ PrOk w' b /\ Fresh w a /\ Fresh w b /\ Later w w'
theorem fresh_zero (w : World) : Fresh w zeroC := ⟨(fun k h => by cases h), (fun k h => by cases h)⟩

set_option maxRecDepth 100000 in
set_option maxHeartbeats 1600000 in
theorem swap_fresh (x y : PrC) (w : World) (hx : PrOk w x) (hy : PrOk w y) :
    Calls Tryz.prog 64 #[prV x, prV y] w (GivesF (swapR (swapP x.v y.v)) w) := by
  obtain ⟨b0, b1, b2, b3, hl⟩ := four_boxes w #[.int .i64 x.v.kind, .string x.v.name, .string x.v.to, .int .i64 x.v.place, .slice x.A x.n x.c, .slice x.B x.m x.d] #[.int .i64 y.v.kind, .string y.v.name, .string y.v.to, .int .i64 y.v.place, .slice y.A y.n y.c, .slice y.B y.m y.d] #[.int .i64 0, .string ⟨#[]⟩, .string ⟨#[]⟩, .int .i64 0, .slice none 0 0, .slice none 0 0] #[.int .i64 0, .string ⟨#[]⟩, .string ⟨#[]⟩, .int .i64 0, .slice none 0 0, .slice none 0 0] 58
  have HR1 := Lib.hid (fun (w' : World) (h : Later w w') => primRight_any x w' (hx.later h))
  have HR2 := Lib.hid (fun (w' : World) (h : Later w w') => primRight_any y w' (hy.later h))
  have HTN := Lib.hid (fun (hp : rightP x.v = true) (hq : rightP y.v = true) (w' : World) (h : Later w w') => turn_any x y w' (hx.later h) (hy.later h) hp hq)
  have HX := Lib.hid hx; have HY := Lib.hid hy
  clear hx hy
  unfold prV at HR1 HR2 HTN ⊢
  cases hp : rightP x.v
  · rw [swapR_none (swapP_not _ _ (by simp [hp]))]
    rw [hp] at HR1
    clear HR2 HTN hp
    go_enter Tryz.func64, Tryz.ntmps64
    go_wp2_with fail
    refine (HR1.out _ hl).mono ?_
    generalize (((w.alloc (.cells #[.int .i64 x.v.kind, .string x.v.name, .string x.v.to, .int .i64 x.v.place, .slice x.A x.n x.c, .slice x.B x.m x.d] 58)).alloc (.cells #[.int .i64 y.v.kind, .string y.v.name, .string y.v.to, .int .i64 y.v.place, .slice y.A y.n y.c, .slice y.B y.m y.d] 58)).alloc (.cells #[.int .i64 0, .string ⟨#[]⟩, .string ⟨#[]⟩, .int .i64 0, .slice none 0 0, .slice none 0 0] 58)).alloc (.cells #[.int .i64 0, .string ⟨#[]⟩, .string ⟨#[]⟩, .int .i64 0, .slice none 0 0, .slice none 0 0] 58) = wb at b0 b1 b2 b3 hl ⊢
    rintro e w1 ⟨rfl, hlw⟩
    have hsz := b3.lt
    have c2 := b2.later hlw
    have u0 := c2.cell (i := 0) rfl; have u1 := c2.cell (i := 1) rfl; have u2 := c2.cell (i := 2) rfl; have u3 := c2.cell (i := 3) rfl; have u4 := c2.cell (i := 4) rfl; have u5 := c2.cell (i := 5) rfl
    have v0 := c2.frozen 0; have v1 := c2.frozen 1; have v2 := c2.frozen 2; have v3 := c2.frozen 3; have v4 := c2.frozen 4; have v5 := c2.frozen 5
    have k2 := turned_set6 w1 (w.heap.size + 1 + 1) (.int .i64 0) (.string ⟨#[]⟩) (.string ⟨#[]⟩) (.int .i64 0) (.slice none 0 0) (.slice none 0 0)
    have c3 := (b3.later hlw).other k2 (by omega)
    have r0 := c3.cell (i := 0) rfl; have r1 := c3.cell (i := 1) rfl; have r2 := c3.cell (i := 2) rfl; have r3 := c3.cell (i := 3) rfl; have r4 := c3.cell (i := 4) rfl; have r5 := c3.cell (i := 5) rfl
    have t0 := c3.frozen 0; have t1 := c3.frozen 1; have t2 := c3.frozen 2; have t3 := c3.frozen 3; have t4 := c3.frozen 4; have t5 := c3.frozen 5
    have k3 := turned_set6 ((((((w1.setCell ⟨w.heap.size + 1 + 1, 0, none⟩ (.int .i64 0)).setCell ⟨w.heap.size + 1 + 1, 1, none⟩ (.string ⟨#[]⟩)).setCell ⟨w.heap.size + 1 + 1, 2, none⟩ (.string ⟨#[]⟩)).setCell ⟨w.heap.size + 1 + 1, 3, none⟩ (.int .i64 0)).setCell ⟨w.heap.size + 1 + 1, 4, none⟩ (.slice none 0 0)).setCell ⟨w.heap.size + 1 + 1, 5, none⟩ (.slice none 0 0)) (w.heap.size + 1 + 1 + 1) (.int .i64 0) (.string ⟨#[]⟩) (.string ⟨#[]⟩) (.int .i64 0) (.slice none 0 0) (.slice none 0 0)
    have HK2z := Lib.hid k2; have HK3z := Lib.hid k3; have HC2z := Lib.hid ((c2.set6 (.int .i64 0) (.string ⟨#[]⟩) (.string ⟨#[]⟩) (.int .i64 0) (.slice none 0 0) (.slice none 0 0)).other k3 (by omega)); have HC3z := Lib.hid (c3.set6 (.int .i64 0) (.string ⟨#[]⟩) (.string ⟨#[]⟩) (.int .i64 0) (.slice none 0 0) (.slice none 0 0))
    clear k2 k3 c2 c3
    have HL := Lib.hid (hl.trans hlw)
    clear b0 b1 b2 b3 hl hlw HR1
    go_wp2
    exact bodyPost_ret (results_two rfl _ _ _ _ _ _ _ _ _ _ _ _ rfl rfl rfl HC2z.out HC3z.out Tryz.underlying58 rfl Tryz.primSize Tryz.primSize) rfl
      ⟨zeroC, zeroC, rfl, rfl, rfl, zeroC_ok _, zeroC_ok _, fresh_zero w, fresh_zero w, ((HL.out).turn HK2z.out (by omega)).turn HK3z.out (by omega)⟩
  cases hq : rightP y.v
  · rw [swapR_none (swapP_not _ _ (by simp [hq]))]
    rw [hp] at HR1
    rw [hq] at HR2
    clear HTN hp hq
    go_enter Tryz.func64, Tryz.ntmps64
    go_wp2_with fail
    refine (HR1.out _ hl).mono ?_
    generalize (((w.alloc (.cells #[.int .i64 x.v.kind, .string x.v.name, .string x.v.to, .int .i64 x.v.place, .slice x.A x.n x.c, .slice x.B x.m x.d] 58)).alloc (.cells #[.int .i64 y.v.kind, .string y.v.name, .string y.v.to, .int .i64 y.v.place, .slice y.A y.n y.c, .slice y.B y.m y.d] 58)).alloc (.cells #[.int .i64 0, .string ⟨#[]⟩, .string ⟨#[]⟩, .int .i64 0, .slice none 0 0, .slice none 0 0] 58)).alloc (.cells #[.int .i64 0, .string ⟨#[]⟩, .string ⟨#[]⟩, .int .i64 0, .slice none 0 0, .slice none 0 0] 58) = wb at b0 b1 b2 b3 hl ⊢
    rintro e w1 ⟨rfl, hlw⟩
    have hsz := b3.lt
    obtain ⟨q0, q1, q2, q3, q4, q5⟩ := BoxAt.all (x := y) (b1.later hlw)
    have HB2 := Lib.hid (b2.later hlw); have HB3 := Lib.hid (b3.later hlw); have HL1 := Lib.hid (hl.trans hlw)
    clear b0 b1 b2 b3 hl hlw HR1
    go_wp2_with fail
    refine (HR2.out _ HL1.out).mono ?_
    rintro e w2 ⟨rfl, hlw⟩
    clear q0 q1 q2 q3 q4 q5
    have c2 := HB2.out.later hlw
    have u0 := c2.cell (i := 0) rfl; have u1 := c2.cell (i := 1) rfl; have u2 := c2.cell (i := 2) rfl; have u3 := c2.cell (i := 3) rfl; have u4 := c2.cell (i := 4) rfl; have u5 := c2.cell (i := 5) rfl
    have v0 := c2.frozen 0; have v1 := c2.frozen 1; have v2 := c2.frozen 2; have v3 := c2.frozen 3; have v4 := c2.frozen 4; have v5 := c2.frozen 5
    have k2 := turned_set6 w2 (w.heap.size + 1 + 1) (.int .i64 0) (.string ⟨#[]⟩) (.string ⟨#[]⟩) (.int .i64 0) (.slice none 0 0) (.slice none 0 0)
    have c3 := (HB3.out.later hlw).other k2 (by omega)
    have r0 := c3.cell (i := 0) rfl; have r1 := c3.cell (i := 1) rfl; have r2 := c3.cell (i := 2) rfl; have r3 := c3.cell (i := 3) rfl; have r4 := c3.cell (i := 4) rfl; have r5 := c3.cell (i := 5) rfl
    have t0 := c3.frozen 0; have t1 := c3.frozen 1; have t2 := c3.frozen 2; have t3 := c3.frozen 3; have t4 := c3.frozen 4; have t5 := c3.frozen 5
    have k3 := turned_set6 ((((((w2.setCell ⟨w.heap.size + 1 + 1, 0, none⟩ (.int .i64 0)).setCell ⟨w.heap.size + 1 + 1, 1, none⟩ (.string ⟨#[]⟩)).setCell ⟨w.heap.size + 1 + 1, 2, none⟩ (.string ⟨#[]⟩)).setCell ⟨w.heap.size + 1 + 1, 3, none⟩ (.int .i64 0)).setCell ⟨w.heap.size + 1 + 1, 4, none⟩ (.slice none 0 0)).setCell ⟨w.heap.size + 1 + 1, 5, none⟩ (.slice none 0 0)) (w.heap.size + 1 + 1 + 1) (.int .i64 0) (.string ⟨#[]⟩) (.string ⟨#[]⟩) (.int .i64 0) (.slice none 0 0) (.slice none 0 0)
    have HK2z := Lib.hid k2; have HK3z := Lib.hid k3; have HC2z := Lib.hid ((c2.set6 (.int .i64 0) (.string ⟨#[]⟩) (.string ⟨#[]⟩) (.int .i64 0) (.slice none 0 0) (.slice none 0 0)).other k3 (by omega)); have HC3z := Lib.hid (c3.set6 (.int .i64 0) (.string ⟨#[]⟩) (.string ⟨#[]⟩) (.int .i64 0) (.slice none 0 0) (.slice none 0 0))
    clear k2 k3 c2 c3
    have HL := Lib.hid (HL1.out.trans hlw)
    clear hlw HR2
    go_wp2
    exact bodyPost_ret (results_two rfl _ _ _ _ _ _ _ _ _ _ _ _ rfl rfl rfl HC2z.out HC3z.out Tryz.underlying58 rfl Tryz.primSize Tryz.primSize) rfl
      ⟨zeroC, zeroC, rfl, rfl, rfl, zeroC_ok _, zeroC_ok _, fresh_zero w, fresh_zero w, ((HL.out).turn HK2z.out (by omega)).turn HK3z.out (by omega)⟩
  rw [hp] at HR1
  rw [hq] at HR2
  generalize hR : swapR (swapP x.v y.v) = R
  have HRR := Lib.hid hR
  clear hR
  go_enter Tryz.func64, Tryz.ntmps64
  go_wp2_with fail
  refine (HR1.out _ hl).mono ?_
  generalize (((w.alloc (.cells #[.int .i64 x.v.kind, .string x.v.name, .string x.v.to, .int .i64 x.v.place, .slice x.A x.n x.c, .slice x.B x.m x.d] 58)).alloc (.cells #[.int .i64 y.v.kind, .string y.v.name, .string y.v.to, .int .i64 y.v.place, .slice y.A y.n y.c, .slice y.B y.m y.d] 58)).alloc (.cells #[.int .i64 0, .string ⟨#[]⟩, .string ⟨#[]⟩, .int .i64 0, .slice none 0 0, .slice none 0 0] 58)).alloc (.cells #[.int .i64 0, .string ⟨#[]⟩, .string ⟨#[]⟩, .int .i64 0, .slice none 0 0, .slice none 0 0] 58) = wb at b0 b1 b2 b3 hl ⊢
  rintro e w1 ⟨rfl, hlw⟩
  have hsz := b3.lt
  obtain ⟨q0, q1, q2, q3, q4, q5⟩ := BoxAt.all (x := y) (b1.later hlw)
  have HB0 := Lib.hid (b0.later hlw); have HB1 := Lib.hid (b1.later hlw); have HB2 := Lib.hid (b2.later hlw); have HB3 := Lib.hid (b3.later hlw); have HL1 := Lib.hid (hl.trans hlw)
  clear b0 b1 b2 b3 hl hlw HR1
  go_wp2_with fail
  refine (HR2.out _ HL1.out).mono ?_
  rintro e w2 ⟨rfl, hlw⟩
  clear q0 q1 q2 q3 q4 q5
  obtain ⟨p0, p1, p2, p3, p4, p5⟩ := BoxAt.all (x := x) (HB0.out.later hlw)
  obtain ⟨q0, q1, q2, q3, q4, q5⟩ := BoxAt.all (x := y) (HB1.out.later hlw)
  have hlt2 := (HB3.out.later hlw).lt
  have HB4 := Lib.hid (HB2.out.later hlw); have HB5 := Lib.hid (HB3.out.later hlw); have HL2 := Lib.hid (HL1.out.trans hlw)
  clear hlw HR2
  go_wp2_with fail
  refine (HTN.out hp hq _ HL2.out).mono ?_
  rintro e w3 ⟨a, b, rfl, ha, hb, hao, hlw⟩
  clear p0 p1 p2 p3 p4 p5 q0 q1 q2 q3 q4 q5 HTN HB0 HB1 HB2 HB3
  have hsw : R = swapR (heedP (a.v, b.v, (turnP x.v y.v).2.2)) := by rw [← HRR.out, heed_of hp hq ha hb rfl]
  have HSW := Lib.hid hsw
  clear hsw
  generalize (turnP x.v y.v).2.2 = t at HSW ⊢
  clear ha hb HRR
  obtain ⟨hao1, hbo1⟩ := hao w HX.out HY.out
  have HAO := Lib.hid hao1; have HBO := Lib.hid hbo1
  clear hao hao1 hbo1 hp hq HX HY
  have c2 := HB4.out.later hlw
  have u0 := c2.cell (i := 0) rfl; have u1 := c2.cell (i := 1) rfl; have u2 := c2.cell (i := 2) rfl; have u3 := c2.cell (i := 3) rfl; have u4 := c2.cell (i := 4) rfl; have u5 := c2.cell (i := 5) rfl
  have v0 := c2.frozen 0; have v1 := c2.frozen 1; have v2 := c2.frozen 2; have v3 := c2.frozen 3; have v4 := c2.frozen 4; have v5 := c2.frozen 5
  have k2 := turned_set6 w3 (w.heap.size + 1 + 1) (.int .i64 a.v.kind) (.string a.v.name) (.string a.v.to) (.int .i64 a.v.place) (.slice a.A a.n a.c) (.slice a.B a.m a.d)
  have c3 := (HB5.out.later hlw).other k2 (by omega)
  have r0 := c3.cell (i := 0) rfl; have r1 := c3.cell (i := 1) rfl; have r2 := c3.cell (i := 2) rfl; have r3 := c3.cell (i := 3) rfl; have r4 := c3.cell (i := 4) rfl; have r5 := c3.cell (i := 5) rfl
  have t0 := c3.frozen 0; have t1 := c3.frozen 1; have t2 := c3.frozen 2; have t3 := c3.frozen 3; have t4 := c3.frozen 4; have t5 := c3.frozen 5
  have k3 := turned_set6 ((((((w3.setCell ⟨w.heap.size + 1 + 1, 0, none⟩ (.int .i64 a.v.kind)).setCell ⟨w.heap.size + 1 + 1, 1, none⟩ (.string a.v.name)).setCell ⟨w.heap.size + 1 + 1, 2, none⟩ (.string a.v.to)).setCell ⟨w.heap.size + 1 + 1, 3, none⟩ (.int .i64 a.v.place)).setCell ⟨w.heap.size + 1 + 1, 4, none⟩ (.slice a.A a.n a.c)).setCell ⟨w.heap.size + 1 + 1, 5, none⟩ (.slice a.B a.m a.d)) (w.heap.size + 1 + 1 + 1) (.int .i64 b.v.kind) (.string b.v.name) (.string b.v.to) (.int .i64 b.v.place) (.slice b.A b.n b.c) (.slice b.B b.m b.d)
  have HK2 := Lib.hid k2; have HK3 := Lib.hid k3; have HC2 := Lib.hid ((c2.set6 (.int .i64 a.v.kind) (.string a.v.name) (.string a.v.to) (.int .i64 a.v.place) (.slice a.A a.n a.c) (.slice a.B a.m a.d)).other k3 (by omega)); have HC3 := Lib.hid (c3.set6 (.int .i64 b.v.kind) (.string b.v.name) (.string b.v.to) (.int .i64 b.v.place) (.slice b.A b.n b.c) (.slice b.B b.m b.d))
  clear k2 k3 c2 c3
  have HL3 := Lib.hid (((HL2.out.trans hlw).turn HK2.out (by omega)).turn HK3.out (by omega))
  clear hlw HK2 HK3 HB4 HB5
  unfold prV
  go_upto_region 4 with fail
  generalize (((((((((((w3.setCell ⟨w.heap.size + 1 + 1, 0, none⟩ (.int .i64 a.v.kind)).setCell ⟨w.heap.size + 1 + 1, 1, none⟩ (.string a.v.name)).setCell ⟨w.heap.size + 1 + 1, 2, none⟩ (.string a.v.to)).setCell ⟨w.heap.size + 1 + 1, 3, none⟩ (.int .i64 a.v.place)).setCell ⟨w.heap.size + 1 + 1, 4, none⟩ (.slice a.A a.n a.c)).setCell ⟨w.heap.size + 1 + 1, 5, none⟩ (.slice a.B a.m a.d)).setCell ⟨w.heap.size + 1 + 1 + 1, 0, none⟩ (.int .i64 b.v.kind)).setCell ⟨w.heap.size + 1 + 1 + 1, 1, none⟩ (.string b.v.name)).setCell ⟨w.heap.size + 1 + 1 + 1, 2, none⟩ (.string b.v.to)).setCell ⟨w.heap.size + 1 + 1 + 1, 3, none⟩ (.int .i64 b.v.place)).setCell ⟨w.heap.size + 1 + 1 + 1, 4, none⟩ (.slice b.A b.n b.c)).setCell ⟨w.heap.size + 1 + 1 + 1, 5, none⟩ (.slice b.B b.m b.d) = w4 at HC2 HC3 HL3 ⊢
  clear u0 u1 u2 u3 u4 u5 v0 v1 v2 v3 v4 v5 r0 r1 r2 r3 r4 r5 t0 t1 t2 t3 t4 t5
  have HRA := Lib.hid (fun (w' : World) (h : Later w w') => primRight_any a w' (HAO.out.later h))
  have HRB := Lib.hid (fun (w' : World) (h : Later w w') => primRight_any b w' (HBO.out.later h))
  unfold prV at HRA HRB
  cases t
  · obtain rfl : R = noneP := by rw [HSW.out, heed_false]; rfl
    clear HSW HRA HRB
    have c2 := HC2.out
    have u0 := c2.cell (i := 0) rfl; have u1 := c2.cell (i := 1) rfl; have u2 := c2.cell (i := 2) rfl; have u3 := c2.cell (i := 3) rfl; have u4 := c2.cell (i := 4) rfl; have u5 := c2.cell (i := 5) rfl
    have v0 := c2.frozen 0; have v1 := c2.frozen 1; have v2 := c2.frozen 2; have v3 := c2.frozen 3; have v4 := c2.frozen 4; have v5 := c2.frozen 5
    have k2 := turned_set6 w4 (w.heap.size + 1 + 1) (.int .i64 0) (.string ⟨#[]⟩) (.string ⟨#[]⟩) (.int .i64 0) (.slice none 0 0) (.slice none 0 0)
    have c3 := (HC3.out).other k2 (by omega)
    have r0 := c3.cell (i := 0) rfl; have r1 := c3.cell (i := 1) rfl; have r2 := c3.cell (i := 2) rfl; have r3 := c3.cell (i := 3) rfl; have r4 := c3.cell (i := 4) rfl; have r5 := c3.cell (i := 5) rfl
    have t0 := c3.frozen 0; have t1 := c3.frozen 1; have t2 := c3.frozen 2; have t3 := c3.frozen 3; have t4 := c3.frozen 4; have t5 := c3.frozen 5
    have k3 := turned_set6 ((((((w4.setCell ⟨w.heap.size + 1 + 1, 0, none⟩ (.int .i64 0)).setCell ⟨w.heap.size + 1 + 1, 1, none⟩ (.string ⟨#[]⟩)).setCell ⟨w.heap.size + 1 + 1, 2, none⟩ (.string ⟨#[]⟩)).setCell ⟨w.heap.size + 1 + 1, 3, none⟩ (.int .i64 0)).setCell ⟨w.heap.size + 1 + 1, 4, none⟩ (.slice none 0 0)).setCell ⟨w.heap.size + 1 + 1, 5, none⟩ (.slice none 0 0)) (w.heap.size + 1 + 1 + 1) (.int .i64 0) (.string ⟨#[]⟩) (.string ⟨#[]⟩) (.int .i64 0) (.slice none 0 0) (.slice none 0 0)
    have HK2z := Lib.hid k2; have HK3z := Lib.hid k3; have HC2z := Lib.hid ((c2.set6 (.int .i64 0) (.string ⟨#[]⟩) (.string ⟨#[]⟩) (.int .i64 0) (.slice none 0 0) (.slice none 0 0)).other k3 (by omega)); have HC3z := Lib.hid (c3.set6 (.int .i64 0) (.string ⟨#[]⟩) (.string ⟨#[]⟩) (.int .i64 0) (.slice none 0 0) (.slice none 0 0))
    clear k2 k3 c2 c3
    go_wp2
    exact bodyPost_ret (results_two rfl _ _ _ _ _ _ _ _ _ _ _ _ rfl rfl rfl HC2z.out HC3z.out Tryz.underlying58 rfl Tryz.primSize Tryz.primSize) rfl
      ⟨zeroC, zeroC, rfl, rfl, rfl, zeroC_ok _, zeroC_ok _, fresh_zero w, fresh_zero w, ((HL3.out).turn HK2z.out (by omega)).turn HK3z.out (by omega)⟩
  obtain ⟨y0, y1, y2, y3, y4, y5⟩ := BoxAt.all (x := a) HC2.out
  cases ha : rightP a.v
  · obtain rfl : R = noneP := by rw [HSW.out]; simp [heedP, ha, swapR]
    rw [ha] at HRA
    clear HSW HRB ha
    go_wp2_with fail
    refine (HRA.out _ HL3.out).mono ?_
    rintro e w5 ⟨rfl, hlw⟩
    clear y0 y1 y2 y3 y4 y5
    have c2 := HC2.out.later hlw
    have u0 := c2.cell (i := 0) rfl; have u1 := c2.cell (i := 1) rfl; have u2 := c2.cell (i := 2) rfl; have u3 := c2.cell (i := 3) rfl; have u4 := c2.cell (i := 4) rfl; have u5 := c2.cell (i := 5) rfl
    have v0 := c2.frozen 0; have v1 := c2.frozen 1; have v2 := c2.frozen 2; have v3 := c2.frozen 3; have v4 := c2.frozen 4; have v5 := c2.frozen 5
    have k2 := turned_set6 w5 (w.heap.size + 1 + 1) (.int .i64 0) (.string ⟨#[]⟩) (.string ⟨#[]⟩) (.int .i64 0) (.slice none 0 0) (.slice none 0 0)
    have c3 := (HC3.out.later hlw).other k2 (by omega)
    have r0 := c3.cell (i := 0) rfl; have r1 := c3.cell (i := 1) rfl; have r2 := c3.cell (i := 2) rfl; have r3 := c3.cell (i := 3) rfl; have r4 := c3.cell (i := 4) rfl; have r5 := c3.cell (i := 5) rfl
    have t0 := c3.frozen 0; have t1 := c3.frozen 1; have t2 := c3.frozen 2; have t3 := c3.frozen 3; have t4 := c3.frozen 4; have t5 := c3.frozen 5
    have k3 := turned_set6 ((((((w5.setCell ⟨w.heap.size + 1 + 1, 0, none⟩ (.int .i64 0)).setCell ⟨w.heap.size + 1 + 1, 1, none⟩ (.string ⟨#[]⟩)).setCell ⟨w.heap.size + 1 + 1, 2, none⟩ (.string ⟨#[]⟩)).setCell ⟨w.heap.size + 1 + 1, 3, none⟩ (.int .i64 0)).setCell ⟨w.heap.size + 1 + 1, 4, none⟩ (.slice none 0 0)).setCell ⟨w.heap.size + 1 + 1, 5, none⟩ (.slice none 0 0)) (w.heap.size + 1 + 1 + 1) (.int .i64 0) (.string ⟨#[]⟩) (.string ⟨#[]⟩) (.int .i64 0) (.slice none 0 0) (.slice none 0 0)
    have HK2z := Lib.hid k2; have HK3z := Lib.hid k3; have HC2z := Lib.hid ((c2.set6 (.int .i64 0) (.string ⟨#[]⟩) (.string ⟨#[]⟩) (.int .i64 0) (.slice none 0 0) (.slice none 0 0)).other k3 (by omega)); have HC3z := Lib.hid (c3.set6 (.int .i64 0) (.string ⟨#[]⟩) (.string ⟨#[]⟩) (.int .i64 0) (.slice none 0 0) (.slice none 0 0))
    clear k2 k3 c2 c3
    have HL := Lib.hid (HL3.out.trans hlw)
    clear hlw HRA
    go_wp2
    exact bodyPost_ret (results_two rfl _ _ _ _ _ _ _ _ _ _ _ _ rfl rfl rfl HC2z.out HC3z.out Tryz.underlying58 rfl Tryz.primSize Tryz.primSize) rfl
      ⟨zeroC, zeroC, rfl, rfl, rfl, zeroC_ok _, zeroC_ok _, fresh_zero w, fresh_zero w, ((HL.out).turn HK2z.out (by omega)).turn HK3z.out (by omega)⟩
  rw [ha] at HRA
  cases hb : rightP b.v
  · obtain rfl : R = noneP := by rw [HSW.out]; simp [heedP, hb, swapR]
    rw [hb] at HRB
    clear HSW ha hb
    go_wp2_with fail
    refine (HRA.out _ HL3.out).mono ?_
    rintro e w5 ⟨rfl, hlw⟩
    clear y0 y1 y2 y3 y4 y5
    have HC4 := Lib.hid (HC2.out.later hlw); have HC5 := Lib.hid (HC3.out.later hlw); have HL5 := Lib.hid (HL3.out.trans hlw)
    obtain ⟨z0, z1, z2, z3, z4, z5⟩ := BoxAt.all (x := b) HC5.out
    clear hlw HRA
    go_wp2_with fail
    refine (HRB.out _ HL5.out).mono ?_
    rintro e w6 ⟨rfl, hlw⟩
    clear z0 z1 z2 z3 z4 z5
    have c2 := HC4.out.later hlw
    have u0 := c2.cell (i := 0) rfl; have u1 := c2.cell (i := 1) rfl; have u2 := c2.cell (i := 2) rfl; have u3 := c2.cell (i := 3) rfl; have u4 := c2.cell (i := 4) rfl; have u5 := c2.cell (i := 5) rfl
    have v0 := c2.frozen 0; have v1 := c2.frozen 1; have v2 := c2.frozen 2; have v3 := c2.frozen 3; have v4 := c2.frozen 4; have v5 := c2.frozen 5
    have k2 := turned_set6 w6 (w.heap.size + 1 + 1) (.int .i64 0) (.string ⟨#[]⟩) (.string ⟨#[]⟩) (.int .i64 0) (.slice none 0 0) (.slice none 0 0)
    have c3 := (HC5.out.later hlw).other k2 (by omega)
    have r0 := c3.cell (i := 0) rfl; have r1 := c3.cell (i := 1) rfl; have r2 := c3.cell (i := 2) rfl; have r3 := c3.cell (i := 3) rfl; have r4 := c3.cell (i := 4) rfl; have r5 := c3.cell (i := 5) rfl
    have t0 := c3.frozen 0; have t1 := c3.frozen 1; have t2 := c3.frozen 2; have t3 := c3.frozen 3; have t4 := c3.frozen 4; have t5 := c3.frozen 5
    have k3 := turned_set6 ((((((w6.setCell ⟨w.heap.size + 1 + 1, 0, none⟩ (.int .i64 0)).setCell ⟨w.heap.size + 1 + 1, 1, none⟩ (.string ⟨#[]⟩)).setCell ⟨w.heap.size + 1 + 1, 2, none⟩ (.string ⟨#[]⟩)).setCell ⟨w.heap.size + 1 + 1, 3, none⟩ (.int .i64 0)).setCell ⟨w.heap.size + 1 + 1, 4, none⟩ (.slice none 0 0)).setCell ⟨w.heap.size + 1 + 1, 5, none⟩ (.slice none 0 0)) (w.heap.size + 1 + 1 + 1) (.int .i64 0) (.string ⟨#[]⟩) (.string ⟨#[]⟩) (.int .i64 0) (.slice none 0 0) (.slice none 0 0)
    have HK2z := Lib.hid k2; have HK3z := Lib.hid k3; have HC2z := Lib.hid ((c2.set6 (.int .i64 0) (.string ⟨#[]⟩) (.string ⟨#[]⟩) (.int .i64 0) (.slice none 0 0) (.slice none 0 0)).other k3 (by omega)); have HC3z := Lib.hid (c3.set6 (.int .i64 0) (.string ⟨#[]⟩) (.string ⟨#[]⟩) (.int .i64 0) (.slice none 0 0) (.slice none 0 0))
    clear k2 k3 c2 c3
    have HL := Lib.hid (HL5.out.trans hlw)
    clear hlw HRB
    go_wp2
    exact bodyPost_ret (results_two rfl _ _ _ _ _ _ _ _ _ _ _ _ rfl rfl rfl HC2z.out HC3z.out Tryz.underlying58 rfl Tryz.primSize Tryz.primSize) rfl
      ⟨zeroC, zeroC, rfl, rfl, rfl, zeroC_ok _, zeroC_ok _, fresh_zero w, fresh_zero w, ((HL.out).turn HK2z.out (by omega)).turn HK3z.out (by omega)⟩
  obtain rfl : R = (a.v, b.v, true) := by rw [HSW.out]; simp [heedP, ha, hb, swapR]
  rw [hb] at HRB
  clear HSW ha hb
  go_wp2_with fail
  refine (HRA.out _ HL3.out).mono ?_
  rintro e w5 ⟨rfl, hlw⟩
  clear y0 y1 y2 y3 y4 y5
  have HC4 := Lib.hid (HC2.out.later hlw); have HC5 := Lib.hid (HC3.out.later hlw); have HL5 := Lib.hid (HL3.out.trans hlw)
  obtain ⟨z0, z1, z2, z3, z4, z5⟩ := BoxAt.all (x := b) HC5.out
  clear hlw HRA
  go_wp2_with fail
  refine (HRB.out _ HL5.out).mono ?_
  rintro e w6 ⟨rfl, hlw⟩
  clear z0 z1 z2 z3 z4 z5
  have HC6 := Lib.hid (HC4.out.later hlw); have HC7 := Lib.hid (HC5.out.later hlw); have HL6 := Lib.hid (HL5.out.trans hlw)
  clear hlw HRB HC2 HC3 HC4 HC5
  have HCA := Lib.hid (fun (w' : World) (h : Later w w') => primClone_any a w' (HAO.out.later h))
  have HCB := Lib.hid (fun (w' : World) (h : Later w w') => primClone_any b w' (HBO.out.later h))
  unfold prV at HCA HCB
  obtain ⟨y0, y1, y2, y3, y4, y5⟩ := BoxAt.all (x := a) HC6.out
  obtain ⟨z0, z1, z2, z3, z4, z5⟩ := BoxAt.all (x := b) HC7.out
  have hlt6 := HC7.out.lt
  go_upto_region 6 with fail
  go_region_with (first | (go_at_call 38; have hq := H7; clear hq; refine (HCB.out _ (Later.trans (HL6.out.trans HL7.out) (by first | exact Later.refl _ | exact (Later.refl _).drew | exact (Later.refl _).drewN _))).mono ?_; rintro e w8 ⟨u8, v8, rfl, hpr8⟩; obtain ⟨A8, c8, hv8, hcc8, hr8⟩ := hpr8.old.row; obtain ⟨B8, d8, hv9, hdd8, hs8⟩ := hpr8.new.row; subst hv8 hv9; have hlw : Later w7 w8 := Later.trans (by first | exact Later.refl _ | exact (Later.refl _).drew | exact (Later.refl _).drewN _) hpr8.later; have c2 := HC8.out.later hlw; have u0 := c2.cell (i := 0) rfl; have u1 := c2.cell (i := 1) rfl; have u2 := c2.cell (i := 2) rfl; have u3 := c2.cell (i := 3) rfl; have u4 := c2.cell (i := 4) rfl; have u5 := c2.cell (i := 5) rfl; have v0 := c2.frozen 0; have v1 := c2.frozen 1; have v2 := c2.frozen 2; have v3 := c2.frozen 3; have v4 := c2.frozen 4; have v5 := c2.frozen 5; have k2 := turned_set6 w8 (w.heap.size + 1 + 1) (.int .i64 a.v.kind) (.string a.v.name) (.string a.v.to) (.int .i64 a.v.place) (.slice A7 a.v.old.length c7) (.slice B7 a.v.new.length d7); have c3 := (HC9.out.later hlw).other k2 (by omega); have r0 := c3.cell (i := 0) rfl; have r1 := c3.cell (i := 1) rfl; have r2 := c3.cell (i := 2) rfl; have r3 := c3.cell (i := 3) rfl; have r4 := c3.cell (i := 4) rfl; have r5 := c3.cell (i := 5) rfl; have t0 := c3.frozen 0; have t1 := c3.frozen 1; have t2 := c3.frozen 2; have t3 := c3.frozen 3; have t4 := c3.frozen 4; have t5 := c3.frozen 5; have k3 := turned_set6 ((((((w8.setCell ⟨w.heap.size + 1 + 1, 0, none⟩ (.int .i64 a.v.kind)).setCell ⟨w.heap.size + 1 + 1, 1, none⟩ (.string a.v.name)).setCell ⟨w.heap.size + 1 + 1, 2, none⟩ (.string a.v.to)).setCell ⟨w.heap.size + 1 + 1, 3, none⟩ (.int .i64 a.v.place)).setCell ⟨w.heap.size + 1 + 1, 4, none⟩ (.slice A7 a.v.old.length c7)).setCell ⟨w.heap.size + 1 + 1, 5, none⟩ (.slice B7 a.v.new.length d7)) (w.heap.size + 1 + 1 + 1) (.int .i64 b.v.kind) (.string b.v.name) (.string b.v.to) (.int .i64 b.v.place) (.slice A8 b.v.old.length c8) (.slice B8 b.v.new.length d8); have HK2z := Lib.hid k2; have HK3z := Lib.hid k3; have HC2z := Lib.hid ((c2.set6 (.int .i64 a.v.kind) (.string a.v.name) (.string a.v.to) (.int .i64 a.v.place) (.slice A7 a.v.old.length c7) (.slice B7 a.v.new.length d7)).other k3 (by omega)); have HC3z := Lib.hid (c3.set6 (.int .i64 b.v.kind) (.string b.v.name) (.string b.v.to) (.int .i64 b.v.place) (.slice A8 b.v.old.length c8) (.slice B8 b.v.new.length d8)); clear k2 k3 c2 c3; have H8 : Hid (IsPr b.v w7 w8 (.slice A8 b.v.old.length c8) (.slice B8 b.v.new.length d8)) := hpr8.base (by first | exact Later.refl _ | exact (Later.refl _).drew | exact (Later.refl _).drewN _); have HU8 : Hid ((∀ k, (Value.slice A8 b.v.old.length c8).ownBlock = some k -> w7.heap.size <= k) /\ (∀ k, (Value.slice B8 b.v.new.length d8).ownBlock = some k -> w7.heap.size <= k)) := ⟨H8.out.old.block, H8.out.new.block⟩; have HL8 := Lib.hid hlw; clear hpr8 hlw hr8 hs8 hcc8 hdd8) | (go_at_call 38; refine (HCA.out _ (Later.trans HL6.out (by first | exact Later.refl _ | exact (Later.refl _).drew | exact (Later.refl _).drewN _))).mono ?_; rintro e w7 ⟨u7, v7, rfl, hpr7⟩; obtain ⟨A7, c7, hv7, hcc7, hr7⟩ := hpr7.old.row; obtain ⟨B7, d7, hv7', hdd7, hs7⟩ := hpr7.new.row; subst hv7 hv7'; have hlw : Later w6 w7 := Later.trans (by first | exact Later.refl _ | exact (Later.refl _).drew | exact (Later.refl _).drewN _) hpr7.later; have H7 : Hid (IsPr a.v w6 w7 (.slice A7 a.v.old.length c7) (.slice B7 a.v.new.length d7)) := hpr7.base (by first | exact Later.refl _ | exact (Later.refl _).drew | exact (Later.refl _).drewN _); have HU7 : Hid ((∀ k, (Value.slice A7 a.v.old.length c7).ownBlock = some k -> w6.heap.size <= k) /\ (∀ k, (Value.slice B7 a.v.new.length d7).ownBlock = some k -> w6.heap.size <= k)) := ⟨H7.out.old.block, H7.out.new.block⟩; have HL7 := Lib.hid hlw; have HC8 := Lib.hid (HC6.out.later hlw); have HC9 := Lib.hid (HC7.out.later hlw); obtain ⟨f0, f1, f2, f3, f4, f5⟩ := BoxAt.all (x := b) HC9.out; clear hpr7 hlw hr7 hs7 hcc7 hdd7))
  all_goals go_wp2
  all_goals
    have hle := HL7.out.le
    have l1 : Later w w7 := HL6.out.trans HL7.out
    have l2 : Later w w8 := l1.trans HL8.out
    have l3 := l2.turn HK2z.out (by omega)
    have l4 := l3.turn HK3z.out (by omega)
    have i1 := (((H7.out.base HL6.out).on HL8.out).off HK2z.out (fun k hk => by have := HU7.out.1 k hk; omega) (fun k hk => by have := HU7.out.2 k hk; omega) l3).off HK3z.out (fun k hk => by have := HU7.out.1 k hk; omega) (fun k hk => by have := HU7.out.2 k hk; omega) l4
    have i2 := ((H8.out.base l1).off HK2z.out (fun k hk => by have := HU8.out.1 k hk; omega) (fun k hk => by have := HU8.out.2 k hk; omega) l3).off HK3z.out (fun k hk => by have := HU8.out.1 k hk; omega) (fun k hk => by have := HU8.out.2 k hk; omega) l4
    have m1 := HAO.out.mild
    have m2 := HBO.out.mild
    obtain ⟨A9, c9, hv9, hc9, hr9⟩ := i1.old.row
    cases hv9
    obtain ⟨A9, c9, hv9, hc9', hr9'⟩ := i1.new.row
    cases hv9
    obtain ⟨A9, c9, hv9, hd9, hs9⟩ := i2.old.row
    cases hv9
    obtain ⟨A9, c9, hv9, hd9', hs9'⟩ := i2.new.row
    cases hv9
    have hw6 := HL6.out.le
    exact bodyPost_ret (results_two rfl _ _ _ _ _ _ _ _ _ _ _ _ rfl rfl rfl HC2z.out HC3z.out Tryz.underlying58 rfl Tryz.primSize Tryz.primSize) rfl
      ⟨⟨a.v, A7, a.v.old.length, c7, B7, a.v.new.length, d7⟩, ⟨b.v, A8, b.v.old.length, c8, B8, b.v.new.length, d8⟩, rfl, rfl, rfl, ⟨hr9, hr9', hc9, hc9', m1.omost, m1.nmost, m1.name, m1.to, m1.lo, m1.hi, m1.olds, m1.news⟩, ⟨hs9, hs9', hd9, hd9', m2.omost, m2.nmost, m2.name, m2.to, m2.lo, m2.hi, m2.olds, m2.news⟩,
        ⟨fun k hk => Nat.le_trans hw6 (HU7.out.1 k hk), fun k hk => Nat.le_trans hw6 (HU7.out.2 k hk)⟩, ⟨fun k hk => Nat.le_trans (Nat.le_trans hw6 hle) (HU8.out.1 k hk), fun k hk => Nat.le_trans (Nat.le_trans hw6 hle) (HU8.out.2 k hk)⟩, l4⟩

end Go.Proofs.YtlnjhimbgckdcaaGreat

/-
  What seq's pass comes to, as a call: a prim goes behind all of a row, which is written into.
-/
namespace Go.Proofs.YtlnjhimbgckdcaaGreat
open Go.RowKit Go.Maps

def GivesPass (w0 w : World) (v : Value) (r : Option (List Pr × Pr)) (e : Ending) (w' : World) : Prop :=
  w.grownBy w' v.ownBlock /\ match r with
  | some r => ∃ y ys, e = .returned (.tuple #[prV y, .bool true]) /\ y.v = r.2 /\ PrOk w' y /\ Fresh w y /\ OwnPs 58 w0 w' v ys /\ valsP ys = r.1 /\ ∀ z ∈ ys, Fresh w z
  | none => e = .returned (.tuple #[prV zeroC, .bool false])
theorem valsP_set (xs : List PrC) (i : Nat) (x : PrC) : valsP (xs.set i x) = (valsP xs).set i x.v := by simp [valsP, List.map_set]
theorem set_drop {dn l : List Pr} {k : Nat} {q a : Pr} (hk : dn.length = k) (hq : l[k]? = some q) : (dn ++ l.drop k).set k a = (dn ++ [a]) ++ l.drop (k + 1) := by
  obtain ⟨hl, rfl⟩ := List.getElem?_eq_some_iff.1 hq
  subst hk
  rw [List.drop_eq_getElem_cons hl, List.set_append_right _ _ (Nat.le_refl _), Nat.sub_self, List.set_cons_zero]
  simp
theorem get_drop {dn l : List Pr} {k : Nat} (hk : dn.length = k) : (dn ++ l.drop k)[k]? = l[k]? := by
  subst hk
  rw [List.getElem?_append_right (Nat.le_refl _), Nat.sub_self, List.getElem?_drop, Nat.add_zero]

set_option maxRecDepth 100000 in
set_option maxHeartbeats 1600000 in
theorem pass_any (x : PrC) (A : Option Addr) (n c : Nat) (xs : List PrC) (w0 w : World) (hx : PrOk w x) (hown : OwnPs 58 w0 w (.slice A n c) xs) (hxa : ∀ g, (Value.slice A n c).ownBlock = some g -> Away g x) (hn : n <= 65536) :
    Calls Tryz.prog 49 #[prV x, .slice A n c] w (GivesPass w0 w (.slice A n c) (swap1 x.v (valsP xs))) := by
  have hsz := hown.size
  obtain ⟨b0, b1, hl0⟩ := two_boxes w #[.int .i64 x.v.kind, .string x.v.name, .string x.v.to, .int .i64 x.v.place, .slice x.A x.n x.c, .slice x.B x.m x.d] #[.int .i64 0, .string ⟨#[]⟩, .string ⟨#[]⟩, .int .i64 0, .slice none 0 0, .slice none 0 0] 58
  have HX := Lib.hid hx; have HO := Lib.hid hown; have HXA := Lib.hid hxa
  have HXG : Hid (∀ g, w.heap.size <= g -> Away g x) := fun g hg => hx.away hg
  have HZG : Hid (∀ z ∈ xs, ∀ g, w.heap.size <= g -> Away g z) := fun z hz g hg => (hown.ok z hz).away hg
  have HVB : Hid (∀ b, (Value.slice A n c).ownBlock = some b -> b < w.heap.size) := hown.lt
  clear hx hown hxa
  unfold prV
  go_enter Tryz.func49, Tryz.ntmps49
  go_wp2
  generalize (w.alloc (.cells #[.int .i64 x.v.kind, .string x.v.name, .string x.v.to, .int .i64 x.v.place, .slice x.A x.n x.c, .slice x.B x.m x.d] 58)).alloc (.cells #[.int .i64 0, .string ⟨#[]⟩, .string ⟨#[]⟩, .int .i64 0, .slice none 0 0, .slice none 0 0] 58) = wb at b0 b1 hl0 ⊢
  have HB0 := Lib.hid b0; have HB1 := Lib.hid b1; have HL0 := Lib.hid hl0
  clear b0 b1 hl0
  go_loopg [10] (n + 1) (fun g s10 wr => ∃ (k : Nat) (y : PrC) (ys : List PrC) (dn : List Pr), k <= n /\ n - k <= g /\ s10 = .int .i64 k /\ dn.length = k /\ Hid (swap1 x.v ((valsP xs).take k) = some (dn, y.v)) /\ Hid (valsP ys = dn ++ (valsP xs).drop k) /\ Hid (OwnPs 58 w0 wr (.slice A n c) ys) /\ Hid (BoxAt wr w.heap.size (prL y).toArray 58) /\ Hid (BoxAt wr (w.heap.size + 1) #[.int .i64 0, .string ⟨#[]⟩, .string ⟨#[]⟩, .int .i64 0, .slice none 0 0, .slice none 0 0] 58) /\ Hid (PrOk wr y) /\ Hid (∀ g, (Value.slice A n c).ownBlock = some g -> Away g y) /\ Hid (∀ z ∈ y :: ys, Away w.heap.size z /\ Away (w.heap.size + 1) z) /\ Hid (∀ j z, j < k -> ys[j]? = some z -> Fresh w z) /\ Hid (w.grownBy wr (Value.slice A n c).ownBlock))
  case atStart =>
    refine ⟨0, x, xs, [], Nat.zero_le _, by omega, rfl, rfl, by simp [Hid, swap1], by simp [Hid], HO.out.on HL0.out, HB0.out, HB1.out, HX.out.later HL0.out, HXA.out, ?_, (fun j z hj => by omega), grown_later HL0.out _⟩
    intro z hz
    rcases List.mem_cons.1 hz with rfl | hz
    · exact ⟨HXG.out _ (Nat.le_refl _), HXG.out _ (by omega)⟩
    · exact ⟨HZG.out z hz _ (Nat.le_refl _), HZG.out z hz _ (by omega)⟩
  case round =>
    obtain ⟨k, y, ys, dn, hk, hg, rfl, hdn, hsw, hys, hown, hb0, hb1, hoky, hay, haz, hfr, hgr⟩ := hrel
    have hlez : w.heap.size + 1 < wr.heap.size := hb1.out.lt
    by_cases hlt : k < n
    · obtain ⟨b, o, q, rfl, hz, hokq, g0, g1, g2, g3, g4, g5⟩ := hown.out.ps.get hlt
      have hbw := HVB.out b rfl
      have hqat : (valsP xs)[k]? = some q.v := by
        have := valsP_at hz
        rw [hys.out, get_drop hdn] at this
        exact this
      have HQ := Lib.hid hqat
      have HLB : Hid (Later wr (wr.alloc (.cells #[.int .i64 q.v.kind, .string q.v.name, .string q.v.to, .int .i64 q.v.place, .slice q.A q.n q.c, .slice q.B q.m q.d] 58))) := (Later.refl wr).alloc _
      have HS := Lib.hid (swap_fresh y q _ (hoky.out.later HLB.out) (hokq.later HLB.out))
      obtain ⟨p0, p1, p2, p3, p4, p5⟩ := BoxAt.all (x := y) (hb0.out.later HLB.out)
      clear hokq hz hqat
      unfold prV at HS
      cases hs : swapP y.v q.v with
      | none =>
        rw [hs] at HS
        have HNO := Lib.hid (swap1_stop hsw.out HQ.out hs)
        rw [HNO.out]
        clear hs
        go_wp2_with fail
        refine HS.out.mono ?_
        rintro e w2 ⟨a, d, rfl, ha, hd, oka, okd, fra, frd, hl2⟩
        clear p0 p1 p2 p3 p4 p5 g0 g1 g2 g3 g4 g5 HS
        have hl := HLB.out.trans hl2
        have hle := hl2.le
        rw [World.size_alloc] at hle
        have HO2 := Lib.hid (hown.out.on hl); have HC0 := Lib.hid (hb0.out.later hl); have HC1 := Lib.hid (hb1.out.later hl); have HOA := Lib.hid oka; have HAA : Hid (Away b a) := fra.away (by rw [World.size_alloc]; omega)
        have HG2 := Lib.hid (grown_trans hgr.out (grown_later hl _))
        clear hl hl2 oka okd fra frd ha hd
        go_wp2_with (with_reducible show wpList _ _ _ ({ dst := none, op := Op.store 58 _ _, type := _, pos := _, after := _, guard := _ } :: _) _ _; refine Hid.out ?_)
        refine Lib.hid (wpList_store_ps rfl rfl 58 _ _ rfl Tryz.primSize a rfl rfl HO2.out hlt HOA.out HAA.out ?_)
        clear HO2
        intro w3 ho3 ht3
        have HC2 := Lib.hid (HC0.out.other ht3 (by omega)); have HC3 := Lib.hid (HC1.out.other ht3 (by omega)); have HG3 := Lib.hid (grown_trans HG2.out ht3)
        clear ho3 ht3 HC0 HC1 HG2
        go_wp2_with (with_reducible show wpList _ _ _ ({ dst := none, op := Op.store 58 _ _, type := _, pos := _, after := _, guard := _ } :: _) _ _; refine Hid.out ?_)
        refine Lib.hid (wpList_store_box rfl rfl 58 _ _ rfl Tryz.primSize _ d rfl rfl HC2.out rfl ?_)
        clear HC2
        intro w4 hc4 ht4
        have HC4 := Lib.hid (HC3.out.other ht4 (by omega)); have HG4 := Lib.hid (grown_new HG3.out ht4 (Nat.le_refl _))
        clear hc4 ht4 HC3 HG3
        go_wp2_with (with_reducible show wpList _ _ _ ({ dst := none, op := Op.store 58 _ _, type := _, pos := _, after := _, guard := _ } :: _) _ _; refine Hid.out ?_)
        refine Lib.hid (wpList_store_box rfl rfl 58 _ _ rfl Tryz.primSize _ zeroC rfl rfl HC4.out rfl ?_)
        intro w5 hc5 ht5
        have HC5 := Lib.hid hc5; have HG5 := Lib.hid (grown_new HG4.out ht5 (by omega))
        clear hc5 ht5 HC4
        go_wp2
        refine bodyPost_ret (results_one rfl _ _ _ _ _ _ _ _ rfl rfl HC5.out Tryz.underlying58 rfl Tryz.primSize) rfl ?_
        exact ⟨HG5.out, rfl⟩
      | some r =>
        obtain ⟨r1, r2⟩ := r
        rw [hs] at HS
        have HNX := Lib.hid (swap1_step hsw.out HQ.out hs)
        clear hs
        go_wp2_with fail
        refine HS.out.mono ?_
        rintro e w2 ⟨a, d, rfl, ha, hd, oka, okd, fra, frd, hl2⟩
        clear p0 p1 p2 p3 p4 p5 g0 g1 g2 g3 g4 g5 HS
        have hl := HLB.out.trans hl2
        have hle := hl2.le
        rw [World.size_alloc] at hle
        have hgs := hgr.out.size
        have HO2 := Lib.hid (hown.out.on hl); have HC0 := Lib.hid (hb0.out.later hl); have HC1 := Lib.hid (hb1.out.later hl); have HOA := Lib.hid oka; have HOD := Lib.hid okd; have HAA : Hid (Away b a) := fra.away (by rw [World.size_alloc]; omega)
        have HAD : Hid (Away b d) := frd.away (by rw [World.size_alloc]; omega)
        have HAG : Hid ((Away w.heap.size a /\ Away (w.heap.size + 1) a) /\ (Away w.heap.size d /\ Away (w.heap.size + 1) d)) := ⟨⟨fra.away (by rw [World.size_alloc]; omega), fra.away (by rw [World.size_alloc]; omega)⟩, frd.away (by rw [World.size_alloc]; omega), frd.away (by rw [World.size_alloc]; omega)⟩
        have HFA : Hid (Fresh w a) := ⟨fun z hz => Nat.le_trans (by rw [World.size_alloc]; omega) (fra.1 z hz), fun z hz => Nat.le_trans (by rw [World.size_alloc]; omega) (fra.2 z hz)⟩
        have HG2 := Lib.hid (grown_trans hgr.out (grown_later hl _))
        have HVA := Lib.hid ha; have HVD := Lib.hid hd
        clear hl hl2 oka okd fra frd ha hd
        go_wp2_with (with_reducible show wpList _ _ _ ({ dst := none, op := Op.store 58 _ _, type := _, pos := _, after := _, guard := _ } :: _) _ _; refine Hid.out ?_)
        refine Lib.hid (wpList_store_ps rfl rfl 58 _ _ rfl Tryz.primSize a rfl rfl HO2.out hlt HOA.out HAA.out ?_)
        clear HO2
        intro w3 ho3 ht3
        have HO3 := Lib.hid ho3; have HC2 := Lib.hid (HC0.out.other ht3 (by omega)); have HC3 := Lib.hid (HC1.out.other ht3 (by omega)); have HG3 := Lib.hid (grown_trans HG2.out ht3); have HOD3 := Lib.hid (HOD.out.off ht3 HAD.out)
        clear ho3 ht3 HC0 HC1 HG2 HOD
        go_wp2_with (with_reducible show wpList _ _ _ ({ dst := none, op := Op.store 58 _ _, type := _, pos := _, after := _, guard := _ } :: _) _ _; refine Hid.out ?_)
        refine Lib.hid (wpList_store_box rfl rfl 58 _ _ rfl Tryz.primSize _ d rfl rfl HC2.out rfl ?_)
        clear HC2
        intro w4 hc4 ht4
        have HAZ : Hid (∀ z ∈ d :: ys.set k a, Away w.heap.size z /\ Away (w.heap.size + 1) z) := fun z hz => by
          rcases List.mem_cons.1 hz with rfl | hz
          · exact HAG.out.2
          · rcases List.mem_or_eq_of_mem_set hz with h | rfl
            · exact haz.out z (List.mem_cons_of_mem _ h)
            · exact HAG.out.1
        have hll : Later w0 w4 := HO3.out.later.turn ht4 (Nat.le_trans HO.out.later.le (Nat.le_refl _))
        have HO4 : Hid (OwnPs 58 w0 w4 (.slice (some ⟨b, o, none⟩) n c) (ys.set k a)) := HO3.out.other ht4 (by show some b ≠ some w.heap.size; simp; omega) (fun z hz => (HAZ.out z (List.mem_cons_of_mem _ hz)).1) hll
        have HC4 := Lib.hid hc4; have HC5 := Lib.hid (HC3.out.other ht4 (by omega)); have HG4 := Lib.hid (grown_new HG3.out ht4 (Nat.le_refl _)); have HOD4 := Lib.hid (HOD3.out.off ht4 HAG.out.2.1)
        clear hc4 ht4 HC3 HG3 HO3 hll HOD3
        go_wp2
        go_roundg (n - (k + 1))
        case measure => omega
        case rel =>
          refine ⟨k + 1, d, ys.set k a, dn ++ [r1], by omega, Nat.le_refl _, by go_num, by simp; omega, by show _ = _; rw [HVD.out]; exact HNX.out, ?_, HO4, HC4, HC5, HOD4, fun g hg' => by cases hg'; exact HAD.out, HAZ, ?_, HG4⟩
          · show _ = _
            rw [valsP_set, hys.out, set_drop hdn HQ.out, HVA.out]
            rfl
          · intro j z hj hz
            by_cases e : j = k
            · subst e
              rw [List.getElem?_set_self (by have := hown.out.size; omega)] at hz
              cases hz
              exact HFA.out
            · rw [List.getElem?_set_ne (by omega)] at hz
              exact hfr.out j z (by omega) hz
    · obtain rfl : k = n := by omega
      have HSW : Hid (swap1 x.v (valsP xs) = some (dn, y.v)) := by
        have := hsw.out
        rw [List.take_of_length_le (by rw [valsP_length, hsz]; omega)] at this
        exact this
      have HYS : Hid (valsP ys = dn) := by
        have := hys.out
        rw [List.drop_of_length_le (by rw [valsP_length, hsz]; omega), List.append_nil] at this
        exact this
      have HFR : Hid (∀ z ∈ ys, Fresh w z) := fun z hz => by
        obtain ⟨j, hj, rfl⟩ := List.getElem_of_mem hz
        exact hfr.out j _ (by have := hown.out.size; omega) (List.getElem?_eq_getElem hj)
      have HC := Lib.hid (cloneP_any y wr hoky.out)
      obtain ⟨p0, p1, p2, p3, p4, p5⟩ := BoxAt.all (x := y) hb0.out
      unfold prV at HC
      go_wp2_with fail
      refine HC.out.mono ?_
      rintro e w2 ⟨a, rfl, ha, oka, fra, hl2⟩
      clear p0 p1 p2 p3 p4 p5 HC
      have hgs := hgr.out.size
      have HO2 := Lib.hid (hown.out.on hl2); have HC1 := Lib.hid (hb1.out.later hl2); have HOA := Lib.hid oka; have HVA := Lib.hid ha
      have HFA : Hid (Fresh w a) := ⟨fun z hz => Nat.le_trans (by omega) (fra.1 z hz), fun z hz => Nat.le_trans (by omega) (fra.2 z hz)⟩
      have HAA : Hid (Away (w.heap.size + 1) a) := fra.away (by omega)
      have HG2 := Lib.hid (grown_trans hgr.out (grown_later hl2 _))
      have HAZ : Hid (∀ z ∈ ys, Away (w.heap.size + 1) z) := fun z hz => (haz.out z (List.mem_cons_of_mem _ hz)).2
      clear hl2 oka fra ha
      go_wp2_with (with_reducible show wpList _ _ _ ({ dst := none, op := Op.store 58 _ _, type := _, pos := _, after := _, guard := _ } :: _) _ _; refine Hid.out ?_)
      refine Lib.hid (wpList_store_box rfl rfl 58 _ _ rfl Tryz.primSize _ a rfl rfl HC1.out rfl ?_)
      intro w3 hc3 ht3
      have HC3 := Lib.hid hc3; have HG3 := Lib.hid (grown_new HG2.out ht3 (by omega)); have HOA3 := Lib.hid (HOA.out.off ht3 HAA.out)
      have hll : Later w0 w3 := HO2.out.later.turn ht3 (Nat.le_trans HO.out.later.le (by omega))
      have HO3 : Hid (OwnPs 58 w0 w3 (.slice A k c) ys) := HO2.out.other ht3 (fun e => by have := HVB.out _ e; omega) HAZ.out hll
      clear hc3 ht3 hll HC1 HO2 HG2 HOA
      go_wp2
      refine bodyPost_ret (results_one rfl _ _ _ _ _ _ _ _ rfl rfl HC3.out Tryz.underlying58 rfl Tryz.primSize) rfl ?_
      refine ⟨HG3.out, ?_⟩
      rw [HSW.out]
      exact ⟨a, ys, rfl, HVA.out, HOA3.out, HFA.out, HO3.out, HYS.out, HFR.out⟩

end Go.Proofs.YtlnjhimbgckdcaaGreat

/-
  The statement of Invert's loop: in whatever order its operations come.
-/
namespace Go.Proofs.YtlnjhimbgckdcaaGreat
open Go.RowKit Go.Maps

structure InvD where
  y : PrC
  gs : Nat
  v2 : Value
theorem BoxAt.grown {w w' : World} {g : Nat} {cs : Array Value} {t : TypeId} {r : Option Nat} (h : BoxAt w g cs t) (hg : w.grownBy w' r) (hne : some g ≠ r) : BoxAt w' g cs t := (hg.block g h.lt hne).trans h
theorem OwnPs.noBox {e t : TypeId} {w0 w : World} {v : Value} {xs : List PrC} {g : Nat} {cs : Array Value} (h : OwnPs e w0 w v xs) (hb : BoxAt w g cs t) (hne : t ≠ e) : v.ownBlock ≠ some g := by
  rcases h.own.1.2 with ⟨rfl, _⟩ | ⟨g', cap, cur, rfl, _, hh, _⟩
  · simp [Value.ownBlock]
  · intro e
    simp only [Value.ownBlock, Option.some.injEq] at e
    subst e
    unfold BoxAt at hb
    rw [hb] at hh
    simp at hh
    exact hne hh.2

end Go.Proofs.YtlnjhimbgckdcaaGreat
