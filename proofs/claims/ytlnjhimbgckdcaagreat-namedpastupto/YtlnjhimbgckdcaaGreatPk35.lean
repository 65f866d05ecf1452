import Derived.Test.YtlnjhimbgckdcaaGreatPk34
import Derived.Test.YtlnjhimbgckdcaaGreatPk31
import Derived.Test.YtlnjhimbgckdcaaGreatPk9

/-
  What the document's Swap of two prims comes to, with whose the rows are.
-/
namespace Go.Proofs.YtlnjhimbgckdcaaGreat
open Go.RowKit Go.Maps

set_option maxRecDepth 100000 in
set_option maxHeartbeats 3200000 in
theorem refSwap_w (x y : PrC) (w : World) (hx : PrOk w x) (hy : PrOk w y) :
    Calls Tryz.prog 51 #[prV x, prV y] w (GivesW x y (swapR (swapP x.v y.v)) w) := by
  obtain ⟨b0, b1, b2, b3, hl⟩ := four_boxes w #[.int .i64 x.v.kind, .string x.v.name, .string x.v.to, .int .i64 x.v.place, .slice x.A x.n x.c, .slice x.B x.m x.d] #[.int .i64 y.v.kind, .string y.v.name, .string y.v.to, .int .i64 y.v.place, .slice y.A y.n y.c, .slice y.B y.m y.d] #[.int .i64 0, .string ⟨#[]⟩, .string ⟨#[]⟩, .int .i64 0, .slice none 0 0, .slice none 0 0] #[.int .i64 0, .string ⟨#[]⟩, .string ⟨#[]⟩, .int .i64 0, .slice none 0 0, .slice none 0 0] 89
  have b4 := five_boxes w #[.int .i64 x.v.kind, .string x.v.name, .string x.v.to, .int .i64 x.v.place, .slice x.A x.n x.c, .slice x.B x.m x.d] #[.int .i64 y.v.kind, .string y.v.name, .string y.v.to, .int .i64 y.v.place, .slice y.A y.n y.c, .slice y.B y.m y.d] #[.int .i64 0, .string ⟨#[]⟩, .string ⟨#[]⟩, .int .i64 0, .slice none 0 0, .slice none 0 0] #[.int .i64 0, .string ⟨#[]⟩, .string ⟨#[]⟩, .int .i64 0, .slice none 0 0, .slice none 0 0] #[.int .i64 0, .string ⟨#[]⟩, .string ⟨#[]⟩, .int .i64 0, .slice none 0 0, .slice none 0 0] 89
  replace b0 := b0.alloc (.cells #[.int .i64 0, .string ⟨#[]⟩, .string ⟨#[]⟩, .int .i64 0, .slice none 0 0, .slice none 0 0] 89)
  replace b1 := b1.alloc (.cells #[.int .i64 0, .string ⟨#[]⟩, .string ⟨#[]⟩, .int .i64 0, .slice none 0 0, .slice none 0 0] 89)
  replace b2 := b2.alloc (.cells #[.int .i64 0, .string ⟨#[]⟩, .string ⟨#[]⟩, .int .i64 0, .slice none 0 0, .slice none 0 0] 89)
  replace b3 := b3.alloc (.cells #[.int .i64 0, .string ⟨#[]⟩, .string ⟨#[]⟩, .int .i64 0, .slice none 0 0, .slice none 0 0] 89)
  replace hl := hl.alloc (.cells #[.int .i64 0, .string ⟨#[]⟩, .string ⟨#[]⟩, .int .i64 0, .slice none 0 0, .slice none 0 0] 89)
  have HR1 := Lib.hid (fun (w' : World) (h : Later w w') => refRight_v (hx.later h).at)
  have HR2 := Lib.hid (fun (w' : World) (h : Later w w') => refRight_v (hy.later h).at)
  have HTN := Lib.hid (fun (hp : rightP x.v = true) (hq : rightP y.v = true) (w' : World) (h : Later w w') => refTwo_any x y w' (hx.later h) (hy.later h) hp hq)
  have HX := Lib.hid hx; have HY := Lib.hid hy
  clear hx hy
  unfold prV at HR1 HR2 HTN ⊢
  cases hp : rightP x.v
  · rw [swapR_none (swapP_not _ _ (by simp [hp]))]
    rw [hp] at HR1
    clear HR2 HTN hp
    go_enter Tryz.func51, Tryz.ntmps51
    go_wp2_with fail
    refine (HR1.out _ hl).mono ?_
    generalize ((((w.alloc (.cells #[.int .i64 x.v.kind, .string x.v.name, .string x.v.to, .int .i64 x.v.place, .slice x.A x.n x.c, .slice x.B x.m x.d] 89)).alloc (.cells #[.int .i64 y.v.kind, .string y.v.name, .string y.v.to, .int .i64 y.v.place, .slice y.A y.n y.c, .slice y.B y.m y.d] 89)).alloc (.cells #[.int .i64 0, .string ⟨#[]⟩, .string ⟨#[]⟩, .int .i64 0, .slice none 0 0, .slice none 0 0] 89)).alloc (.cells #[.int .i64 0, .string ⟨#[]⟩, .string ⟨#[]⟩, .int .i64 0, .slice none 0 0, .slice none 0 0] 89)).alloc (.cells #[.int .i64 0, .string ⟨#[]⟩, .string ⟨#[]⟩, .int .i64 0, .slice none 0 0, .slice none 0 0] 89) = wb at b0 b1 b2 b3 b4 hl ⊢
    rintro e w1 ⟨rfl, hlw⟩
    have hsz := b4.lt
    have H2 := Lib.hid (b2.later hlw); have H3 := Lib.hid (b3.later hlw); have H4 := Lib.hid (b4.later hlw); have HL := Lib.hid (hl.trans hlw)
    clear b0 b1 b2 b3 b4 hl hlw HR1
    have c2 := H2.out; have c3 := H3.out
    have u0 := c2.cell (i := 0) rfl; have u1 := c2.cell (i := 1) rfl; have u2 := c2.cell (i := 2) rfl; have u3 := c2.cell (i := 3) rfl; have u4 := c2.cell (i := 4) rfl; have u5 := c2.cell (i := 5) rfl
    have v0 := c2.frozen 0; have v1 := c2.frozen 1; have v2 := c2.frozen 2; have v3 := c2.frozen 3; have v4 := c2.frozen 4; have v5 := c2.frozen 5
    have r0 := c3.cell (i := 0) rfl; have r1 := c3.cell (i := 1) rfl; have r2 := c3.cell (i := 2) rfl; have r3 := c3.cell (i := 3) rfl; have r4 := c3.cell (i := 4) rfl; have r5 := c3.cell (i := 5) rfl
    have t0 := c3.frozen 0; have t1 := c3.frozen 1; have t2 := c3.frozen 2; have t3 := c3.frozen 3; have t4 := c3.frozen 4; have t5 := c3.frozen 5
    have c4 := H4.out
    have z0 := c4.cell (i := 0) rfl; have z1 := c4.cell (i := 1) rfl; have z2 := c4.cell (i := 2) rfl; have z3 := c4.cell (i := 3) rfl; have z4 := c4.cell (i := 4) rfl; have z5 := c4.cell (i := 5) rfl
    clear c4
    have k2 := turned_set6 w1 (w.heap.size + 1 + 1) (.int .i64 0) (.string ⟨#[]⟩) (.string ⟨#[]⟩) (.int .i64 0) (.slice none 0 0) (.slice none 0 0)
    have k3 := turned_set6 ((((((w1.setCell ⟨w.heap.size + 1 + 1, 0, none⟩ (.int .i64 0)).setCell ⟨w.heap.size + 1 + 1, 1, none⟩ (.string ⟨#[]⟩)).setCell ⟨w.heap.size + 1 + 1, 2, none⟩ (.string ⟨#[]⟩)).setCell ⟨w.heap.size + 1 + 1, 3, none⟩ (.int .i64 0)).setCell ⟨w.heap.size + 1 + 1, 4, none⟩ (.slice none 0 0)).setCell ⟨w.heap.size + 1 + 1, 5, none⟩ (.slice none 0 0)) (w.heap.size + 1 + 1 + 1) (.int .i64 0) (.string ⟨#[]⟩) (.string ⟨#[]⟩) (.int .i64 0) (.slice none 0 0) (.slice none 0 0)
    have HK2 := Lib.hid k2; have HK3 := Lib.hid k3; have HC2 := Lib.hid ((c2.set6 (.int .i64 0) (.string ⟨#[]⟩) (.string ⟨#[]⟩) (.int .i64 0) (.slice none 0 0) (.slice none 0 0)).other k3 (by omega)); have HC3 := Lib.hid ((c3.other k2 (by omega)).set6 (.int .i64 0) (.string ⟨#[]⟩) (.string ⟨#[]⟩) (.int .i64 0) (.slice none 0 0) (.slice none 0 0))
    clear k2 k3 c2 c3
    go_upto_region 3 with fail
    go_region
    go_wp2
    have l2 := (((HL.out).turn HK2.out (by omega)).turn HK3.out (by omega)).drew
    exact bodyPost_ret (results_two rfl _ _ _ _ _ _ _ _ _ _ _ _ rfl rfl rfl (HC2.out.later (Later.refl _).drew) (HC3.out.later (Later.refl _).drew) Tryz.underlying89 rfl Tryz.refPrimSize Tryz.refPrimSize) rfl
      ⟨zeroC, zeroC, rfl, rfl, rfl, (fun _ _ _ => ⟨zeroC_ok _, zeroC_ok _⟩), l2⟩
  cases hq : rightP y.v
  · rw [swapR_none (swapP_not _ _ (by simp [hq]))]
    rw [hp] at HR1
    rw [hq] at HR2
    clear HTN hp hq
    go_enter Tryz.func51, Tryz.ntmps51
    go_wp2_with fail
    refine (HR1.out _ hl).mono ?_
    generalize ((((w.alloc (.cells #[.int .i64 x.v.kind, .string x.v.name, .string x.v.to, .int .i64 x.v.place, .slice x.A x.n x.c, .slice x.B x.m x.d] 89)).alloc (.cells #[.int .i64 y.v.kind, .string y.v.name, .string y.v.to, .int .i64 y.v.place, .slice y.A y.n y.c, .slice y.B y.m y.d] 89)).alloc (.cells #[.int .i64 0, .string ⟨#[]⟩, .string ⟨#[]⟩, .int .i64 0, .slice none 0 0, .slice none 0 0] 89)).alloc (.cells #[.int .i64 0, .string ⟨#[]⟩, .string ⟨#[]⟩, .int .i64 0, .slice none 0 0, .slice none 0 0] 89)).alloc (.cells #[.int .i64 0, .string ⟨#[]⟩, .string ⟨#[]⟩, .int .i64 0, .slice none 0 0, .slice none 0 0] 89) = wb at b0 b1 b2 b3 b4 hl ⊢
    rintro e w1 ⟨rfl, hlw⟩
    have hsz := b4.lt
    obtain ⟨q0, q1, q2, q3, q4, q5⟩ := BoxAt.all (x := y) (b1.later hlw)
    have HB0 := Lib.hid (b0.later hlw); have HB1 := Lib.hid (b1.later hlw); have HB2 := Lib.hid (b2.later hlw); have HB3 := Lib.hid (b3.later hlw); have HB4 := Lib.hid (b4.later hlw); have HL1 := Lib.hid (hl.trans hlw)
    clear b0 b1 b2 b3 b4 hl hlw HR1
    go_wp2_with fail
    refine (HR2.out _ HL1.out).mono ?_
    rintro e w2 ⟨rfl, hlw⟩
    clear q0 q1 q2 q3 q4 q5
    have H2 := Lib.hid (HB2.out.later hlw); have H3 := Lib.hid (HB3.out.later hlw); have H4 := Lib.hid (HB4.out.later hlw); have HL := Lib.hid (HL1.out.trans hlw)
    clear hlw HR2 HB0 HB1 HB2 HB3 HB4
    have c2 := H2.out; have c3 := H3.out
    have u0 := c2.cell (i := 0) rfl; have u1 := c2.cell (i := 1) rfl; have u2 := c2.cell (i := 2) rfl; have u3 := c2.cell (i := 3) rfl; have u4 := c2.cell (i := 4) rfl; have u5 := c2.cell (i := 5) rfl
    have v0 := c2.frozen 0; have v1 := c2.frozen 1; have v2 := c2.frozen 2; have v3 := c2.frozen 3; have v4 := c2.frozen 4; have v5 := c2.frozen 5
    have r0 := c3.cell (i := 0) rfl; have r1 := c3.cell (i := 1) rfl; have r2 := c3.cell (i := 2) rfl; have r3 := c3.cell (i := 3) rfl; have r4 := c3.cell (i := 4) rfl; have r5 := c3.cell (i := 5) rfl
    have t0 := c3.frozen 0; have t1 := c3.frozen 1; have t2 := c3.frozen 2; have t3 := c3.frozen 3; have t4 := c3.frozen 4; have t5 := c3.frozen 5
    have c4 := H4.out
    have z0 := c4.cell (i := 0) rfl; have z1 := c4.cell (i := 1) rfl; have z2 := c4.cell (i := 2) rfl; have z3 := c4.cell (i := 3) rfl; have z4 := c4.cell (i := 4) rfl; have z5 := c4.cell (i := 5) rfl
    clear c4
    have k2 := turned_set6 w2 (w.heap.size + 1 + 1) (.int .i64 0) (.string ⟨#[]⟩) (.string ⟨#[]⟩) (.int .i64 0) (.slice none 0 0) (.slice none 0 0)
    have k3 := turned_set6 ((((((w2.setCell ⟨w.heap.size + 1 + 1, 0, none⟩ (.int .i64 0)).setCell ⟨w.heap.size + 1 + 1, 1, none⟩ (.string ⟨#[]⟩)).setCell ⟨w.heap.size + 1 + 1, 2, none⟩ (.string ⟨#[]⟩)).setCell ⟨w.heap.size + 1 + 1, 3, none⟩ (.int .i64 0)).setCell ⟨w.heap.size + 1 + 1, 4, none⟩ (.slice none 0 0)).setCell ⟨w.heap.size + 1 + 1, 5, none⟩ (.slice none 0 0)) (w.heap.size + 1 + 1 + 1) (.int .i64 0) (.string ⟨#[]⟩) (.string ⟨#[]⟩) (.int .i64 0) (.slice none 0 0) (.slice none 0 0)
    have HK2 := Lib.hid k2; have HK3 := Lib.hid k3; have HC2 := Lib.hid ((c2.set6 (.int .i64 0) (.string ⟨#[]⟩) (.string ⟨#[]⟩) (.int .i64 0) (.slice none 0 0) (.slice none 0 0)).other k3 (by omega)); have HC3 := Lib.hid ((c3.other k2 (by omega)).set6 (.int .i64 0) (.string ⟨#[]⟩) (.string ⟨#[]⟩) (.int .i64 0) (.slice none 0 0) (.slice none 0 0))
    clear k2 k3 c2 c3
    go_upto_region 3 with fail
    go_region
    go_wp2
    have l2 := (((HL.out).turn HK2.out (by omega)).turn HK3.out (by omega)).drew
    exact bodyPost_ret (results_two rfl _ _ _ _ _ _ _ _ _ _ _ _ rfl rfl rfl (HC2.out.later (Later.refl _).drew) (HC3.out.later (Later.refl _).drew) Tryz.underlying89 rfl Tryz.refPrimSize Tryz.refPrimSize) rfl
      ⟨zeroC, zeroC, rfl, rfl, rfl, (fun _ _ _ => ⟨zeroC_ok _, zeroC_ok _⟩), l2⟩
  rw [hp] at HR1
  rw [hq] at HR2
  generalize hR : swapR (swapP x.v y.v) = RR
  have HRR := Lib.hid hR
  clear hR
  go_enter Tryz.func51, Tryz.ntmps51
  go_wp2_with fail
  refine (HR1.out _ hl).mono ?_
  generalize ((((w.alloc (.cells #[.int .i64 x.v.kind, .string x.v.name, .string x.v.to, .int .i64 x.v.place, .slice x.A x.n x.c, .slice x.B x.m x.d] 89)).alloc (.cells #[.int .i64 y.v.kind, .string y.v.name, .string y.v.to, .int .i64 y.v.place, .slice y.A y.n y.c, .slice y.B y.m y.d] 89)).alloc (.cells #[.int .i64 0, .string ⟨#[]⟩, .string ⟨#[]⟩, .int .i64 0, .slice none 0 0, .slice none 0 0] 89)).alloc (.cells #[.int .i64 0, .string ⟨#[]⟩, .string ⟨#[]⟩, .int .i64 0, .slice none 0 0, .slice none 0 0] 89)).alloc (.cells #[.int .i64 0, .string ⟨#[]⟩, .string ⟨#[]⟩, .int .i64 0, .slice none 0 0, .slice none 0 0] 89) = wb at b0 b1 b2 b3 b4 hl ⊢
  rintro e w1 ⟨rfl, hlw⟩
  have hsz := b4.lt
  obtain ⟨q0, q1, q2, q3, q4, q5⟩ := BoxAt.all (x := y) (b1.later hlw)
  have HB0 := Lib.hid (b0.later hlw); have HB1 := Lib.hid (b1.later hlw); have HB2 := Lib.hid (b2.later hlw); have HB3 := Lib.hid (b3.later hlw); have HB4 := Lib.hid (b4.later hlw); have HL1 := Lib.hid (hl.trans hlw)
  clear b0 b1 b2 b3 b4 hl hlw HR1
  go_wp2_with fail
  refine (HR2.out _ HL1.out).mono ?_
  rintro e w2 ⟨rfl, hlw⟩
  clear q0 q1 q2 q3 q4 q5
  obtain ⟨p0, p1, p2, p3, p4, p5⟩ := BoxAt.all (x := x) (HB0.out.later hlw)
  obtain ⟨q0, q1, q2, q3, q4, q5⟩ := BoxAt.all (x := y) (HB1.out.later hlw)
  have HL2 := Lib.hid (HL1.out.trans hlw); have HD2 := Lib.hid (HB2.out.later hlw); have HD3 := Lib.hid (HB3.out.later hlw); have HD4 := Lib.hid (HB4.out.later hlw)
  clear hlw HR2
  go_wp2_with fail
  refine (HTN.out hp hq _ HL2.out).mono ?_
  rintro e w3 ⟨a, b, rfl, ha, hb, hao, hlw⟩
  clear p0 p1 p2 p3 p4 p5 q0 q1 q2 q3 q4 q5 HTN HB0 HB1 HB2 HB3 HB4
  have hsw : RR = swapR (heedP (a.v, b.v, (twoP x.v y.v).2.2)) := by rw [← HRR.out, heed_two hp hq ha hb rfl]
  have HSW := Lib.hid hsw
  clear hsw
  generalize (twoP x.v y.v).2.2 = t at HSW ⊢
  clear ha hb HRR
  obtain ⟨hao1, hbo1⟩ := hao w HX.out HY.out
  have HAO := Lib.hid hao1; have HBO := Lib.hid hbo1; have HGW := Lib.hid hao
  clear hao hao1 hbo1 hp hq HX HY
  obtain ⟨d0, d1, hl2⟩ := two_boxes w3 #[.int .i64 a.v.kind, .string a.v.name, .string a.v.to, .int .i64 a.v.place, .slice a.A a.n a.c, .slice a.B a.m a.d] #[.int .i64 b.v.kind, .string b.v.name, .string b.v.to, .int .i64 b.v.place, .slice b.A b.n b.c, .slice b.B b.m b.d] 89
  have hlw2 := hlw.trans hl2
  have H2 := Lib.hid (HD2.out.later hlw2); have H3 := Lib.hid (HD3.out.later hlw2); have H4 := Lib.hid (HD4.out.later hlw2); have HL := Lib.hid (HL2.out.trans hlw2)
  have hs3 := (HD4.out.later hlw).lt
  clear hlw hlw2 hl2 HD2 HD3 HD4
  unfold prV
  go_upto_region 5 with fail
  generalize (w3.alloc (.cells #[.int .i64 a.v.kind, .string a.v.name, .string a.v.to, .int .i64 a.v.place, .slice a.A a.n a.c, .slice a.B a.m a.d] 89)).alloc (.cells #[.int .i64 b.v.kind, .string b.v.name, .string b.v.to, .int .i64 b.v.place, .slice b.A b.n b.c, .slice b.B b.m b.d] 89) = w4 at d0 d1 H2 H3 H4 HL ⊢
  generalize hgb : w3.heap.size + 1 = gb at d1 ⊢
  generalize hga : w3.heap.size = ga at d0 ⊢
  have HA := Lib.hid d0; have HB := Lib.hid d1
  clear d0 d1
  have HRA := Lib.hid (fun (w' : World) (h : Later w w') => refRight_v (HAO.out.later h).at)
  have HRB := Lib.hid (fun (w' : World) (h : Later w w') => refRight_v (HBO.out.later h).at)
  unfold prV at HRA HRB
  cases t
  · obtain rfl : RR = noneP := by rw [HSW.out, heed_false]; rfl
    clear HSW HRA HRB
    have c2 := H2.out; have c3 := H3.out
    have u0 := c2.cell (i := 0) rfl; have u1 := c2.cell (i := 1) rfl; have u2 := c2.cell (i := 2) rfl; have u3 := c2.cell (i := 3) rfl; have u4 := c2.cell (i := 4) rfl; have u5 := c2.cell (i := 5) rfl
    have v0 := c2.frozen 0; have v1 := c2.frozen 1; have v2 := c2.frozen 2; have v3 := c2.frozen 3; have v4 := c2.frozen 4; have v5 := c2.frozen 5
    have r0 := c3.cell (i := 0) rfl; have r1 := c3.cell (i := 1) rfl; have r2 := c3.cell (i := 2) rfl; have r3 := c3.cell (i := 3) rfl; have r4 := c3.cell (i := 4) rfl; have r5 := c3.cell (i := 5) rfl
    have t0 := c3.frozen 0; have t1 := c3.frozen 1; have t2 := c3.frozen 2; have t3 := c3.frozen 3; have t4 := c3.frozen 4; have t5 := c3.frozen 5
    have c4 := H4.out
    have z0 := c4.cell (i := 0) rfl; have z1 := c4.cell (i := 1) rfl; have z2 := c4.cell (i := 2) rfl; have z3 := c4.cell (i := 3) rfl; have z4 := c4.cell (i := 4) rfl; have z5 := c4.cell (i := 5) rfl
    clear c4
    have k2 := turned_set6 w4 (w.heap.size + 1 + 1) (.int .i64 0) (.string ⟨#[]⟩) (.string ⟨#[]⟩) (.int .i64 0) (.slice none 0 0) (.slice none 0 0)
    have k3 := turned_set6 ((((((w4.setCell ⟨w.heap.size + 1 + 1, 0, none⟩ (.int .i64 0)).setCell ⟨w.heap.size + 1 + 1, 1, none⟩ (.string ⟨#[]⟩)).setCell ⟨w.heap.size + 1 + 1, 2, none⟩ (.string ⟨#[]⟩)).setCell ⟨w.heap.size + 1 + 1, 3, none⟩ (.int .i64 0)).setCell ⟨w.heap.size + 1 + 1, 4, none⟩ (.slice none 0 0)).setCell ⟨w.heap.size + 1 + 1, 5, none⟩ (.slice none 0 0)) (w.heap.size + 1 + 1 + 1) (.int .i64 0) (.string ⟨#[]⟩) (.string ⟨#[]⟩) (.int .i64 0) (.slice none 0 0) (.slice none 0 0)
    have HK2 := Lib.hid k2; have HK3 := Lib.hid k3; have HC2 := Lib.hid ((c2.set6 (.int .i64 0) (.string ⟨#[]⟩) (.string ⟨#[]⟩) (.int .i64 0) (.slice none 0 0) (.slice none 0 0)).other k3 (by omega)); have HC3 := Lib.hid ((c3.other k2 (by omega)).set6 (.int .i64 0) (.string ⟨#[]⟩) (.string ⟨#[]⟩) (.int .i64 0) (.slice none 0 0) (.slice none 0 0))
    clear k2 k3 c2 c3
    go_upto_region 6 with fail
    go_region
    go_wp2
    have l2 := (((HL.out).turn HK2.out (by omega)).turn HK3.out (by omega)).drew
    exact bodyPost_ret (results_two rfl _ _ _ _ _ _ _ _ _ _ _ _ rfl rfl rfl (HC2.out.later (Later.refl _).drew) (HC3.out.later (Later.refl _).drew) Tryz.underlying89 rfl Tryz.refPrimSize Tryz.refPrimSize) rfl
      ⟨zeroC, zeroC, rfl, rfl, rfl, (fun _ _ _ => ⟨zeroC_ok _, zeroC_ok _⟩), l2⟩
  obtain ⟨y0, y1, y2, y3, y4, y5⟩ := BoxAt.all (x := a) HA.out
  cases ha : rightP a.v
  · obtain rfl : RR = noneP := by rw [HSW.out]; simp [heedP, ha, swapR]
    rw [ha] at HRA
    clear HSW HRB ha
    go_wp2_with fail
    refine (HRA.out _ HL.out).mono ?_
    rintro e w5 ⟨rfl, hlw⟩
    clear y0 y1 y2 y3 y4 y5 HRA
    replace H2 := Lib.hid (H2.out.later hlw); replace H3 := Lib.hid (H3.out.later hlw); replace H4 := Lib.hid (H4.out.later hlw); replace HL := Lib.hid (HL.out.trans hlw); replace HA := Lib.hid (HA.out.later hlw); replace HB := Lib.hid (HB.out.later hlw)
    clear hlw
    have c2 := H2.out; have c3 := H3.out
    have u0 := c2.cell (i := 0) rfl; have u1 := c2.cell (i := 1) rfl; have u2 := c2.cell (i := 2) rfl; have u3 := c2.cell (i := 3) rfl; have u4 := c2.cell (i := 4) rfl; have u5 := c2.cell (i := 5) rfl
    have v0 := c2.frozen 0; have v1 := c2.frozen 1; have v2 := c2.frozen 2; have v3 := c2.frozen 3; have v4 := c2.frozen 4; have v5 := c2.frozen 5
    have r0 := c3.cell (i := 0) rfl; have r1 := c3.cell (i := 1) rfl; have r2 := c3.cell (i := 2) rfl; have r3 := c3.cell (i := 3) rfl; have r4 := c3.cell (i := 4) rfl; have r5 := c3.cell (i := 5) rfl
    have t0 := c3.frozen 0; have t1 := c3.frozen 1; have t2 := c3.frozen 2; have t3 := c3.frozen 3; have t4 := c3.frozen 4; have t5 := c3.frozen 5
    have c4 := H4.out
    have z0 := c4.cell (i := 0) rfl; have z1 := c4.cell (i := 1) rfl; have z2 := c4.cell (i := 2) rfl; have z3 := c4.cell (i := 3) rfl; have z4 := c4.cell (i := 4) rfl; have z5 := c4.cell (i := 5) rfl
    clear c4
    have k2 := turned_set6 w5 (w.heap.size + 1 + 1) (.int .i64 0) (.string ⟨#[]⟩) (.string ⟨#[]⟩) (.int .i64 0) (.slice none 0 0) (.slice none 0 0)
    have k3 := turned_set6 ((((((w5.setCell ⟨w.heap.size + 1 + 1, 0, none⟩ (.int .i64 0)).setCell ⟨w.heap.size + 1 + 1, 1, none⟩ (.string ⟨#[]⟩)).setCell ⟨w.heap.size + 1 + 1, 2, none⟩ (.string ⟨#[]⟩)).setCell ⟨w.heap.size + 1 + 1, 3, none⟩ (.int .i64 0)).setCell ⟨w.heap.size + 1 + 1, 4, none⟩ (.slice none 0 0)).setCell ⟨w.heap.size + 1 + 1, 5, none⟩ (.slice none 0 0)) (w.heap.size + 1 + 1 + 1) (.int .i64 0) (.string ⟨#[]⟩) (.string ⟨#[]⟩) (.int .i64 0) (.slice none 0 0) (.slice none 0 0)
    have HK2 := Lib.hid k2; have HK3 := Lib.hid k3; have HC2 := Lib.hid ((c2.set6 (.int .i64 0) (.string ⟨#[]⟩) (.string ⟨#[]⟩) (.int .i64 0) (.slice none 0 0) (.slice none 0 0)).other k3 (by omega)); have HC3 := Lib.hid ((c3.other k2 (by omega)).set6 (.int .i64 0) (.string ⟨#[]⟩) (.string ⟨#[]⟩) (.int .i64 0) (.slice none 0 0) (.slice none 0 0))
    clear k2 k3 c2 c3
    go_upto_region 6 with fail
    go_region
    go_wp2
    have l2 := (((HL.out).turn HK2.out (by omega)).turn HK3.out (by omega)).drew
    exact bodyPost_ret (results_two rfl _ _ _ _ _ _ _ _ _ _ _ _ rfl rfl rfl (HC2.out.later (Later.refl _).drew) (HC3.out.later (Later.refl _).drew) Tryz.underlying89 rfl Tryz.refPrimSize Tryz.refPrimSize) rfl
      ⟨zeroC, zeroC, rfl, rfl, rfl, (fun _ _ _ => ⟨zeroC_ok _, zeroC_ok _⟩), l2⟩
  rw [ha] at HRA
  cases hb : rightP b.v
  · obtain rfl : RR = noneP := by rw [HSW.out]; simp [heedP, hb, swapR]
    rw [hb] at HRB
    clear HSW ha hb
    go_wp2_with fail
    refine (HRA.out _ HL.out).mono ?_
    rintro e w5 ⟨rfl, hlw⟩
    clear y0 y1 y2 y3 y4 y5 HRA
    replace H2 := Lib.hid (H2.out.later hlw); replace H3 := Lib.hid (H3.out.later hlw); replace H4 := Lib.hid (H4.out.later hlw); replace HL := Lib.hid (HL.out.trans hlw); replace HA := Lib.hid (HA.out.later hlw); replace HB := Lib.hid (HB.out.later hlw)
    clear hlw
    obtain ⟨z0, z1, z2, z3, z4, z5⟩ := BoxAt.all (x := b) HB.out
    go_wp2_with fail
    refine (HRB.out _ HL.out).mono ?_
    rintro e w6 ⟨rfl, hlw⟩
    clear z0 z1 z2 z3 z4 z5 HRB
    replace H2 := Lib.hid (H2.out.later hlw); replace H3 := Lib.hid (H3.out.later hlw); replace H4 := Lib.hid (H4.out.later hlw); replace HL := Lib.hid (HL.out.trans hlw); replace HA := Lib.hid (HA.out.later hlw); replace HB := Lib.hid (HB.out.later hlw)
    clear hlw
    have c2 := H2.out; have c3 := H3.out
    have u0 := c2.cell (i := 0) rfl; have u1 := c2.cell (i := 1) rfl; have u2 := c2.cell (i := 2) rfl; have u3 := c2.cell (i := 3) rfl; have u4 := c2.cell (i := 4) rfl; have u5 := c2.cell (i := 5) rfl
    have v0 := c2.frozen 0; have v1 := c2.frozen 1; have v2 := c2.frozen 2; have v3 := c2.frozen 3; have v4 := c2.frozen 4; have v5 := c2.frozen 5
    have r0 := c3.cell (i := 0) rfl; have r1 := c3.cell (i := 1) rfl; have r2 := c3.cell (i := 2) rfl; have r3 := c3.cell (i := 3) rfl; have r4 := c3.cell (i := 4) rfl; have r5 := c3.cell (i := 5) rfl
    have t0 := c3.frozen 0; have t1 := c3.frozen 1; have t2 := c3.frozen 2; have t3 := c3.frozen 3; have t4 := c3.frozen 4; have t5 := c3.frozen 5
    have c4 := H4.out
    have z0 := c4.cell (i := 0) rfl; have z1 := c4.cell (i := 1) rfl; have z2 := c4.cell (i := 2) rfl; have z3 := c4.cell (i := 3) rfl; have z4 := c4.cell (i := 4) rfl; have z5 := c4.cell (i := 5) rfl
    clear c4
    have k2 := turned_set6 w6 (w.heap.size + 1 + 1) (.int .i64 0) (.string ⟨#[]⟩) (.string ⟨#[]⟩) (.int .i64 0) (.slice none 0 0) (.slice none 0 0)
    have k3 := turned_set6 ((((((w6.setCell ⟨w.heap.size + 1 + 1, 0, none⟩ (.int .i64 0)).setCell ⟨w.heap.size + 1 + 1, 1, none⟩ (.string ⟨#[]⟩)).setCell ⟨w.heap.size + 1 + 1, 2, none⟩ (.string ⟨#[]⟩)).setCell ⟨w.heap.size + 1 + 1, 3, none⟩ (.int .i64 0)).setCell ⟨w.heap.size + 1 + 1, 4, none⟩ (.slice none 0 0)).setCell ⟨w.heap.size + 1 + 1, 5, none⟩ (.slice none 0 0)) (w.heap.size + 1 + 1 + 1) (.int .i64 0) (.string ⟨#[]⟩) (.string ⟨#[]⟩) (.int .i64 0) (.slice none 0 0) (.slice none 0 0)
    have HK2 := Lib.hid k2; have HK3 := Lib.hid k3; have HC2 := Lib.hid ((c2.set6 (.int .i64 0) (.string ⟨#[]⟩) (.string ⟨#[]⟩) (.int .i64 0) (.slice none 0 0) (.slice none 0 0)).other k3 (by omega)); have HC3 := Lib.hid ((c3.other k2 (by omega)).set6 (.int .i64 0) (.string ⟨#[]⟩) (.string ⟨#[]⟩) (.int .i64 0) (.slice none 0 0) (.slice none 0 0))
    clear k2 k3 c2 c3
    go_upto_region 6 with fail
    go_region
    go_wp2
    have l2 := (((HL.out).turn HK2.out (by omega)).turn HK3.out (by omega)).drew
    exact bodyPost_ret (results_two rfl _ _ _ _ _ _ _ _ _ _ _ _ rfl rfl rfl (HC2.out.later (Later.refl _).drew) (HC3.out.later (Later.refl _).drew) Tryz.underlying89 rfl Tryz.refPrimSize Tryz.refPrimSize) rfl
      ⟨zeroC, zeroC, rfl, rfl, rfl, (fun _ _ _ => ⟨zeroC_ok _, zeroC_ok _⟩), l2⟩
  obtain rfl : RR = (a.v, b.v, true) := by rw [HSW.out]; simp [heedP, ha, hb, swapR]
  rw [hb] at HRB
  clear HSW ha hb
  go_wp2_with fail
  refine (HRA.out _ HL.out).mono ?_
  rintro e w5 ⟨rfl, hlw⟩
  clear y0 y1 y2 y3 y4 y5 HRA
  replace H2 := Lib.hid (H2.out.later hlw); replace H3 := Lib.hid (H3.out.later hlw); replace H4 := Lib.hid (H4.out.later hlw); replace HL := Lib.hid (HL.out.trans hlw); replace HA := Lib.hid (HA.out.later hlw); replace HB := Lib.hid (HB.out.later hlw)
  clear hlw
  obtain ⟨z0, z1, z2, z3, z4, z5⟩ := BoxAt.all (x := b) HB.out
  go_wp2_with fail
  refine (HRB.out _ HL.out).mono ?_
  rintro e w6 ⟨rfl, hlw⟩
  clear z0 z1 z2 z3 z4 z5 HRB
  replace H2 := Lib.hid (H2.out.later hlw); replace H3 := Lib.hid (H3.out.later hlw); replace H4 := Lib.hid (H4.out.later hlw); replace HL := Lib.hid (HL.out.trans hlw); replace HA := Lib.hid (HA.out.later hlw); replace HB := Lib.hid (HB.out.later hlw)
  clear hlw
  have c2 := H2.out; have c3 := H3.out
  have u0 := c2.cell (i := 0) rfl; have u1 := c2.cell (i := 1) rfl; have u2 := c2.cell (i := 2) rfl; have u3 := c2.cell (i := 3) rfl; have u4 := c2.cell (i := 4) rfl; have u5 := c2.cell (i := 5) rfl
  have v0 := c2.frozen 0; have v1 := c2.frozen 1; have v2 := c2.frozen 2; have v3 := c2.frozen 3; have v4 := c2.frozen 4; have v5 := c2.frozen 5
  have r0 := c3.cell (i := 0) rfl; have r1 := c3.cell (i := 1) rfl; have r2 := c3.cell (i := 2) rfl; have r3 := c3.cell (i := 3) rfl; have r4 := c3.cell (i := 4) rfl; have r5 := c3.cell (i := 5) rfl
  have t0 := c3.frozen 0; have t1 := c3.frozen 1; have t2 := c3.frozen 2; have t3 := c3.frozen 3; have t4 := c3.frozen 4; have t5 := c3.frozen 5
  obtain ⟨z0, z1, z2, z3, z4, z5⟩ := BoxAt.all (x := a) HA.out
  obtain ⟨f0, f1, f2, f3, f4, f5⟩ := BoxAt.all (x := b) HB.out
  have k2 := turned_set6 w6 (w.heap.size + 1 + 1) (.int .i64 a.v.kind) (.string a.v.name) (.string a.v.to) (.int .i64 a.v.place) (.slice a.A a.n a.c) (.slice a.B a.m a.d)
  have k3 := turned_set6 ((((((w6.setCell ⟨w.heap.size + 1 + 1, 0, none⟩ (.int .i64 a.v.kind)).setCell ⟨w.heap.size + 1 + 1, 1, none⟩ (.string a.v.name)).setCell ⟨w.heap.size + 1 + 1, 2, none⟩ (.string a.v.to)).setCell ⟨w.heap.size + 1 + 1, 3, none⟩ (.int .i64 a.v.place)).setCell ⟨w.heap.size + 1 + 1, 4, none⟩ (.slice a.A a.n a.c)).setCell ⟨w.heap.size + 1 + 1, 5, none⟩ (.slice a.B a.m a.d)) (w.heap.size + 1 + 1 + 1) (.int .i64 b.v.kind) (.string b.v.name) (.string b.v.to) (.int .i64 b.v.place) (.slice b.A b.n b.c) (.slice b.B b.m b.d)
  have HK2 := Lib.hid k2; have HK3 := Lib.hid k3; have HC2 := Lib.hid ((c2.set6 (.int .i64 a.v.kind) (.string a.v.name) (.string a.v.to) (.int .i64 a.v.place) (.slice a.A a.n a.c) (.slice a.B a.m a.d)).other k3 (by omega)); have HC3 := Lib.hid ((c3.other k2 (by omega)).set6 (.int .i64 b.v.kind) (.string b.v.name) (.string b.v.to) (.int .i64 b.v.place) (.slice b.A b.n b.c) (.slice b.B b.m b.d))
  clear k2 k3 c2 c3
  go_upto_region 7 with fail
  go_region
  go_wp2
  have l2 := (((HL.out).turn HK2.out (by omega)).turn HK3.out (by omega)).drew
  exact bodyPost_ret (results_two rfl _ _ _ _ _ _ _ _ _ _ _ _ rfl rfl rfl (HC2.out.later (Later.refl _).drew) (HC3.out.later (Later.refl _).drew) Tryz.underlying89 rfl Tryz.refPrimSize Tryz.refPrimSize) rfl
    ⟨a, b, rfl, rfl, rfl, HGW.out, l2⟩

end Go.Proofs.YtlnjhimbgckdcaaGreat

/-
  The document's own Swap of two rows: the statement that swaps two neighbours, in whatever order its operations come.
-/
namespace Go.Proofs.YtlnjhimbgckdcaaGreat
open Go.RowKit Go.Maps

theorem Row.notIn {w : World} {A : Option Addr} {n c g : Nat} {l : List ByteArray} {es : Array MapEntry} {k : Nat} (h : Row w A n l) (hg : w.heap[g]? = some (.map es k)) (hl : l ≠ []) : Off g (.slice A n c) := by
  have hn : 0 < n := by
    have := h.1
    cases l with
    | nil => exact absurd rfl hl
    | cons s l => simp at this; omega
  obtain ⟨b, o, rfl, hc⟩ := h.2 hn
  cases l with
  | nil => exact absurd rfl hl
  | cons s l =>
    have h1 := hc 0 s rfl
    intro e
    simp only [Value.ownBlock, Option.some.injEq] at e
    subst e
    unfold World.cell? at h1
    simp [hg] at h1
theorem away_of_w {wx : World} {g : Nat} {x y a b : PrC} (hx : PrOk wx x) (hy : PrOk wx y) (ax : Away g x) (ay : Away g y) (h : ∀ w0, PrOk w0 x -> PrOk w0 y -> PrOk w0 a /\ PrOk w0 b) (hlt : g < wx.heap.size) : Away g a /\ Away g b := by
  have ht : Turned g wx (wx.putObj g (.map #[] 0)) := ⟨rfl, rfl, rfl, by simp [World.putObj], fun i _ hne => World.putObj_heap_other (fun e => hne (by rw [e]))⟩
  have hm : (wx.putObj g (.map #[] 0)).heap[g]? = some (.map #[] 0) := World.putObj_heap_same hlt
  obtain ⟨ha, hb⟩ := h _ (hx.off ht ax) (hy.off ht ay)
  exact ⟨⟨ha.old.notIn hm, ha.new.notIn hm⟩, ⟨hb.old.notIn hm, hb.new.notIn hm⟩⟩
structure RSD where
  c : PrC
  d : PrC
  g8 : Nat
  g9 : Nat
structure RfS (wx : World) (g : Nat) (r : Pr × Pr × Bool) (b b' : Bool) (s : Nat) (D : RSD) (V : World) : Prop where
  later : Later wx V
  sw : 1 <= s -> D.c.v = r.1 /\ D.d.v = r.2.1 /\ PrOk wx D.c /\ PrOk wx D.d /\ Away g D.c /\ Away g D.d
  b8 : b = true -> wx.heap.size <= D.g8 /\ ∃ cs, cs.size = 6 /\ BoxAt V D.g8 cs 89 /\ (2 <= s -> cs = (prL D.c).toArray)
  b9 : b' = true -> wx.heap.size <= D.g9 /\ ∃ cs, cs.size = 6 /\ BoxAt V D.g9 cs 89 /\ (3 <= s -> cs = (prL D.d).toArray)
  ne : b = true -> b' = true -> D.g8 ≠ D.g9
section
variable {wx V V' : World} {g : Nat} {r : Pr × Pr × Bool} {b b' : Bool} {s : Nat} {D : RSD}
theorem RfS.swap (h : RfS wx g r b b' 0 D V) (hl : Later V V') {c d : PrC} (h1 : c.v = r.1) (h2 : d.v = r.2.1) (h3 : PrOk wx c) (h4 : PrOk wx d) (h5 : Away g c) (h6 : Away g d) : RfS wx g r b b' 1 { D with c := c, d := d } V' :=
  ⟨h.later.trans hl, fun _ => ⟨h1, h2, h3, h4, h5, h6⟩, (fun e => by obtain ⟨q1, cs, q2, q3, _⟩ := h.b8 e; exact ⟨q1, cs, q2, q3.later hl, fun e => by omega⟩), (fun e => by obtain ⟨q1, cs, q2, q3, _⟩ := h.b9 e; exact ⟨q1, cs, q2, q3.later hl, fun e => by omega⟩), h.ne⟩
theorem RfS.alloc8 (h : RfS wx g r false b' s D V) (hs : s <= 1) : RfS wx g r true b' s { D with g8 := V.heap.size } (V.alloc (.cells zeroL 89)) :=
  ⟨h.later.alloc _, h.sw, (fun _ => ⟨h.later.le, zeroL, rfl, BoxAt.made V zeroL 89, fun e => by omega⟩), (fun e => by obtain ⟨q1, cs, q2, q3, q4⟩ := h.b9 e; exact ⟨q1, cs, q2, q3.alloc _, q4⟩), fun _ e => by obtain ⟨_, _, _, q3, _⟩ := h.b9 e; have := q3.lt; show V.heap.size ≠ D.g9; omega⟩
theorem RfS.alloc9 (h : RfS wx g r b false s D V) (hs : s <= 2) : RfS wx g r b true s { D with g9 := V.heap.size } (V.alloc (.cells zeroL 89)) :=
  ⟨h.later.alloc _, h.sw, (fun e => by obtain ⟨q1, cs, q2, q3, q4⟩ := h.b8 e; exact ⟨q1, cs, q2, q3.alloc _, q4⟩), (fun _ => ⟨h.later.le, zeroL, rfl, BoxAt.made V zeroL 89, fun e => by omega⟩), fun e _ => by obtain ⟨_, _, _, q3, _⟩ := h.b8 e; have := q3.lt; show D.g8 ≠ V.heap.size; omega⟩
theorem RfS.st8 (h : RfS wx g r true true 1 D V) (hb : BoxAt V' D.g8 (prL D.c).toArray 89) (ht : Turned D.g8 V V') : RfS wx g r true true 2 D V' :=
  ⟨h.later.turn ht (h.b8 rfl).1, fun _ => h.sw (Nat.le_refl _), (fun _ => ⟨(h.b8 rfl).1, _, rfl, hb, fun _ => rfl⟩), (fun _ => by obtain ⟨q1, cs, q2, q3, q4⟩ := h.b9 rfl; exact ⟨q1, cs, q2, q3.other ht (Ne.symm (h.ne rfl rfl)), fun e => by omega⟩), h.ne⟩
theorem RfS.st9 (h : RfS wx g r true true 2 D V) (hb : BoxAt V' D.g9 (prL D.d).toArray 89) (ht : Turned D.g9 V V') : RfS wx g r true true 3 D V' :=
  ⟨h.later.turn ht (h.b9 rfl).1, fun _ => h.sw (by omega), (fun _ => by obtain ⟨q1, cs, q2, q3, q4⟩ := h.b8 rfl; exact ⟨q1, cs, q2, q3.other ht (h.ne rfl rfl), fun _ => q4 (Nat.le_refl _)⟩), (fun _ => ⟨(h.b9 rfl).1, _, rfl, hb, fun _ => rfl⟩), h.ne⟩
end

end Go.Proofs.YtlnjhimbgckdcaaGreat
