import Derived.Test.YtnhhdjcbifmfgaaPk7
import Derived.Test.YtnhhdjcbifmfgaaChecked
import Derived.OrdersHeld
import Derived.WalkKit

/-
  What swap's Swap comes to, as a call.
-/
namespace Go.Proofs.Ytnhhdjcbifmfgaa
open Go.RowKit Go.Maps

theorem IsPr.off {p : Pr} {w0 w w' : World} {u v : Value} {B : Nat} (h : IsPr p w0 w u v) (hg : Turned B w w') (hu : ∀ k, u.ownBlock = some k → B < k) (hv : ∀ k, v.ownBlock = some k → B < k) (hl : Later w0 w') : IsPr p w0 w' u v :=
  ⟨h.old.other hg (fun e => by have := hu _ e; omega) hl, h.new.other hg (fun e => by have := hv _ e; omega) hl, h.apart⟩
theorem swapR_none {p q : Pr} (h : swapP p q = none) : swapR (swapP p q) = noneP := by rw [h]; rfl
theorem heed_of {p q : Pr} (hp : rightP p = true) (hq : rightP q = true) {a b : Pr} {t : Bool} (h1 : a = (turnP p q).1) (h2 : b = (turnP p q).2.1) (h3 : t = (turnP p q).2.2) : swapP p q = heedP (a, b, t) := by
  rw [swapP_turn p q hp hq, h1, h2, h3]

set_option maxRecDepth 100000 in
set_option maxHeartbeats 1600000 in
theorem swap_any (x y : PrC) (w : World) (hx : PrOk w x) (hy : PrOk w y) :
    Calls Try.prog 9 #[prV x, prV y] w (GivesT (swapR (swapP x.v y.v)) w) := by
  obtain ⟨b0, b1, b2, b3, hl⟩ := four_boxes w #[.int .i64 x.v.kind, .string x.v.name, .string x.v.to, .int .i64 x.v.place, .slice x.A x.n x.c, .slice x.B x.m x.d] #[.int .i64 y.v.kind, .string y.v.name, .string y.v.to, .int .i64 y.v.place, .slice y.A y.n y.c, .slice y.B y.m y.d] #[.int .i64 0, .string ⟨#[]⟩, .string ⟨#[]⟩, .int .i64 0, .slice none 0 0, .slice none 0 0] #[.int .i64 0, .string ⟨#[]⟩, .string ⟨#[]⟩, .int .i64 0, .slice none 0 0, .slice none 0 0] 28
  have HR1 := Lib.hid (fun (w' : World) (h : Later w w') => primRight_any x w' (hx.later h))
  have HR2 := Lib.hid (fun (w' : World) (h : Later w w') => primRight_any y w' (hy.later h))
  have HTN := Lib.hid (fun (hp : rightP x.v = true) (hq : rightP y.v = true) (w' : World) (h : Later w w') => turn_any x y w' (hx.later h) (hy.later h) hp hq)
  have HX := Lib.hid hx; have HY := Lib.hid hy
  clear hx hy
  unfold prV at HR1 HR2 HTN ⊢
  cases hp : rightP x.v
  · rw [swapR_none (swapP_not _ _ (by simp [hp]))]
    rw [hp] at HR1
    clear HR2 HTN hp
    go_enter Try.func9, Try.ntmps9
    go_wp2_with fail
    refine (HR1.out _ hl).mono ?_
    generalize (((w.alloc (.cells #[.int .i64 x.v.kind, .string x.v.name, .string x.v.to, .int .i64 x.v.place, .slice x.A x.n x.c, .slice x.B x.m x.d] 28)).alloc (.cells #[.int .i64 y.v.kind, .string y.v.name, .string y.v.to, .int .i64 y.v.place, .slice y.A y.n y.c, .slice y.B y.m y.d] 28)).alloc (.cells #[.int .i64 0, .string ⟨#[]⟩, .string ⟨#[]⟩, .int .i64 0, .slice none 0 0, .slice none 0 0] 28)).alloc (.cells #[.int .i64 0, .string ⟨#[]⟩, .string ⟨#[]⟩, .int .i64 0, .slice none 0 0, .slice none 0 0] 28) = wb at b0 b1 b2 b3 hl ⊢
    rintro e w1 ⟨rfl, hlw⟩
    have hsz := b3.lt
    have c2 := b2.later hlw
    have u0 := c2.cell (i := 0) rfl; have u1 := c2.cell (i := 1) rfl; have u2 := c2.cell (i := 2) rfl; have u3 := c2.cell (i := 3) rfl; have u4 := c2.cell (i := 4) rfl; have u5 := c2.cell (i := 5) rfl
    have v0 := c2.frozen 0; have v1 := c2.frozen 1; have v2 := c2.frozen 2; have v3 := c2.frozen 3; have v4 := c2.frozen 4; have v5 := c2.frozen 5
    have k2 := turned_set6 w1 (w.heap.size + 1 + 1) (.int .i64 0) (.string ⟨#[]⟩) (.string ⟨#[]⟩) (.int .i64 0) (.slice none 0 0) (.slice none 0 0)
    have c3 := (b3.later hlw).other k2 (by omega)
    have r0 := c3.cell (i := 0) rfl; have r1 := c3.cell (i := 1) rfl; have r2 := c3.cell (i := 2) rfl; have r3 := c3.cell (i := 3) rfl; have r4 := c3.cell (i := 4) rfl; have r5 := c3.cell (i := 5) rfl
    have t0 := c3.frozen 0; have t1 := c3.frozen 1; have t2 := c3.frozen 2; have t3 := c3.frozen 3; have t4 := c3.frozen 4; have t5 := c3.frozen 5
    have k3 := turned_set6 ((((((w1.setCell ⟨w.heap.size + 1 + 1, 0, none⟩ (.int .i64 0)).setCell ⟨w.heap.size + 1 + 1, 1, none⟩ (.string ⟨#[]⟩)).setCell ⟨w.heap.size + 1 + 1, 2, none⟩ (.string ⟨#[]⟩)).setCell ⟨w.heap.size + 1 + 1, 3, none⟩ (.int .i64 0)).setCell ⟨w.heap.size + 1 + 1, 4, none⟩ (.slice none 0 0)).setCell ⟨w.heap.size + 1 + 1, 5, none⟩ (.slice none 0 0)) (w.heap.size + 1 + 1 + 1) (.int .i64 0) (.string ⟨#[]⟩) (.string ⟨#[]⟩) (.int .i64 0) (.slice none 0 0) (.slice none 0 0)
    have HK2z := Lib.hid k2; have HK3z := Lib.hid k3; have HC2z := Lib.hid ((c2.set6 (.int .i64 0) (.string ⟨#[]⟩) (.string ⟨#[]⟩) (.int .i64 0) (.slice none 0 0) (.slice none 0 0)).other k3 (by omega)); have HC3z := Lib.hid (c3.set6 (.int .i64 0) (.string ⟨#[]⟩) (.string ⟨#[]⟩) (.int .i64 0) (.slice none 0 0) (.slice none 0 0))
    clear k2 k3 c2 c3
    have HL := Lib.hid (hl.trans hlw)
    clear b0 b1 b2 b3 hl hlw HR1
    go_wp2
    exact bodyPost_ret (results_two rfl _ _ _ _ _ _ _ _ _ _ _ _ rfl rfl rfl HC2z.out HC3z.out Try.underlying28 rfl Try.primSize Try.primSize) rfl
      ⟨zeroC, zeroC, rfl, rfl, rfl, zeroC_ok _, zeroC_ok _, ((HL.out).turn HK2z.out (by omega)).turn HK3z.out (by omega)⟩
  cases hq : rightP y.v
  · rw [swapR_none (swapP_not _ _ (by simp [hq]))]
    rw [hp] at HR1
    rw [hq] at HR2
    clear HTN hp hq
    go_enter Try.func9, Try.ntmps9
    go_wp2_with fail
    refine (HR1.out _ hl).mono ?_
    generalize (((w.alloc (.cells #[.int .i64 x.v.kind, .string x.v.name, .string x.v.to, .int .i64 x.v.place, .slice x.A x.n x.c, .slice x.B x.m x.d] 28)).alloc (.cells #[.int .i64 y.v.kind, .string y.v.name, .string y.v.to, .int .i64 y.v.place, .slice y.A y.n y.c, .slice y.B y.m y.d] 28)).alloc (.cells #[.int .i64 0, .string ⟨#[]⟩, .string ⟨#[]⟩, .int .i64 0, .slice none 0 0, .slice none 0 0] 28)).alloc (.cells #[.int .i64 0, .string ⟨#[]⟩, .string ⟨#[]⟩, .int .i64 0, .slice none 0 0, .slice none 0 0] 28) = wb at b0 b1 b2 b3 hl ⊢
    rintro e w1 ⟨rfl, hlw⟩
    have hsz := b3.lt
    obtain ⟨q0, q1, q2, q3, q4, q5⟩ := BoxAt.all (x := y) (b1.later hlw)
    have HB2 := Lib.hid (b2.later hlw); have HB3 := Lib.hid (b3.later hlw); have HL1 := Lib.hid (hl.trans hlw)
    clear b0 b1 b2 b3 hl hlw HR1
    go_wp2_with fail
    refine (HR2.out _ HL1.out).mono ?_
    rintro e w2 ⟨rfl, hlw⟩
    clear q0 q1 q2 q3 q4 q5
    have c2 := HB2.out.later hlw
    have u0 := c2.cell (i := 0) rfl; have u1 := c2.cell (i := 1) rfl; have u2 := c2.cell (i := 2) rfl; have u3 := c2.cell (i := 3) rfl; have u4 := c2.cell (i := 4) rfl; have u5 := c2.cell (i := 5) rfl
    have v0 := c2.frozen 0; have v1 := c2.frozen 1; have v2 := c2.frozen 2; have v3 := c2.frozen 3; have v4 := c2.frozen 4; have v5 := c2.frozen 5
    have k2 := turned_set6 w2 (w.heap.size + 1 + 1) (.int .i64 0) (.string ⟨#[]⟩) (.string ⟨#[]⟩) (.int .i64 0) (.slice none 0 0) (.slice none 0 0)
    have c3 := (HB3.out.later hlw).other k2 (by omega)
    have r0 := c3.cell (i := 0) rfl; have r1 := c3.cell (i := 1) rfl; have r2 := c3.cell (i := 2) rfl; have r3 := c3.cell (i := 3) rfl; have r4 := c3.cell (i := 4) rfl; have r5 := c3.cell (i := 5) rfl
    have t0 := c3.frozen 0; have t1 := c3.frozen 1; have t2 := c3.frozen 2; have t3 := c3.frozen 3; have t4 := c3.frozen 4; have t5 := c3.frozen 5
    have k3 := turned_set6 ((((((w2.setCell ⟨w.heap.size + 1 + 1, 0, none⟩ (.int .i64 0)).setCell ⟨w.heap.size + 1 + 1, 1, none⟩ (.string ⟨#[]⟩)).setCell ⟨w.heap.size + 1 + 1, 2, none⟩ (.string ⟨#[]⟩)).setCell ⟨w.heap.size + 1 + 1, 3, none⟩ (.int .i64 0)).setCell ⟨w.heap.size + 1 + 1, 4, none⟩ (.slice none 0 0)).setCell ⟨w.heap.size + 1 + 1, 5, none⟩ (.slice none 0 0)) (w.heap.size + 1 + 1 + 1) (.int .i64 0) (.string ⟨#[]⟩) (.string ⟨#[]⟩) (.int .i64 0) (.slice none 0 0) (.slice none 0 0)
    have HK2z := Lib.hid k2; have HK3z := Lib.hid k3; have HC2z := Lib.hid ((c2.set6 (.int .i64 0) (.string ⟨#[]⟩) (.string ⟨#[]⟩) (.int .i64 0) (.slice none 0 0) (.slice none 0 0)).other k3 (by omega)); have HC3z := Lib.hid (c3.set6 (.int .i64 0) (.string ⟨#[]⟩) (.string ⟨#[]⟩) (.int .i64 0) (.slice none 0 0) (.slice none 0 0))
    clear k2 k3 c2 c3
    have HL := Lib.hid (HL1.out.trans hlw)
    clear hlw HR2
    go_wp2
    exact bodyPost_ret (results_two rfl _ _ _ _ _ _ _ _ _ _ _ _ rfl rfl rfl HC2z.out HC3z.out Try.underlying28 rfl Try.primSize Try.primSize) rfl
      ⟨zeroC, zeroC, rfl, rfl, rfl, zeroC_ok _, zeroC_ok _, ((HL.out).turn HK2z.out (by omega)).turn HK3z.out (by omega)⟩
  rw [hp] at HR1
  rw [hq] at HR2
  generalize hR : swapR (swapP x.v y.v) = R
  have HRR := Lib.hid hR
  clear hR
  go_enter Try.func9, Try.ntmps9
  go_wp2_with fail
  refine (HR1.out _ hl).mono ?_
  generalize (((w.alloc (.cells #[.int .i64 x.v.kind, .string x.v.name, .string x.v.to, .int .i64 x.v.place, .slice x.A x.n x.c, .slice x.B x.m x.d] 28)).alloc (.cells #[.int .i64 y.v.kind, .string y.v.name, .string y.v.to, .int .i64 y.v.place, .slice y.A y.n y.c, .slice y.B y.m y.d] 28)).alloc (.cells #[.int .i64 0, .string ⟨#[]⟩, .string ⟨#[]⟩, .int .i64 0, .slice none 0 0, .slice none 0 0] 28)).alloc (.cells #[.int .i64 0, .string ⟨#[]⟩, .string ⟨#[]⟩, .int .i64 0, .slice none 0 0, .slice none 0 0] 28) = wb at b0 b1 b2 b3 hl ⊢
  rintro e w1 ⟨rfl, hlw⟩
  have hsz := b3.lt
  obtain ⟨q0, q1, q2, q3, q4, q5⟩ := BoxAt.all (x := y) (b1.later hlw)
  have HB0 := Lib.hid (b0.later hlw); have HB1 := Lib.hid (b1.later hlw); have HB2 := Lib.hid (b2.later hlw); have HB3 := Lib.hid (b3.later hlw); have HL1 := Lib.hid (hl.trans hlw)
  clear b0 b1 b2 b3 hl hlw HR1
  go_wp2_with fail
  refine (HR2.out _ HL1.out).mono ?_
  rintro e w2 ⟨rfl, hlw⟩
  clear q0 q1 q2 q3 q4 q5
  obtain ⟨p0, p1, p2, p3, p4, p5⟩ := BoxAt.all (x := x) (HB0.out.later hlw)
  obtain ⟨q0, q1, q2, q3, q4, q5⟩ := BoxAt.all (x := y) (HB1.out.later hlw)
  have hlt2 := (HB3.out.later hlw).lt
  have HB4 := Lib.hid (HB2.out.later hlw); have HB5 := Lib.hid (HB3.out.later hlw); have HL2 := Lib.hid (HL1.out.trans hlw)
  clear hlw HR2
  go_wp2_with fail
  refine (HTN.out hp hq _ HL2.out).mono ?_
  rintro e w3 ⟨a, b, rfl, ha, hb, hao, hlw⟩
  clear p0 p1 p2 p3 p4 p5 q0 q1 q2 q3 q4 q5 HTN HB0 HB1 HB2 HB3
  have hsw : R = swapR (heedP (a.v, b.v, (turnP x.v y.v).2.2)) := by rw [← HRR.out, heed_of hp hq ha hb rfl]
  have HSW := Lib.hid hsw
  clear hsw
  generalize (turnP x.v y.v).2.2 = t at HSW ⊢
  clear ha hb HRR
  obtain ⟨hao1, hbo1⟩ := hao w HX.out HY.out
  have HAO := Lib.hid hao1; have HBO := Lib.hid hbo1
  clear hao hao1 hbo1 hp hq HX HY
  have c2 := HB4.out.later hlw
  have u0 := c2.cell (i := 0) rfl; have u1 := c2.cell (i := 1) rfl; have u2 := c2.cell (i := 2) rfl; have u3 := c2.cell (i := 3) rfl; have u4 := c2.cell (i := 4) rfl; have u5 := c2.cell (i := 5) rfl
  have v0 := c2.frozen 0; have v1 := c2.frozen 1; have v2 := c2.frozen 2; have v3 := c2.frozen 3; have v4 := c2.frozen 4; have v5 := c2.frozen 5
  have k2 := turned_set6 w3 (w.heap.size + 1 + 1) (.int .i64 a.v.kind) (.string a.v.name) (.string a.v.to) (.int .i64 a.v.place) (.slice a.A a.n a.c) (.slice a.B a.m a.d)
  have c3 := (HB5.out.later hlw).other k2 (by omega)
  have r0 := c3.cell (i := 0) rfl; have r1 := c3.cell (i := 1) rfl; have r2 := c3.cell (i := 2) rfl; have r3 := c3.cell (i := 3) rfl; have r4 := c3.cell (i := 4) rfl; have r5 := c3.cell (i := 5) rfl
  have t0 := c3.frozen 0; have t1 := c3.frozen 1; have t2 := c3.frozen 2; have t3 := c3.frozen 3; have t4 := c3.frozen 4; have t5 := c3.frozen 5
  have k3 := turned_set6 ((((((w3.setCell ⟨w.heap.size + 1 + 1, 0, none⟩ (.int .i64 a.v.kind)).setCell ⟨w.heap.size + 1 + 1, 1, none⟩ (.string a.v.name)).setCell ⟨w.heap.size + 1 + 1, 2, none⟩ (.string a.v.to)).setCell ⟨w.heap.size + 1 + 1, 3, none⟩ (.int .i64 a.v.place)).setCell ⟨w.heap.size + 1 + 1, 4, none⟩ (.slice a.A a.n a.c)).setCell ⟨w.heap.size + 1 + 1, 5, none⟩ (.slice a.B a.m a.d)) (w.heap.size + 1 + 1 + 1) (.int .i64 b.v.kind) (.string b.v.name) (.string b.v.to) (.int .i64 b.v.place) (.slice b.A b.n b.c) (.slice b.B b.m b.d)
  have HK2 := Lib.hid k2; have HK3 := Lib.hid k3; have HC2 := Lib.hid ((c2.set6 (.int .i64 a.v.kind) (.string a.v.name) (.string a.v.to) (.int .i64 a.v.place) (.slice a.A a.n a.c) (.slice a.B a.m a.d)).other k3 (by omega)); have HC3 := Lib.hid (c3.set6 (.int .i64 b.v.kind) (.string b.v.name) (.string b.v.to) (.int .i64 b.v.place) (.slice b.A b.n b.c) (.slice b.B b.m b.d))
  clear k2 k3 c2 c3
  have HL3 := Lib.hid (((HL2.out.trans hlw).turn HK2.out (by omega)).turn HK3.out (by omega))
  clear hlw HK2 HK3 HB4 HB5
  unfold prV
  go_upto_region 4 with fail
  generalize (((((((((((w3.setCell ⟨w.heap.size + 1 + 1, 0, none⟩ (.int .i64 a.v.kind)).setCell ⟨w.heap.size + 1 + 1, 1, none⟩ (.string a.v.name)).setCell ⟨w.heap.size + 1 + 1, 2, none⟩ (.string a.v.to)).setCell ⟨w.heap.size + 1 + 1, 3, none⟩ (.int .i64 a.v.place)).setCell ⟨w.heap.size + 1 + 1, 4, none⟩ (.slice a.A a.n a.c)).setCell ⟨w.heap.size + 1 + 1, 5, none⟩ (.slice a.B a.m a.d)).setCell ⟨w.heap.size + 1 + 1 + 1, 0, none⟩ (.int .i64 b.v.kind)).setCell ⟨w.heap.size + 1 + 1 + 1, 1, none⟩ (.string b.v.name)).setCell ⟨w.heap.size + 1 + 1 + 1, 2, none⟩ (.string b.v.to)).setCell ⟨w.heap.size + 1 + 1 + 1, 3, none⟩ (.int .i64 b.v.place)).setCell ⟨w.heap.size + 1 + 1 + 1, 4, none⟩ (.slice b.A b.n b.c)).setCell ⟨w.heap.size + 1 + 1 + 1, 5, none⟩ (.slice b.B b.m b.d) = w4 at HC2 HC3 HL3 ⊢
  clear u0 u1 u2 u3 u4 u5 v0 v1 v2 v3 v4 v5 r0 r1 r2 r3 r4 r5 t0 t1 t2 t3 t4 t5
  have HRA := Lib.hid (fun (w' : World) (h : Later w w') => primRight_any a w' (HAO.out.later h))
  have HRB := Lib.hid (fun (w' : World) (h : Later w w') => primRight_any b w' (HBO.out.later h))
  unfold prV at HRA HRB
  cases t
  · obtain rfl : R = noneP := by rw [HSW.out, heed_false]; rfl
    clear HSW HRA HRB
    have c2 := HC2.out
    have u0 := c2.cell (i := 0) rfl; have u1 := c2.cell (i := 1) rfl; have u2 := c2.cell (i := 2) rfl; have u3 := c2.cell (i := 3) rfl; have u4 := c2.cell (i := 4) rfl; have u5 := c2.cell (i := 5) rfl
    have v0 := c2.frozen 0; have v1 := c2.frozen 1; have v2 := c2.frozen 2; have v3 := c2.frozen 3; have v4 := c2.frozen 4; have v5 := c2.frozen 5
    have k2 := turned_set6 w4 (w.heap.size + 1 + 1) (.int .i64 0) (.string ⟨#[]⟩) (.string ⟨#[]⟩) (.int .i64 0) (.slice none 0 0) (.slice none 0 0)
    have c3 := (HC3.out).other k2 (by omega)
    have r0 := c3.cell (i := 0) rfl; have r1 := c3.cell (i := 1) rfl; have r2 := c3.cell (i := 2) rfl; have r3 := c3.cell (i := 3) rfl; have r4 := c3.cell (i := 4) rfl; have r5 := c3.cell (i := 5) rfl
    have t0 := c3.frozen 0; have t1 := c3.frozen 1; have t2 := c3.frozen 2; have t3 := c3.frozen 3; have t4 := c3.frozen 4; have t5 := c3.frozen 5
    have k3 := turned_set6 ((((((w4.setCell ⟨w.heap.size + 1 + 1, 0, none⟩ (.int .i64 0)).setCell ⟨w.heap.size + 1 + 1, 1, none⟩ (.string ⟨#[]⟩)).setCell ⟨w.heap.size + 1 + 1, 2, none⟩ (.string ⟨#[]⟩)).setCell ⟨w.heap.size + 1 + 1, 3, none⟩ (.int .i64 0)).setCell ⟨w.heap.size + 1 + 1, 4, none⟩ (.slice none 0 0)).setCell ⟨w.heap.size + 1 + 1, 5, none⟩ (.slice none 0 0)) (w.heap.size + 1 + 1 + 1) (.int .i64 0) (.string ⟨#[]⟩) (.string ⟨#[]⟩) (.int .i64 0) (.slice none 0 0) (.slice none 0 0)
    have HK2z := Lib.hid k2; have HK3z := Lib.hid k3; have HC2z := Lib.hid ((c2.set6 (.int .i64 0) (.string ⟨#[]⟩) (.string ⟨#[]⟩) (.int .i64 0) (.slice none 0 0) (.slice none 0 0)).other k3 (by omega)); have HC3z := Lib.hid (c3.set6 (.int .i64 0) (.string ⟨#[]⟩) (.string ⟨#[]⟩) (.int .i64 0) (.slice none 0 0) (.slice none 0 0))
    clear k2 k3 c2 c3
    go_wp2
    exact bodyPost_ret (results_two rfl _ _ _ _ _ _ _ _ _ _ _ _ rfl rfl rfl HC2z.out HC3z.out Try.underlying28 rfl Try.primSize Try.primSize) rfl
      ⟨zeroC, zeroC, rfl, rfl, rfl, zeroC_ok _, zeroC_ok _, ((HL3.out).turn HK2z.out (by omega)).turn HK3z.out (by omega)⟩
  obtain ⟨y0, y1, y2, y3, y4, y5⟩ := BoxAt.all (x := a) HC2.out
  cases ha : rightP a.v
  · obtain rfl : R = noneP := by rw [HSW.out]; simp [heedP, ha, swapR]
    rw [ha] at HRA
    clear HSW HRB ha
    go_wp2_with fail
    refine (HRA.out _ HL3.out).mono ?_
    rintro e w5 ⟨rfl, hlw⟩
    clear y0 y1 y2 y3 y4 y5
    have c2 := HC2.out.later hlw
    have u0 := c2.cell (i := 0) rfl; have u1 := c2.cell (i := 1) rfl; have u2 := c2.cell (i := 2) rfl; have u3 := c2.cell (i := 3) rfl; have u4 := c2.cell (i := 4) rfl; have u5 := c2.cell (i := 5) rfl
    have v0 := c2.frozen 0; have v1 := c2.frozen 1; have v2 := c2.frozen 2; have v3 := c2.frozen 3; have v4 := c2.frozen 4; have v5 := c2.frozen 5
    have k2 := turned_set6 w5 (w.heap.size + 1 + 1) (.int .i64 0) (.string ⟨#[]⟩) (.string ⟨#[]⟩) (.int .i64 0) (.slice none 0 0) (.slice none 0 0)
    have c3 := (HC3.out.later hlw).other k2 (by omega)
    have r0 := c3.cell (i := 0) rfl; have r1 := c3.cell (i := 1) rfl; have r2 := c3.cell (i := 2) rfl; have r3 := c3.cell (i := 3) rfl; have r4 := c3.cell (i := 4) rfl; have r5 := c3.cell (i := 5) rfl
    have t0 := c3.frozen 0; have t1 := c3.frozen 1; have t2 := c3.frozen 2; have t3 := c3.frozen 3; have t4 := c3.frozen 4; have t5 := c3.frozen 5
    have k3 := turned_set6 ((((((w5.setCell ⟨w.heap.size + 1 + 1, 0, none⟩ (.int .i64 0)).setCell ⟨w.heap.size + 1 + 1, 1, none⟩ (.string ⟨#[]⟩)).setCell ⟨w.heap.size + 1 + 1, 2, none⟩ (.string ⟨#[]⟩)).setCell ⟨w.heap.size + 1 + 1, 3, none⟩ (.int .i64 0)).setCell ⟨w.heap.size + 1 + 1, 4, none⟩ (.slice none 0 0)).setCell ⟨w.heap.size + 1 + 1, 5, none⟩ (.slice none 0 0)) (w.heap.size + 1 + 1 + 1) (.int .i64 0) (.string ⟨#[]⟩) (.string ⟨#[]⟩) (.int .i64 0) (.slice none 0 0) (.slice none 0 0)
    have HK2z := Lib.hid k2; have HK3z := Lib.hid k3; have HC2z := Lib.hid ((c2.set6 (.int .i64 0) (.string ⟨#[]⟩) (.string ⟨#[]⟩) (.int .i64 0) (.slice none 0 0) (.slice none 0 0)).other k3 (by omega)); have HC3z := Lib.hid (c3.set6 (.int .i64 0) (.string ⟨#[]⟩) (.string ⟨#[]⟩) (.int .i64 0) (.slice none 0 0) (.slice none 0 0))
    clear k2 k3 c2 c3
    have HL := Lib.hid (HL3.out.trans hlw)
    clear hlw HRA
    go_wp2
    exact bodyPost_ret (results_two rfl _ _ _ _ _ _ _ _ _ _ _ _ rfl rfl rfl HC2z.out HC3z.out Try.underlying28 rfl Try.primSize Try.primSize) rfl
      ⟨zeroC, zeroC, rfl, rfl, rfl, zeroC_ok _, zeroC_ok _, ((HL.out).turn HK2z.out (by omega)).turn HK3z.out (by omega)⟩
  rw [ha] at HRA
  cases hb : rightP b.v
  · obtain rfl : R = noneP := by rw [HSW.out]; simp [heedP, hb, swapR]
    rw [hb] at HRB
    clear HSW ha hb
    go_wp2_with fail
    refine (HRA.out _ HL3.out).mono ?_
    rintro e w5 ⟨rfl, hlw⟩
    clear y0 y1 y2 y3 y4 y5
    have HC4 := Lib.hid (HC2.out.later hlw); have HC5 := Lib.hid (HC3.out.later hlw); have HL5 := Lib.hid (HL3.out.trans hlw)
    obtain ⟨z0, z1, z2, z3, z4, z5⟩ := BoxAt.all (x := b) HC5.out
    clear hlw HRA
    go_wp2_with fail
    refine (HRB.out _ HL5.out).mono ?_
    rintro e w6 ⟨rfl, hlw⟩
    clear z0 z1 z2 z3 z4 z5
    have c2 := HC4.out.later hlw
    have u0 := c2.cell (i := 0) rfl; have u1 := c2.cell (i := 1) rfl; have u2 := c2.cell (i := 2) rfl; have u3 := c2.cell (i := 3) rfl; have u4 := c2.cell (i := 4) rfl; have u5 := c2.cell (i := 5) rfl
    have v0 := c2.frozen 0; have v1 := c2.frozen 1; have v2 := c2.frozen 2; have v3 := c2.frozen 3; have v4 := c2.frozen 4; have v5 := c2.frozen 5
    have k2 := turned_set6 w6 (w.heap.size + 1 + 1) (.int .i64 0) (.string ⟨#[]⟩) (.string ⟨#[]⟩) (.int .i64 0) (.slice none 0 0) (.slice none 0 0)
    have c3 := (HC5.out.later hlw).other k2 (by omega)
    have r0 := c3.cell (i := 0) rfl; have r1 := c3.cell (i := 1) rfl; have r2 := c3.cell (i := 2) rfl; have r3 := c3.cell (i := 3) rfl; have r4 := c3.cell (i := 4) rfl; have r5 := c3.cell (i := 5) rfl
    have t0 := c3.frozen 0; have t1 := c3.frozen 1; have t2 := c3.frozen 2; have t3 := c3.frozen 3; have t4 := c3.frozen 4; have t5 := c3.frozen 5
    have k3 := turned_set6 ((((((w6.setCell ⟨w.heap.size + 1 + 1, 0, none⟩ (.int .i64 0)).setCell ⟨w.heap.size + 1 + 1, 1, none⟩ (.string ⟨#[]⟩)).setCell ⟨w.heap.size + 1 + 1, 2, none⟩ (.string ⟨#[]⟩)).setCell ⟨w.heap.size + 1 + 1, 3, none⟩ (.int .i64 0)).setCell ⟨w.heap.size + 1 + 1, 4, none⟩ (.slice none 0 0)).setCell ⟨w.heap.size + 1 + 1, 5, none⟩ (.slice none 0 0)) (w.heap.size + 1 + 1 + 1) (.int .i64 0) (.string ⟨#[]⟩) (.string ⟨#[]⟩) (.int .i64 0) (.slice none 0 0) (.slice none 0 0)
    have HK2z := Lib.hid k2; have HK3z := Lib.hid k3; have HC2z := Lib.hid ((c2.set6 (.int .i64 0) (.string ⟨#[]⟩) (.string ⟨#[]⟩) (.int .i64 0) (.slice none 0 0) (.slice none 0 0)).other k3 (by omega)); have HC3z := Lib.hid (c3.set6 (.int .i64 0) (.string ⟨#[]⟩) (.string ⟨#[]⟩) (.int .i64 0) (.slice none 0 0) (.slice none 0 0))
    clear k2 k3 c2 c3
    have HL := Lib.hid (HL5.out.trans hlw)
    clear hlw HRB
    go_wp2
    exact bodyPost_ret (results_two rfl _ _ _ _ _ _ _ _ _ _ _ _ rfl rfl rfl HC2z.out HC3z.out Try.underlying28 rfl Try.primSize Try.primSize) rfl
      ⟨zeroC, zeroC, rfl, rfl, rfl, zeroC_ok _, zeroC_ok _, ((HL.out).turn HK2z.out (by omega)).turn HK3z.out (by omega)⟩
  obtain rfl : R = (a.v, b.v, true) := by rw [HSW.out]; simp [heedP, ha, hb, swapR]
  rw [hb] at HRB
  clear HSW ha hb
  go_wp2_with fail
  refine (HRA.out _ HL3.out).mono ?_
  rintro e w5 ⟨rfl, hlw⟩
  clear y0 y1 y2 y3 y4 y5
  have HC4 := Lib.hid (HC2.out.later hlw); have HC5 := Lib.hid (HC3.out.later hlw); have HL5 := Lib.hid (HL3.out.trans hlw)
  obtain ⟨z0, z1, z2, z3, z4, z5⟩ := BoxAt.all (x := b) HC5.out
  clear hlw HRA
  go_wp2_with fail
  refine (HRB.out _ HL5.out).mono ?_
  rintro e w6 ⟨rfl, hlw⟩
  clear z0 z1 z2 z3 z4 z5
  have HC6 := Lib.hid (HC4.out.later hlw); have HC7 := Lib.hid (HC5.out.later hlw); have HL6 := Lib.hid (HL5.out.trans hlw)
  clear hlw HRB HC2 HC3 HC4 HC5
  have HCA := Lib.hid (fun (w' : World) (h : Later w w') => primClone_any a w' (HAO.out.later h))
  have HCB := Lib.hid (fun (w' : World) (h : Later w w') => primClone_any b w' (HBO.out.later h))
  unfold prV at HCA HCB
  obtain ⟨y0, y1, y2, y3, y4, y5⟩ := BoxAt.all (x := a) HC6.out
  obtain ⟨z0, z1, z2, z3, z4, z5⟩ := BoxAt.all (x := b) HC7.out
  have hlt6 := HC7.out.lt
  go_upto_region 6 with fail
  go_region_with (first | (go_at_call 15; have hq := H7; clear hq; refine (HCB.out _ (Later.trans (HL6.out.trans HL7.out) (by first | exact Later.refl _ | exact (Later.refl _).drew | exact (Later.refl _).drewN _))).mono ?_; rintro e w8 ⟨u8, v8, rfl, hpr8⟩; obtain ⟨A8, c8, hv8, hcc8, hr8⟩ := hpr8.old.row; obtain ⟨B8, d8, hv9, hdd8, hs8⟩ := hpr8.new.row; subst hv8 hv9; have hlw : Later w7 w8 := Later.trans (by first | exact Later.refl _ | exact (Later.refl _).drew | exact (Later.refl _).drewN _) hpr8.later; have c2 := HC8.out.later hlw; have u0 := c2.cell (i := 0) rfl; have u1 := c2.cell (i := 1) rfl; have u2 := c2.cell (i := 2) rfl; have u3 := c2.cell (i := 3) rfl; have u4 := c2.cell (i := 4) rfl; have u5 := c2.cell (i := 5) rfl; have v0 := c2.frozen 0; have v1 := c2.frozen 1; have v2 := c2.frozen 2; have v3 := c2.frozen 3; have v4 := c2.frozen 4; have v5 := c2.frozen 5; have k2 := turned_set6 w8 (w.heap.size + 1 + 1) (.int .i64 a.v.kind) (.string a.v.name) (.string a.v.to) (.int .i64 a.v.place) (.slice A7 a.v.old.length c7) (.slice B7 a.v.new.length d7); have c3 := (HC9.out.later hlw).other k2 (by omega); have r0 := c3.cell (i := 0) rfl; have r1 := c3.cell (i := 1) rfl; have r2 := c3.cell (i := 2) rfl; have r3 := c3.cell (i := 3) rfl; have r4 := c3.cell (i := 4) rfl; have r5 := c3.cell (i := 5) rfl; have t0 := c3.frozen 0; have t1 := c3.frozen 1; have t2 := c3.frozen 2; have t3 := c3.frozen 3; have t4 := c3.frozen 4; have t5 := c3.frozen 5; have k3 := turned_set6 ((((((w8.setCell ⟨w.heap.size + 1 + 1, 0, none⟩ (.int .i64 a.v.kind)).setCell ⟨w.heap.size + 1 + 1, 1, none⟩ (.string a.v.name)).setCell ⟨w.heap.size + 1 + 1, 2, none⟩ (.string a.v.to)).setCell ⟨w.heap.size + 1 + 1, 3, none⟩ (.int .i64 a.v.place)).setCell ⟨w.heap.size + 1 + 1, 4, none⟩ (.slice A7 a.v.old.length c7)).setCell ⟨w.heap.size + 1 + 1, 5, none⟩ (.slice B7 a.v.new.length d7)) (w.heap.size + 1 + 1 + 1) (.int .i64 b.v.kind) (.string b.v.name) (.string b.v.to) (.int .i64 b.v.place) (.slice A8 b.v.old.length c8) (.slice B8 b.v.new.length d8); have HK2z := Lib.hid k2; have HK3z := Lib.hid k3; have HC2z := Lib.hid ((c2.set6 (.int .i64 a.v.kind) (.string a.v.name) (.string a.v.to) (.int .i64 a.v.place) (.slice A7 a.v.old.length c7) (.slice B7 a.v.new.length d7)).other k3 (by omega)); have HC3z := Lib.hid (c3.set6 (.int .i64 b.v.kind) (.string b.v.name) (.string b.v.to) (.int .i64 b.v.place) (.slice A8 b.v.old.length c8) (.slice B8 b.v.new.length d8)); clear k2 k3 c2 c3; have H8 : Hid (IsPr b.v w7 w8 (.slice A8 b.v.old.length c8) (.slice B8 b.v.new.length d8)) := hpr8.base (by first | exact Later.refl _ | exact (Later.refl _).drew | exact (Later.refl _).drewN _); have HU8 : Hid ((∀ k, (Value.slice A8 b.v.old.length c8).ownBlock = some k → w7.heap.size ≤ k) ∧ (∀ k, (Value.slice B8 b.v.new.length d8).ownBlock = some k → w7.heap.size ≤ k)) := ⟨H8.out.old.block, H8.out.new.block⟩; have HL8 := Lib.hid hlw; clear hpr8 hlw hr8 hs8 hcc8 hdd8) | (go_at_call 15; refine (HCA.out _ (Later.trans HL6.out (by first | exact Later.refl _ | exact (Later.refl _).drew | exact (Later.refl _).drewN _))).mono ?_; rintro e w7 ⟨u7, v7, rfl, hpr7⟩; obtain ⟨A7, c7, hv7, hcc7, hr7⟩ := hpr7.old.row; obtain ⟨B7, d7, hv7', hdd7, hs7⟩ := hpr7.new.row; subst hv7 hv7'; have hlw : Later w6 w7 := Later.trans (by first | exact Later.refl _ | exact (Later.refl _).drew | exact (Later.refl _).drewN _) hpr7.later; have H7 : Hid (IsPr a.v w6 w7 (.slice A7 a.v.old.length c7) (.slice B7 a.v.new.length d7)) := hpr7.base (by first | exact Later.refl _ | exact (Later.refl _).drew | exact (Later.refl _).drewN _); have HU7 : Hid ((∀ k, (Value.slice A7 a.v.old.length c7).ownBlock = some k → w6.heap.size ≤ k) ∧ (∀ k, (Value.slice B7 a.v.new.length d7).ownBlock = some k → w6.heap.size ≤ k)) := ⟨H7.out.old.block, H7.out.new.block⟩; have HL7 := Lib.hid hlw; have HC8 := Lib.hid (HC6.out.later hlw); have HC9 := Lib.hid (HC7.out.later hlw); obtain ⟨f0, f1, f2, f3, f4, f5⟩ := BoxAt.all (x := b) HC9.out; clear hpr7 hlw hr7 hs7 hcc7 hdd7))
  all_goals go_wp2
  all_goals
    have hle := HL7.out.le
    have l1 : Later w w7 := HL6.out.trans HL7.out
    have l2 : Later w w8 := l1.trans HL8.out
    have l3 := l2.turn HK2z.out (by omega)
    have l4 := l3.turn HK3z.out (by omega)
    have i1 := (((H7.out.base HL6.out).on HL8.out).off HK2z.out (fun k hk => by have := HU7.out.1 k hk; omega) (fun k hk => by have := HU7.out.2 k hk; omega) l3).off HK3z.out (fun k hk => by have := HU7.out.1 k hk; omega) (fun k hk => by have := HU7.out.2 k hk; omega) l4
    have i2 := ((H8.out.base l1).off HK2z.out (fun k hk => by have := HU8.out.1 k hk; omega) (fun k hk => by have := HU8.out.2 k hk; omega) l3).off HK3z.out (fun k hk => by have := HU8.out.1 k hk; omega) (fun k hk => by have := HU8.out.2 k hk; omega) l4
    have m1 := HAO.out.mild
    have m2 := HBO.out.mild
    obtain ⟨xa, ea1, ea2, ea3⟩ := i1.ok m1.omost m1.nmost m1.name m1.to m1.lo m1.hi m1.olds m1.news
    obtain ⟨xb, eb1, eb2, eb3⟩ := i2.ok m2.omost m2.nmost m2.name m2.to m2.lo m2.hi m2.olds m2.news
    exact bodyPost_ret (results_two rfl _ _ _ _ _ _ _ _ _ _ _ _ rfl rfl rfl HC2z.out HC3z.out Try.underlying28 rfl Try.primSize Try.primSize) rfl ⟨xa, xb, by rw [← ea2, ← eb2]; rfl, ea1, eb1, ea3, eb3, l4⟩

end Go.Proofs.Ytnhhdjcbifmfgaa

/-
  A region that draws its order, by what stands behind each set of its operations.
-/
namespace Go.Proofs.Ytnhhdjcbifmfgaa
open Go.RowKit

/-- An operation more. -/
def more (l : Nat → Bool) (i : Nat) : Nat → Bool := fun j => if j = i then true else l j
theorem more_same (l : Nat → Bool) (i : Nat) : more l i i = true := by simp [more]
theorem more_other (l : Nat → Bool) {i j : Nat} (h : j ≠ i) : more l i j = l j := by simp [more, h]

/-- Each edge that binds goes to an operation ahead. -/
def goesBack (ops : Array Oper) : Bool := (List.range ops.size).all fun i => ((ops[i]?).map (·.after.all fun e => !Region.binds .any e || decide (e.on < i))).getD true
/-- How many are left. -/
def leftN (l : Nat → Bool) : Nat → Nat
  | 0 => 0
  | n + 1 => leftN l n + (if l n then 0 else 1)
theorem left_more (l : Nat → Bool) {i : Nat} : ∀ n, i < n → l i = false → leftN (more l i) n + 1 = leftN l n
  | 0, h, _ => absurd h (Nat.not_lt_zero _)
  | n + 1, h, hi => by
    unfold leftN
    by_cases e : i = n
    · subst e
      have : ∀ k, k ≤ i → leftN (more l i) k = leftN l k := fun k => by
        induction k with
        | zero => intro _; rfl
        | succ k ih => intro hk; unfold leftN; rw [ih (by omega), more_other l (by omega)]
      rw [this i (Nat.le_refl _), more_same, hi]
      simp
    · have := left_more l n (by omega) hi
      rw [more_other l (fun x => e x.symm)]
      omega
theorem left_zero (l : Nat → Bool) : ∀ n, leftN l n = 0 → ∀ i, i < n → l i = true
  | 0, _, i, h => absurd h (Nat.not_lt_zero _)
  | n + 1, h0, i, h => by
    unfold leftN at h0
    by_cases e : i = n
    · subst e
      cases hl : l i
      · rw [hl] at h0; simp at h0
      · rfl
    · exact left_zero l n (by omega) i (by omega)

theorem getD_in {L : Array Bool} {i : Nat} (h : i < L.size) (d : Bool) : L.getD i d = L[i] := by simp [Array.getD, h]
theorem getD_more {L : Array Bool} {i : Nat} (h : i < L.size) : (fun j => (L.setIfInBounds i true).getD j false) = more (fun j => L.getD j false) i := by
  funext j
  unfold more
  by_cases e : j = i
  · subst e
    simp [Array.getD, h]
  · rw [if_neg e]
    by_cases hj : j < L.size
    · simp [Array.getD, hj, Ne.symm e]
    · simp [Array.getD, hj]

theorem ready_parts {ops : Array Oper} {L : Array Bool} (hs : L.size = ops.size) {i : Nat} (h : i ∈ Region.ready .any ops L) : i < ops.size ∧ L.getD i false = false ∧ ∀ o, ops[i]? = some o → ∀ e ∈ o.after, Region.binds .any e = true → L.getD e.on false = true := by
  simp only [Region.ready, List.mem_filter, List.mem_range, Bool.and_eq_true, Bool.not_eq_true'] at h
  obtain ⟨h1, h2, h3⟩ := h
  rw [getD_in (by omega)] at h2
  refine ⟨h1, by rw [getD_in (by omega)]; exact h2, fun o ho e he hb => ?_⟩
  rw [ho] at h3
  simp only [Option.map_some, Option.getD_some, Array.all_eq_true, Bool.or_eq_true, Bool.not_eq_true'] at h3
  obtain ⟨k, hk, rfl⟩ := Array.getElem_of_mem he
  rcases h3 k hk with h | h
  · rw [hb] at h; cases h
  · exact h
theorem ready_none {ops : Array Oper} (hg : goesBack ops = true) {L : Array Bool} (hs : L.size = ops.size) (h : Region.ready .any ops L = []) : ∀ i, i < ops.size → L.getD i false = true := by
  intro i
  induction i using Nat.strongRecOn with
  | ind i ih =>
    intro hi
    cases hl : L.getD i false with
    | true => rfl
    | false =>
      exfalso
      have hm : i ∈ Region.ready .any ops L := by
        simp only [Region.ready, List.mem_filter, List.mem_range, Bool.and_eq_true, Bool.not_eq_true']
        refine ⟨hi, ?_, ?_⟩
        · rw [getD_in (by omega)] at hl ⊢; exact hl
        have h1 := List.all_eq_true.1 hg i (List.mem_range.2 hi)
        rw [Array.getElem?_eq_getElem hi] at h1 ⊢
        simp only [Option.map_some, Option.getD_some, Array.all_eq_true, Bool.or_eq_true, Bool.not_eq_true', decide_eq_true_eq] at h1 ⊢
        intro k hk
        rcases h1 k hk with h2 | h2
        · exact .inl h2
        · exact .inr (ih _ h2 (by omega))
      rw [h] at hm
      cases hm

/-- The region, in whatever order: what stands behind each set of its operations is kept by each that may come. -/
theorem region_inv {P : Program} {ops : Array Oper} {Q : Exit → Act → World → Prop} {id : Nat} {a : Act} {w : World} (hm : P.follows .mixedOrders = true) (hg : goesBack ops = true) (Inv : (Nat → Bool) → Act → World → Prop)
    (hstep : ∀ l a w i o, ops[i]? = some o → l i = false → (∀ e ∈ o.after, Region.binds .any e = true → l e.on = true) → Inv l a w → wpOp P ops Q i (fun a' w' => Inv (more l i) a' w') a w)
    (hend : ∀ l a w, (∀ i, i < ops.size → l i = true) → Inv l a w → Q .normal a w)
    (h0 : Inv (fun _ => false) a { w with drawn := w.drawn + 1 }) : (Code.region id ops true).wp P Q a w := by
  have key : ∀ fuel (L : Array Bool) a w, L.size = ops.size → leftN (fun j => L.getD j false) ops.size ≤ fuel → Inv (fun j => L.getD j false) a w → wpAny P .any ops Q fuel L a w := by
    intro fuel
    induction fuel with
    | zero =>
      intro L a w hs hf h
      have hall := left_zero _ _ (Nat.le_zero.1 hf)
      refine ⟨?_, hend _ _ _ hall h⟩
      cases hr : Region.ready .any ops L with
      | nil => rfl
      | cons i rs =>
        have hi := ready_parts hs (i := i) (by rw [hr]; exact List.mem_cons_self)
        have := hall i hi.1
        rw [hi.2.1] at this
        cases this
    | succ fuel ih =>
      intro L a w hs hf h
      refine ⟨fun hr => hend _ _ _ (ready_none hg hs hr) h, fun i hi => ?_⟩
      obtain ⟨h1, h2, h3⟩ := ready_parts hs hi
      refine wpOp_mono ?_ (hstep _ a w i ops[i] (Array.getElem?_eq_getElem h1) h2 (h3 _ (Array.getElem?_eq_getElem h1)) h)
      intro a' w' h'
      refine ih _ _ _ (by simpa using hs) ?_ ?_
      · rw [getD_more (by omega)]
        have := left_more (fun j => L.getD j false) ops.size h1 h2
        omega
      · rw [getD_more (by omega)]; exact h'
  refine wp_region_any hm (key _ _ _ _ (by simp) ?_ ?_)
  · have : ∀ n (l : Nat → Bool), leftN l n ≤ n := fun n l => by
      induction n with
      | zero => exact Nat.le_refl _
      | succ n ih => unfold leftN; split <;> omega
    exact this _ _
  · have e : (fun j => (Array.replicate ops.size false).getD j false) = fun _ => false := by
      funext j
      simp only [Array.getD]
      split <;> simp
    rw [e]
    exact h0

end Go.Proofs.Ytnhhdjcbifmfgaa
