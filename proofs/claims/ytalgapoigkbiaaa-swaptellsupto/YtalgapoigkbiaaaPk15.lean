import Derived.Test.YtalgapoigkbiaaaPk10
import Derived.Test.YtalgapoigkbiaaaPk14

/-
  What the law SwapTells comes to, as a call.
-/
namespace Go.Proofs.Ytalgapoigkbiaaa
open Go.RowKit Go.Maps

set_option maxRecDepth 100000 in
set_option maxHeartbeats 3200000 in
theorem swapTells_walk (x y : PrC) (w : World) (hx : CameP w x) (hy : CameP w y) : Calls Try.prog 3 #[prV x, prV y] w (Says true w) := by
  have hw := hx.weigh
  have hw2 := hy.weigh
  obtain ⟨b0, b1, hl0⟩ := two_boxes w #[.int .i64 x.v.kind, .string x.v.name, .string x.v.to, .int .i64 x.v.place, .slice x.A x.n x.c, .slice x.B x.m x.d] #[.int .i64 y.v.kind, .string y.v.name, .string y.v.to, .int .i64 y.v.place, .slice y.A y.n y.c, .slice y.B y.m y.d] 24
  have HM : Hid (Calls Try.prog 10 #[.slice (some ⟨w.heap.size + 1 + 1, 0, none⟩) 2 2] (((w.alloc (.cells #[.int .i64 x.v.kind, .string x.v.name, .string x.v.to, .int .i64 x.v.place, .slice x.A x.n x.c, .slice x.B x.m x.d] 24)).alloc (.cells #[.int .i64 y.v.kind, .string y.v.name, .string y.v.to, .int .i64 y.v.place, .slice y.A y.n y.c, .slice y.B y.m y.d] 24)).alloc (.cells #[.int .i64 x.v.kind, .string x.v.name, .string x.v.to, .int .i64 x.v.place, .slice x.A x.n x.c, .slice x.B x.m x.d, .int .i64 y.v.kind, .string y.v.name, .string y.v.to, .int .i64 y.v.place, .slice y.A y.n y.c, .slice y.B y.m y.d] 24)) (Says (decide (2 + (weightP x.v + weightP y.v) ≤ 5000)) (((w.alloc (.cells #[.int .i64 x.v.kind, .string x.v.name, .string x.v.to, .int .i64 x.v.place, .slice x.A x.n x.c, .slice x.B x.m x.d] 24)).alloc (.cells #[.int .i64 y.v.kind, .string y.v.name, .string y.v.to, .int .i64 y.v.place, .slice y.A y.n y.c, .slice y.B y.m y.d] 24)).alloc (.cells #[.int .i64 x.v.kind, .string x.v.name, .string x.v.to, .int .i64 x.v.place, .slice x.A x.n x.c, .slice x.B x.m x.d, .int .i64 y.v.kind, .string y.v.name, .string y.v.to, .int .i64 y.v.place, .slice y.A y.n y.c, .slice y.B y.m y.d] 24)))) := by
    have := small_any (some ⟨w.heap.size + 1 + 1, 0, none⟩) 2 2 [x, y] (((w.alloc (.cells #[.int .i64 x.v.kind, .string x.v.name, .string x.v.to, .int .i64 x.v.place, .slice x.A x.n x.c, .slice x.B x.m x.d] 24)).alloc (.cells #[.int .i64 y.v.kind, .string y.v.name, .string y.v.to, .int .i64 y.v.place, .slice y.A y.n y.c, .slice y.B y.m y.d] 24)).alloc (.cells #[.int .i64 x.v.kind, .string x.v.name, .string x.v.to, .int .i64 x.v.place, .slice x.A x.n x.c, .slice x.B x.m x.d, .int .i64 y.v.kind, .string y.v.name, .string y.v.to, .int .i64 y.v.place, .slice y.A y.n y.c, .slice y.B y.m y.d] 24)) (by have := prims_two hx hy hl0 24; simpa using this) (by omega) (by rw [weightPs_two]; omega)
    rw [weightPs_two] at this
    exact this
  replace b0 := b0.alloc (.cells #[.int .i64 x.v.kind, .string x.v.name, .string x.v.to, .int .i64 x.v.place, .slice x.A x.n x.c, .slice x.B x.m x.d, .int .i64 y.v.kind, .string y.v.name, .string y.v.to, .int .i64 y.v.place, .slice y.A y.n y.c, .slice y.B y.m y.d] 24)
  replace b1 := b1.alloc (.cells #[.int .i64 x.v.kind, .string x.v.name, .string x.v.to, .int .i64 x.v.place, .slice x.A x.n x.c, .slice x.B x.m x.d, .int .i64 y.v.kind, .string y.v.name, .string y.v.to, .int .i64 y.v.place, .slice y.A y.n y.c, .slice y.B y.m y.d] 24)
  replace hl0 := hl0.alloc (.cells #[.int .i64 x.v.kind, .string x.v.name, .string x.v.to, .int .i64 x.v.place, .slice x.A x.n x.c, .slice x.B x.m x.d, .int .i64 y.v.kind, .string y.v.name, .string y.v.to, .int .i64 y.v.place, .slice y.A y.n y.c, .slice y.B y.m y.d] 24)
  unfold prV
  by_cases hg : 2 + (weightP x.v + weightP y.v) ≤ 5000
  case neg =>
    rw [decide_eq_false hg] at HM
    go_enter Try.func3, Try.ntmps3
    go_wp2_with fail
    refine HM.out.mono ?_
    rintro e m1 ⟨rfl, hl⟩
    have L0 := Lib.hid (hl0.trans hl)
    clear hl hl0 b0 b1 HM
    go_wp2_with fail
    refine (aliveS_any m1).mono ?_
    rintro e m2 ⟨rfl, hl⟩
    replace L0 := Lib.hid (L0.out.trans hl)
    clear hl
    go_wp2
    go_ret
    exact ⟨rfl, L0.out⟩
  rw [decide_eq_true hg] at HM
  have Ox := Lib.hid (hx.ok (by omega))
  have Oy := Lib.hid (hy.ok (by omega))
  cases hs : swapP x.v y.v with
  | none =>
    have hap : apartP x.v y.v = false := by simp [apartP, hs, swapR, noneP]
    have HAP := Lib.hid hap
    clear hap
    go_enter Try.func3, Try.ntmps3
    go_wp2_with fail
    refine HM.out.mono ?_
    generalize ((w.alloc (.cells #[.int .i64 x.v.kind, .string x.v.name, .string x.v.to, .int .i64 x.v.place, .slice x.A x.n x.c, .slice x.B x.m x.d] 24)).alloc (.cells #[.int .i64 y.v.kind, .string y.v.name, .string y.v.to, .int .i64 y.v.place, .slice y.A y.n y.c, .slice y.B y.m y.d] 24)).alloc (.cells #[.int .i64 x.v.kind, .string x.v.name, .string x.v.to, .int .i64 x.v.place, .slice x.A x.n x.c, .slice x.B x.m x.d, .int .i64 y.v.kind, .string y.v.name, .string y.v.to, .int .i64 y.v.place, .slice y.A y.n y.c, .slice y.B y.m y.d] 24) = wb at b0 b1 hl0 ⊢
    generalize w.heap.size + 1 + 1 = gz
    generalize w.heap.size + 1 = gy at b1 ⊢
    generalize w.heap.size = gx at b0 ⊢
    rintro e m1 ⟨rfl, hl⟩
    have Bx := Lib.hid (b0.later hl); have By := Lib.hid (b1.later hl); have L0 := Lib.hid (hl0.trans hl)
    replace Ox := Lib.hid (Ox.out.later L0.out); replace Oy := Lib.hid (Oy.out.later L0.out)
    clear b0 b1 hl0 hl HM
    obtain ⟨f2_0, f2_1, f2_2, f2_3, f2_4, f2_5⟩ := BoxAt.all (x := x) Bx.out
    obtain ⟨f3_0, f3_1, f3_2, f3_3, f3_4, f3_5⟩ := BoxAt.all (x := y) By.out
    have HC : Hid (Calls Try.prog 12 #[prV x, prV y] m1 (GivesT noneP m1)) := by
      have := swap_any x y _ Ox.out Oy.out
      rw [hs, show swapR none = noneP from rfl] at this
      exact this
    unfold prV at HC
    go_wp2_with fail
    refine HC.out.mono ?_
    rintro e m4 ⟨a, b, rfl, ha, hb, oa, ob, hl⟩
    dsimp only at ha hb ⊢
    clear HC
    clear f2_0 f2_1 f2_2 f2_3 f2_4 f2_5 f3_0 f3_1 f3_2 f3_3 f3_4 f3_5
    replace Bx := Lib.hid (Bx.out.later hl)
    replace By := Lib.hid (By.out.later hl)
    replace Ox := Lib.hid (Ox.out.later hl)
    replace Oy := Lib.hid (Oy.out.later hl)
    replace L0 := Lib.hid (L0.out.trans hl)
    have Oa := Lib.hid oa; have Ob := Lib.hid ob; have Va := Lib.hid ha; have Vb := Lib.hid hb
    clear hl oa ob ha hb
    obtain ⟨d0, d1, hl⟩ := two_boxes m4 #[.int .i64 a.v.kind, .string a.v.name, .string a.v.to, .int .i64 a.v.place, .slice a.A a.n a.c, .slice a.B a.m a.d] #[.int .i64 b.v.kind, .string b.v.name, .string b.v.to, .int .i64 b.v.place, .slice b.A b.n b.c, .slice b.B b.m b.d] 27
    unfold prV
    go_upto_region 4 with fail
    generalize (m4.alloc (.cells #[.int .i64 a.v.kind, .string a.v.name, .string a.v.to, .int .i64 a.v.place, .slice a.A a.n a.c, .slice a.B a.m a.d] 27)).alloc (.cells #[.int .i64 b.v.kind, .string b.v.name, .string b.v.to, .int .i64 b.v.place, .slice b.A b.n b.c, .slice b.B b.m b.d] 27) = m5 at d0 d1 hl ⊢
    generalize m4.heap.size + 1 = gb at d1 ⊢
    generalize m4.heap.size = ga at d0 ⊢
    replace Bx := Lib.hid (Bx.out.later hl)
    replace By := Lib.hid (By.out.later hl)
    replace Ox := Lib.hid (Ox.out.later hl)
    replace Oy := Lib.hid (Oy.out.later hl)
    replace Oa := Lib.hid (Oa.out.later hl)
    replace Ob := Lib.hid (Ob.out.later hl)
    replace L0 := Lib.hid (L0.out.trans hl)
    have Ba := Lib.hid d0; have Bb := Lib.hid d1
    clear d0 d1 hl
    obtain ⟨f6_0, f6_1, f6_2, f6_3, f6_4, f6_5⟩ := BoxAt.all (x := x) Bx.out
    obtain ⟨f7_0, f7_1, f7_2, f7_3, f7_4, f7_5⟩ := BoxAt.all (x := y) By.out
    have HC : Hid (Calls Try.prog 13 #[prV x, prV y] m5 (GivesT noneP m5)) := by
      have := refSwap_any x y _ Ox.out Oy.out
      rw [hs, show swapR none = noneP from rfl] at this
      exact this
    unfold prV at HC
    go_wp2_with fail
    refine HC.out.mono ?_
    rintro e m8 ⟨c, d, rfl, hc, hd, oc, od, hl⟩
    dsimp only at hc hd ⊢
    clear HC
    clear f6_0 f6_1 f6_2 f6_3 f6_4 f6_5 f7_0 f7_1 f7_2 f7_3 f7_4 f7_5
    replace Bx := Lib.hid (Bx.out.later hl)
    replace By := Lib.hid (By.out.later hl)
    replace Ba := Lib.hid (Ba.out.later hl)
    replace Bb := Lib.hid (Bb.out.later hl)
    replace Ox := Lib.hid (Ox.out.later hl)
    replace Oy := Lib.hid (Oy.out.later hl)
    replace Oa := Lib.hid (Oa.out.later hl)
    replace Ob := Lib.hid (Ob.out.later hl)
    replace L0 := Lib.hid (L0.out.trans hl)
    have Oc := Lib.hid oc; have Od := Lib.hid od; have Vc := Lib.hid hc; have Vd := Lib.hid hd
    clear hl oc od hc hd
    obtain ⟨d0, d1, hl⟩ := two_boxes m8 #[.int .i64 c.v.kind, .string c.v.name, .string c.v.to, .int .i64 c.v.place, .slice c.A c.n c.c, .slice c.B c.m c.d] #[.int .i64 d.v.kind, .string d.v.name, .string d.v.to, .int .i64 d.v.place, .slice d.A d.n d.c, .slice d.B d.m d.d] 24
    unfold prV
    go_upto_region 5 with fail
    generalize (m8.alloc (.cells #[.int .i64 c.v.kind, .string c.v.name, .string c.v.to, .int .i64 c.v.place, .slice c.A c.n c.c, .slice c.B c.m c.d] 24)).alloc (.cells #[.int .i64 d.v.kind, .string d.v.name, .string d.v.to, .int .i64 d.v.place, .slice d.A d.n d.c, .slice d.B d.m d.d] 24) = m9 at d0 d1 hl ⊢
    generalize m8.heap.size + 1 = gd at d1 ⊢
    generalize m8.heap.size = gc at d0 ⊢
    replace Bx := Lib.hid (Bx.out.later hl)
    replace By := Lib.hid (By.out.later hl)
    replace Ba := Lib.hid (Ba.out.later hl)
    replace Bb := Lib.hid (Bb.out.later hl)
    replace Ox := Lib.hid (Ox.out.later hl)
    replace Oy := Lib.hid (Oy.out.later hl)
    replace Oa := Lib.hid (Oa.out.later hl)
    replace Ob := Lib.hid (Ob.out.later hl)
    replace Oc := Lib.hid (Oc.out.later hl)
    replace Od := Lib.hid (Od.out.later hl)
    replace L0 := Lib.hid (L0.out.trans hl)
    have Bc := Lib.hid d0; have Bd := Lib.hid d1
    clear d0 d1 hl
    have HC : Hid (Calls Try.prog 11 #[] m9 (Says true m9)) := by
      exact aliveS_any m9
    unfold prV at HC
    go_wp2_with fail
    refine HC.out.mono ?_
    rintro e m10 ⟨rfl, hl⟩
    clear HC
    replace Bx := Lib.hid (Bx.out.later hl)
    replace By := Lib.hid (By.out.later hl)
    replace Ba := Lib.hid (Ba.out.later hl)
    replace Bb := Lib.hid (Bb.out.later hl)
    replace Bc := Lib.hid (Bc.out.later hl)
    replace Bd := Lib.hid (Bd.out.later hl)
    replace Ox := Lib.hid (Ox.out.later hl)
    replace Oy := Lib.hid (Oy.out.later hl)
    replace Oa := Lib.hid (Oa.out.later hl)
    replace Ob := Lib.hid (Ob.out.later hl)
    replace Oc := Lib.hid (Oc.out.later hl)
    replace Od := Lib.hid (Od.out.later hl)
    replace L0 := Lib.hid (L0.out.trans hl)
    clear hl
    obtain ⟨f11_0, f11_1, f11_2, f11_3, f11_4, f11_5⟩ := BoxAt.all (x := a) Ba.out
    obtain ⟨f12_0, f12_1, f12_2, f12_3, f12_4, f12_5⟩ := BoxAt.all (x := c) Bc.out
    have HC : Hid (Calls Try.prog 14 #[prV a, prV c] m10 (Says true m10)) := by
      have := refSame_v Oa.out.at Oc.out.at
      rw [Va.out, Vc.out, sameP_self] at this
      exact this
    unfold prV at HC
    go_wp2_with fail
    refine HC.out.mono ?_
    rintro e m13 ⟨rfl, hl⟩
    clear HC
    clear f11_0 f11_1 f11_2 f11_3 f11_4 f11_5 f12_0 f12_1 f12_2 f12_3 f12_4 f12_5
    replace Bx := Lib.hid (Bx.out.later hl)
    replace By := Lib.hid (By.out.later hl)
    replace Ba := Lib.hid (Ba.out.later hl)
    replace Bb := Lib.hid (Bb.out.later hl)
    replace Bc := Lib.hid (Bc.out.later hl)
    replace Bd := Lib.hid (Bd.out.later hl)
    replace Ox := Lib.hid (Ox.out.later hl)
    replace Oy := Lib.hid (Oy.out.later hl)
    replace Oa := Lib.hid (Oa.out.later hl)
    replace Ob := Lib.hid (Ob.out.later hl)
    replace Oc := Lib.hid (Oc.out.later hl)
    replace Od := Lib.hid (Od.out.later hl)
    replace L0 := Lib.hid (L0.out.trans hl)
    clear hl
    obtain ⟨f14_0, f14_1, f14_2, f14_3, f14_4, f14_5⟩ := BoxAt.all (x := b) Bb.out
    obtain ⟨f15_0, f15_1, f15_2, f15_3, f15_4, f15_5⟩ := BoxAt.all (x := d) Bd.out
    have HC : Hid (Calls Try.prog 14 #[prV b, prV d] m13 (Says true m13)) := by
      have := refSame_v Ob.out.at Od.out.at
      rw [Vb.out, Vd.out, sameP_self] at this
      exact this
    unfold prV at HC
    go_wp2_with fail
    refine HC.out.mono ?_
    rintro e m16 ⟨rfl, hl⟩
    clear HC
    clear f14_0 f14_1 f14_2 f14_3 f14_4 f14_5 f15_0 f15_1 f15_2 f15_3 f15_4 f15_5
    replace Bx := Lib.hid (Bx.out.later hl)
    replace By := Lib.hid (By.out.later hl)
    replace Ba := Lib.hid (Ba.out.later hl)
    replace Bb := Lib.hid (Bb.out.later hl)
    replace Bc := Lib.hid (Bc.out.later hl)
    replace Bd := Lib.hid (Bd.out.later hl)
    replace Ox := Lib.hid (Ox.out.later hl)
    replace Oy := Lib.hid (Oy.out.later hl)
    replace Oa := Lib.hid (Oa.out.later hl)
    replace Ob := Lib.hid (Ob.out.later hl)
    replace Oc := Lib.hid (Oc.out.later hl)
    replace Od := Lib.hid (Od.out.later hl)
    replace L0 := Lib.hid (L0.out.trans hl)
    clear hl
    obtain ⟨f17_0, f17_1, f17_2, f17_3, f17_4, f17_5⟩ := BoxAt.all (x := x) Bx.out
    obtain ⟨f18_0, f18_1, f18_2, f18_3, f18_4, f18_5⟩ := BoxAt.all (x := y) By.out
    have HC : Hid (Calls Try.prog 15 #[prV x, prV y] m16 (Says false m16)) := by
      have := apart_any x y _ Ox.out Oy.out
      rw [HAP.out] at this
      exact this
    unfold prV at HC
    go_wp2_with fail
    refine HC.out.mono ?_
    rintro e m19 ⟨rfl, hl⟩
    clear HC
    clear f17_0 f17_1 f17_2 f17_3 f17_4 f17_5 f18_0 f18_1 f18_2 f18_3 f18_4 f18_5
    replace Bx := Lib.hid (Bx.out.later hl)
    replace By := Lib.hid (By.out.later hl)
    replace Ba := Lib.hid (Ba.out.later hl)
    replace Bb := Lib.hid (Bb.out.later hl)
    replace Bc := Lib.hid (Bc.out.later hl)
    replace Bd := Lib.hid (Bd.out.later hl)
    replace Ox := Lib.hid (Ox.out.later hl)
    replace Oy := Lib.hid (Oy.out.later hl)
    replace Oa := Lib.hid (Oa.out.later hl)
    replace Ob := Lib.hid (Ob.out.later hl)
    replace Oc := Lib.hid (Oc.out.later hl)
    replace Od := Lib.hid (Od.out.later hl)
    replace L0 := Lib.hid (L0.out.trans hl)
    clear hl
    obtain ⟨f20_0, f20_1, f20_2, f20_3, f20_4, f20_5⟩ := BoxAt.all (x := x) Bx.out
    obtain ⟨f21_0, f21_1, f21_2, f21_3, f21_4, f21_5⟩ := BoxAt.all (x := y) By.out
    have HC : Hid (Calls Try.prog 16 #[prV x, prV y] m19 (Says true m19)) := by
      have := needs_any x y _ Ox.out Oy.out
      rw [hs, show (!(swapR none).2.2) = true from rfl] at this
      exact this
    unfold prV at HC
    go_wp2_with fail
    refine HC.out.mono ?_
    rintro e m22 ⟨rfl, hl⟩
    clear HC
    clear f20_0 f20_1 f20_2 f20_3 f20_4 f20_5 f21_0 f21_1 f21_2 f21_3 f21_4 f21_5
    replace Bx := Lib.hid (Bx.out.later hl)
    replace By := Lib.hid (By.out.later hl)
    replace Ba := Lib.hid (Ba.out.later hl)
    replace Bb := Lib.hid (Bb.out.later hl)
    replace Bc := Lib.hid (Bc.out.later hl)
    replace Bd := Lib.hid (Bd.out.later hl)
    replace Ox := Lib.hid (Ox.out.later hl)
    replace Oy := Lib.hid (Oy.out.later hl)
    replace Oa := Lib.hid (Oa.out.later hl)
    replace Ob := Lib.hid (Ob.out.later hl)
    replace Oc := Lib.hid (Oc.out.later hl)
    replace Od := Lib.hid (Od.out.later hl)
    replace L0 := Lib.hid (L0.out.trans hl)
    clear hl
    go_wp2
    go_ret
    exact ⟨rfl, L0.out⟩
  | some r =>
    obtain ⟨r1, r2⟩ := r
    have hap : apartP x.v y.v = (sameP r1 y.v && sameP r2 x.v) := by simp [apartP, hs, swapR]
    cases h1 : sameP r1 y.v with
    | false =>
      rw [h1, Bool.false_and] at hap
      have HAP := Lib.hid hap; have H1 := Lib.hid h1
      clear hap h1
      go_enter Try.func3, Try.ntmps3
      go_wp2_with fail
      refine HM.out.mono ?_
      generalize ((w.alloc (.cells #[.int .i64 x.v.kind, .string x.v.name, .string x.v.to, .int .i64 x.v.place, .slice x.A x.n x.c, .slice x.B x.m x.d] 24)).alloc (.cells #[.int .i64 y.v.kind, .string y.v.name, .string y.v.to, .int .i64 y.v.place, .slice y.A y.n y.c, .slice y.B y.m y.d] 24)).alloc (.cells #[.int .i64 x.v.kind, .string x.v.name, .string x.v.to, .int .i64 x.v.place, .slice x.A x.n x.c, .slice x.B x.m x.d, .int .i64 y.v.kind, .string y.v.name, .string y.v.to, .int .i64 y.v.place, .slice y.A y.n y.c, .slice y.B y.m y.d] 24) = wb at b0 b1 hl0 ⊢
      generalize w.heap.size + 1 + 1 = gz
      generalize w.heap.size + 1 = gy at b1 ⊢
      generalize w.heap.size = gx at b0 ⊢
      rintro e m1 ⟨rfl, hl⟩
      have Bx := Lib.hid (b0.later hl); have By := Lib.hid (b1.later hl); have L0 := Lib.hid (hl0.trans hl)
      replace Ox := Lib.hid (Ox.out.later L0.out); replace Oy := Lib.hid (Oy.out.later L0.out)
      clear b0 b1 hl0 hl HM
      obtain ⟨f2_0, f2_1, f2_2, f2_3, f2_4, f2_5⟩ := BoxAt.all (x := x) Bx.out
      obtain ⟨f3_0, f3_1, f3_2, f3_3, f3_4, f3_5⟩ := BoxAt.all (x := y) By.out
      have HC : Hid (Calls Try.prog 12 #[prV x, prV y] m1 (GivesT (r1, r2, true) m1)) := by
        have := swap_any x y _ Ox.out Oy.out
        rw [hs, show swapR (some (r1, r2)) = (r1, r2, true) from rfl] at this
        exact this
      unfold prV at HC
      go_wp2_with fail
      refine HC.out.mono ?_
      rintro e m4 ⟨a, b, rfl, ha, hb, oa, ob, hl⟩
      dsimp only at ha hb ⊢
      clear HC
      clear f2_0 f2_1 f2_2 f2_3 f2_4 f2_5 f3_0 f3_1 f3_2 f3_3 f3_4 f3_5
      replace Bx := Lib.hid (Bx.out.later hl)
      replace By := Lib.hid (By.out.later hl)
      replace Ox := Lib.hid (Ox.out.later hl)
      replace Oy := Lib.hid (Oy.out.later hl)
      replace L0 := Lib.hid (L0.out.trans hl)
      have Oa := Lib.hid oa; have Ob := Lib.hid ob; have Va := Lib.hid ha; have Vb := Lib.hid hb
      clear hl oa ob ha hb
      obtain ⟨d0, d1, hl⟩ := two_boxes m4 #[.int .i64 a.v.kind, .string a.v.name, .string a.v.to, .int .i64 a.v.place, .slice a.A a.n a.c, .slice a.B a.m a.d] #[.int .i64 b.v.kind, .string b.v.name, .string b.v.to, .int .i64 b.v.place, .slice b.A b.n b.c, .slice b.B b.m b.d] 27
      unfold prV
      go_upto_region 4 with fail
      generalize (m4.alloc (.cells #[.int .i64 a.v.kind, .string a.v.name, .string a.v.to, .int .i64 a.v.place, .slice a.A a.n a.c, .slice a.B a.m a.d] 27)).alloc (.cells #[.int .i64 b.v.kind, .string b.v.name, .string b.v.to, .int .i64 b.v.place, .slice b.A b.n b.c, .slice b.B b.m b.d] 27) = m5 at d0 d1 hl ⊢
      generalize m4.heap.size + 1 = gb at d1 ⊢
      generalize m4.heap.size = ga at d0 ⊢
      replace Bx := Lib.hid (Bx.out.later hl)
      replace By := Lib.hid (By.out.later hl)
      replace Ox := Lib.hid (Ox.out.later hl)
      replace Oy := Lib.hid (Oy.out.later hl)
      replace Oa := Lib.hid (Oa.out.later hl)
      replace Ob := Lib.hid (Ob.out.later hl)
      replace L0 := Lib.hid (L0.out.trans hl)
      have Ba := Lib.hid d0; have Bb := Lib.hid d1
      clear d0 d1 hl
      obtain ⟨f6_0, f6_1, f6_2, f6_3, f6_4, f6_5⟩ := BoxAt.all (x := x) Bx.out
      obtain ⟨f7_0, f7_1, f7_2, f7_3, f7_4, f7_5⟩ := BoxAt.all (x := y) By.out
      have HC : Hid (Calls Try.prog 13 #[prV x, prV y] m5 (GivesT (r1, r2, true) m5)) := by
        have := refSwap_any x y _ Ox.out Oy.out
        rw [hs, show swapR (some (r1, r2)) = (r1, r2, true) from rfl] at this
        exact this
      unfold prV at HC
      go_wp2_with fail
      refine HC.out.mono ?_
      rintro e m8 ⟨c, d, rfl, hc, hd, oc, od, hl⟩
      dsimp only at hc hd ⊢
      clear HC
      clear f6_0 f6_1 f6_2 f6_3 f6_4 f6_5 f7_0 f7_1 f7_2 f7_3 f7_4 f7_5
      replace Bx := Lib.hid (Bx.out.later hl)
      replace By := Lib.hid (By.out.later hl)
      replace Ba := Lib.hid (Ba.out.later hl)
      replace Bb := Lib.hid (Bb.out.later hl)
      replace Ox := Lib.hid (Ox.out.later hl)
      replace Oy := Lib.hid (Oy.out.later hl)
      replace Oa := Lib.hid (Oa.out.later hl)
      replace Ob := Lib.hid (Ob.out.later hl)
      replace L0 := Lib.hid (L0.out.trans hl)
      have Oc := Lib.hid oc; have Od := Lib.hid od; have Vc := Lib.hid hc; have Vd := Lib.hid hd
      clear hl oc od hc hd
      obtain ⟨d0, d1, hl⟩ := two_boxes m8 #[.int .i64 c.v.kind, .string c.v.name, .string c.v.to, .int .i64 c.v.place, .slice c.A c.n c.c, .slice c.B c.m c.d] #[.int .i64 d.v.kind, .string d.v.name, .string d.v.to, .int .i64 d.v.place, .slice d.A d.n d.c, .slice d.B d.m d.d] 24
      unfold prV
      go_upto_region 5 with fail
      generalize (m8.alloc (.cells #[.int .i64 c.v.kind, .string c.v.name, .string c.v.to, .int .i64 c.v.place, .slice c.A c.n c.c, .slice c.B c.m c.d] 24)).alloc (.cells #[.int .i64 d.v.kind, .string d.v.name, .string d.v.to, .int .i64 d.v.place, .slice d.A d.n d.c, .slice d.B d.m d.d] 24) = m9 at d0 d1 hl ⊢
      generalize m8.heap.size + 1 = gd at d1 ⊢
      generalize m8.heap.size = gc at d0 ⊢
      replace Bx := Lib.hid (Bx.out.later hl)
      replace By := Lib.hid (By.out.later hl)
      replace Ba := Lib.hid (Ba.out.later hl)
      replace Bb := Lib.hid (Bb.out.later hl)
      replace Ox := Lib.hid (Ox.out.later hl)
      replace Oy := Lib.hid (Oy.out.later hl)
      replace Oa := Lib.hid (Oa.out.later hl)
      replace Ob := Lib.hid (Ob.out.later hl)
      replace Oc := Lib.hid (Oc.out.later hl)
      replace Od := Lib.hid (Od.out.later hl)
      replace L0 := Lib.hid (L0.out.trans hl)
      have Bc := Lib.hid d0; have Bd := Lib.hid d1
      clear d0 d1 hl
      obtain ⟨f10_0, f10_1, f10_2, f10_3, f10_4, f10_5⟩ := BoxAt.all (x := c) Bc.out
      obtain ⟨f11_0, f11_1, f11_2, f11_3, f11_4, f11_5⟩ := BoxAt.all (x := y) By.out
      have HC : Hid (Calls Try.prog 14 #[prV c, prV y] m9 (Says false m9)) := by
        have := refSame_v Oc.out.at Oy.out.at
        rw [Vc.out, H1.out] at this
        exact this
      unfold prV at HC
      go_wp2_with fail
      refine HC.out.mono ?_
      rintro e m12 ⟨rfl, hl⟩
      clear HC
      clear f10_0 f10_1 f10_2 f10_3 f10_4 f10_5 f11_0 f11_1 f11_2 f11_3 f11_4 f11_5
      replace Bx := Lib.hid (Bx.out.later hl)
      replace By := Lib.hid (By.out.later hl)
      replace Ba := Lib.hid (Ba.out.later hl)
      replace Bb := Lib.hid (Bb.out.later hl)
      replace Bc := Lib.hid (Bc.out.later hl)
      replace Bd := Lib.hid (Bd.out.later hl)
      replace Ox := Lib.hid (Ox.out.later hl)
      replace Oy := Lib.hid (Oy.out.later hl)
      replace Oa := Lib.hid (Oa.out.later hl)
      replace Ob := Lib.hid (Ob.out.later hl)
      replace Oc := Lib.hid (Oc.out.later hl)
      replace Od := Lib.hid (Od.out.later hl)
      replace L0 := Lib.hid (L0.out.trans hl)
      clear hl
      have HC : Hid (Calls Try.prog 11 #[] m12 (Says true m12)) := by
        exact aliveS_any m12
      unfold prV at HC
      go_wp2_with fail
      refine HC.out.mono ?_
      rintro e m13 ⟨rfl, hl⟩
      clear HC
      replace Bx := Lib.hid (Bx.out.later hl)
      replace By := Lib.hid (By.out.later hl)
      replace Ba := Lib.hid (Ba.out.later hl)
      replace Bb := Lib.hid (Bb.out.later hl)
      replace Bc := Lib.hid (Bc.out.later hl)
      replace Bd := Lib.hid (Bd.out.later hl)
      replace Ox := Lib.hid (Ox.out.later hl)
      replace Oy := Lib.hid (Oy.out.later hl)
      replace Oa := Lib.hid (Oa.out.later hl)
      replace Ob := Lib.hid (Ob.out.later hl)
      replace Oc := Lib.hid (Oc.out.later hl)
      replace Od := Lib.hid (Od.out.later hl)
      replace L0 := Lib.hid (L0.out.trans hl)
      clear hl
      obtain ⟨f14_0, f14_1, f14_2, f14_3, f14_4, f14_5⟩ := BoxAt.all (x := a) Ba.out
      obtain ⟨f15_0, f15_1, f15_2, f15_3, f15_4, f15_5⟩ := BoxAt.all (x := c) Bc.out
      have HC : Hid (Calls Try.prog 14 #[prV a, prV c] m13 (Says true m13)) := by
        have := refSame_v Oa.out.at Oc.out.at
        rw [Va.out, Vc.out, sameP_self] at this
        exact this
      unfold prV at HC
      go_wp2_with fail
      refine HC.out.mono ?_
      rintro e m16 ⟨rfl, hl⟩
      clear HC
      clear f14_0 f14_1 f14_2 f14_3 f14_4 f14_5 f15_0 f15_1 f15_2 f15_3 f15_4 f15_5
      replace Bx := Lib.hid (Bx.out.later hl)
      replace By := Lib.hid (By.out.later hl)
      replace Ba := Lib.hid (Ba.out.later hl)
      replace Bb := Lib.hid (Bb.out.later hl)
      replace Bc := Lib.hid (Bc.out.later hl)
      replace Bd := Lib.hid (Bd.out.later hl)
      replace Ox := Lib.hid (Ox.out.later hl)
      replace Oy := Lib.hid (Oy.out.later hl)
      replace Oa := Lib.hid (Oa.out.later hl)
      replace Ob := Lib.hid (Ob.out.later hl)
      replace Oc := Lib.hid (Oc.out.later hl)
      replace Od := Lib.hid (Od.out.later hl)
      replace L0 := Lib.hid (L0.out.trans hl)
      clear hl
      obtain ⟨f17_0, f17_1, f17_2, f17_3, f17_4, f17_5⟩ := BoxAt.all (x := b) Bb.out
      obtain ⟨f18_0, f18_1, f18_2, f18_3, f18_4, f18_5⟩ := BoxAt.all (x := d) Bd.out
      have HC : Hid (Calls Try.prog 14 #[prV b, prV d] m16 (Says true m16)) := by
        have := refSame_v Ob.out.at Od.out.at
        rw [Vb.out, Vd.out, sameP_self] at this
        exact this
      unfold prV at HC
      go_wp2_with fail
      refine HC.out.mono ?_
      rintro e m19 ⟨rfl, hl⟩
      clear HC
      clear f17_0 f17_1 f17_2 f17_3 f17_4 f17_5 f18_0 f18_1 f18_2 f18_3 f18_4 f18_5
      replace Bx := Lib.hid (Bx.out.later hl)
      replace By := Lib.hid (By.out.later hl)
      replace Ba := Lib.hid (Ba.out.later hl)
      replace Bb := Lib.hid (Bb.out.later hl)
      replace Bc := Lib.hid (Bc.out.later hl)
      replace Bd := Lib.hid (Bd.out.later hl)
      replace Ox := Lib.hid (Ox.out.later hl)
      replace Oy := Lib.hid (Oy.out.later hl)
      replace Oa := Lib.hid (Oa.out.later hl)
      replace Ob := Lib.hid (Ob.out.later hl)
      replace Oc := Lib.hid (Oc.out.later hl)
      replace Od := Lib.hid (Od.out.later hl)
      replace L0 := Lib.hid (L0.out.trans hl)
      clear hl
      obtain ⟨f20_0, f20_1, f20_2, f20_3, f20_4, f20_5⟩ := BoxAt.all (x := x) Bx.out
      obtain ⟨f21_0, f21_1, f21_2, f21_3, f21_4, f21_5⟩ := BoxAt.all (x := y) By.out
      have HC : Hid (Calls Try.prog 15 #[prV x, prV y] m19 (Says false m19)) := by
        have := apart_any x y _ Ox.out Oy.out
        rw [HAP.out] at this
        exact this
      unfold prV at HC
      go_wp2_with fail
      refine HC.out.mono ?_
      rintro e m22 ⟨rfl, hl⟩
      clear HC
      clear f20_0 f20_1 f20_2 f20_3 f20_4 f20_5 f21_0 f21_1 f21_2 f21_3 f21_4 f21_5
      replace Bx := Lib.hid (Bx.out.later hl)
      replace By := Lib.hid (By.out.later hl)
      replace Ba := Lib.hid (Ba.out.later hl)
      replace Bb := Lib.hid (Bb.out.later hl)
      replace Bc := Lib.hid (Bc.out.later hl)
      replace Bd := Lib.hid (Bd.out.later hl)
      replace Ox := Lib.hid (Ox.out.later hl)
      replace Oy := Lib.hid (Oy.out.later hl)
      replace Oa := Lib.hid (Oa.out.later hl)
      replace Ob := Lib.hid (Ob.out.later hl)
      replace Oc := Lib.hid (Oc.out.later hl)
      replace Od := Lib.hid (Od.out.later hl)
      replace L0 := Lib.hid (L0.out.trans hl)
      clear hl
      obtain ⟨f23_0, f23_1, f23_2, f23_3, f23_4, f23_5⟩ := BoxAt.all (x := x) Bx.out
      obtain ⟨f24_0, f24_1, f24_2, f24_3, f24_4, f24_5⟩ := BoxAt.all (x := y) By.out
      have HC : Hid (Calls Try.prog 16 #[prV x, prV y] m22 (Says false m22)) := by
        have := needs_any x y _ Ox.out Oy.out
        rw [hs, show (!(swapR (some (r1, r2))).2.2) = false from rfl] at this
        exact this
      unfold prV at HC
      go_wp2_with fail
      refine HC.out.mono ?_
      rintro e m25 ⟨rfl, hl⟩
      clear HC
      clear f23_0 f23_1 f23_2 f23_3 f23_4 f23_5 f24_0 f24_1 f24_2 f24_3 f24_4 f24_5
      replace Bx := Lib.hid (Bx.out.later hl)
      replace By := Lib.hid (By.out.later hl)
      replace Ba := Lib.hid (Ba.out.later hl)
      replace Bb := Lib.hid (Bb.out.later hl)
      replace Bc := Lib.hid (Bc.out.later hl)
      replace Bd := Lib.hid (Bd.out.later hl)
      replace Ox := Lib.hid (Ox.out.later hl)
      replace Oy := Lib.hid (Oy.out.later hl)
      replace Oa := Lib.hid (Oa.out.later hl)
      replace Ob := Lib.hid (Ob.out.later hl)
      replace Oc := Lib.hid (Oc.out.later hl)
      replace Od := Lib.hid (Od.out.later hl)
      replace L0 := Lib.hid (L0.out.trans hl)
      clear hl
      go_wp2
      go_ret
      exact ⟨rfl, L0.out⟩
    | true =>
      cases h2 : sameP r2 x.v with
      | false =>
        rw [h1, h2, Bool.and_false] at hap
        have HAP := Lib.hid hap; have H1 := Lib.hid h1; have H2 := Lib.hid h2
        clear hap h1 h2
        go_enter Try.func3, Try.ntmps3
        go_wp2_with fail
        refine HM.out.mono ?_
        generalize ((w.alloc (.cells #[.int .i64 x.v.kind, .string x.v.name, .string x.v.to, .int .i64 x.v.place, .slice x.A x.n x.c, .slice x.B x.m x.d] 24)).alloc (.cells #[.int .i64 y.v.kind, .string y.v.name, .string y.v.to, .int .i64 y.v.place, .slice y.A y.n y.c, .slice y.B y.m y.d] 24)).alloc (.cells #[.int .i64 x.v.kind, .string x.v.name, .string x.v.to, .int .i64 x.v.place, .slice x.A x.n x.c, .slice x.B x.m x.d, .int .i64 y.v.kind, .string y.v.name, .string y.v.to, .int .i64 y.v.place, .slice y.A y.n y.c, .slice y.B y.m y.d] 24) = wb at b0 b1 hl0 ⊢
        generalize w.heap.size + 1 + 1 = gz
        generalize w.heap.size + 1 = gy at b1 ⊢
        generalize w.heap.size = gx at b0 ⊢
        rintro e m1 ⟨rfl, hl⟩
        have Bx := Lib.hid (b0.later hl); have By := Lib.hid (b1.later hl); have L0 := Lib.hid (hl0.trans hl)
        replace Ox := Lib.hid (Ox.out.later L0.out); replace Oy := Lib.hid (Oy.out.later L0.out)
        clear b0 b1 hl0 hl HM
        obtain ⟨f2_0, f2_1, f2_2, f2_3, f2_4, f2_5⟩ := BoxAt.all (x := x) Bx.out
        obtain ⟨f3_0, f3_1, f3_2, f3_3, f3_4, f3_5⟩ := BoxAt.all (x := y) By.out
        have HC : Hid (Calls Try.prog 12 #[prV x, prV y] m1 (GivesT (r1, r2, true) m1)) := by
          have := swap_any x y _ Ox.out Oy.out
          rw [hs, show swapR (some (r1, r2)) = (r1, r2, true) from rfl] at this
          exact this
        unfold prV at HC
        go_wp2_with fail
        refine HC.out.mono ?_
        rintro e m4 ⟨a, b, rfl, ha, hb, oa, ob, hl⟩
        dsimp only at ha hb ⊢
        clear HC
        clear f2_0 f2_1 f2_2 f2_3 f2_4 f2_5 f3_0 f3_1 f3_2 f3_3 f3_4 f3_5
        replace Bx := Lib.hid (Bx.out.later hl)
        replace By := Lib.hid (By.out.later hl)
        replace Ox := Lib.hid (Ox.out.later hl)
        replace Oy := Lib.hid (Oy.out.later hl)
        replace L0 := Lib.hid (L0.out.trans hl)
        have Oa := Lib.hid oa; have Ob := Lib.hid ob; have Va := Lib.hid ha; have Vb := Lib.hid hb
        clear hl oa ob ha hb
        obtain ⟨d0, d1, hl⟩ := two_boxes m4 #[.int .i64 a.v.kind, .string a.v.name, .string a.v.to, .int .i64 a.v.place, .slice a.A a.n a.c, .slice a.B a.m a.d] #[.int .i64 b.v.kind, .string b.v.name, .string b.v.to, .int .i64 b.v.place, .slice b.A b.n b.c, .slice b.B b.m b.d] 27
        unfold prV
        go_upto_region 4 with fail
        generalize (m4.alloc (.cells #[.int .i64 a.v.kind, .string a.v.name, .string a.v.to, .int .i64 a.v.place, .slice a.A a.n a.c, .slice a.B a.m a.d] 27)).alloc (.cells #[.int .i64 b.v.kind, .string b.v.name, .string b.v.to, .int .i64 b.v.place, .slice b.A b.n b.c, .slice b.B b.m b.d] 27) = m5 at d0 d1 hl ⊢
        generalize m4.heap.size + 1 = gb at d1 ⊢
        generalize m4.heap.size = ga at d0 ⊢
        replace Bx := Lib.hid (Bx.out.later hl)
        replace By := Lib.hid (By.out.later hl)
        replace Ox := Lib.hid (Ox.out.later hl)
        replace Oy := Lib.hid (Oy.out.later hl)
        replace Oa := Lib.hid (Oa.out.later hl)
        replace Ob := Lib.hid (Ob.out.later hl)
        replace L0 := Lib.hid (L0.out.trans hl)
        have Ba := Lib.hid d0; have Bb := Lib.hid d1
        clear d0 d1 hl
        obtain ⟨f6_0, f6_1, f6_2, f6_3, f6_4, f6_5⟩ := BoxAt.all (x := x) Bx.out
        obtain ⟨f7_0, f7_1, f7_2, f7_3, f7_4, f7_5⟩ := BoxAt.all (x := y) By.out
        have HC : Hid (Calls Try.prog 13 #[prV x, prV y] m5 (GivesT (r1, r2, true) m5)) := by
          have := refSwap_any x y _ Ox.out Oy.out
          rw [hs, show swapR (some (r1, r2)) = (r1, r2, true) from rfl] at this
          exact this
        unfold prV at HC
        go_wp2_with fail
        refine HC.out.mono ?_
        rintro e m8 ⟨c, d, rfl, hc, hd, oc, od, hl⟩
        dsimp only at hc hd ⊢
        clear HC
        clear f6_0 f6_1 f6_2 f6_3 f6_4 f6_5 f7_0 f7_1 f7_2 f7_3 f7_4 f7_5
        replace Bx := Lib.hid (Bx.out.later hl)
        replace By := Lib.hid (By.out.later hl)
        replace Ba := Lib.hid (Ba.out.later hl)
        replace Bb := Lib.hid (Bb.out.later hl)
        replace Ox := Lib.hid (Ox.out.later hl)
        replace Oy := Lib.hid (Oy.out.later hl)
        replace Oa := Lib.hid (Oa.out.later hl)
        replace Ob := Lib.hid (Ob.out.later hl)
        replace L0 := Lib.hid (L0.out.trans hl)
        have Oc := Lib.hid oc; have Od := Lib.hid od; have Vc := Lib.hid hc; have Vd := Lib.hid hd
        clear hl oc od hc hd
        obtain ⟨d0, d1, hl⟩ := two_boxes m8 #[.int .i64 c.v.kind, .string c.v.name, .string c.v.to, .int .i64 c.v.place, .slice c.A c.n c.c, .slice c.B c.m c.d] #[.int .i64 d.v.kind, .string d.v.name, .string d.v.to, .int .i64 d.v.place, .slice d.A d.n d.c, .slice d.B d.m d.d] 24
        unfold prV
        go_upto_region 5 with fail
        generalize (m8.alloc (.cells #[.int .i64 c.v.kind, .string c.v.name, .string c.v.to, .int .i64 c.v.place, .slice c.A c.n c.c, .slice c.B c.m c.d] 24)).alloc (.cells #[.int .i64 d.v.kind, .string d.v.name, .string d.v.to, .int .i64 d.v.place, .slice d.A d.n d.c, .slice d.B d.m d.d] 24) = m9 at d0 d1 hl ⊢
        generalize m8.heap.size + 1 = gd at d1 ⊢
        generalize m8.heap.size = gc at d0 ⊢
        replace Bx := Lib.hid (Bx.out.later hl)
        replace By := Lib.hid (By.out.later hl)
        replace Ba := Lib.hid (Ba.out.later hl)
        replace Bb := Lib.hid (Bb.out.later hl)
        replace Ox := Lib.hid (Ox.out.later hl)
        replace Oy := Lib.hid (Oy.out.later hl)
        replace Oa := Lib.hid (Oa.out.later hl)
        replace Ob := Lib.hid (Ob.out.later hl)
        replace Oc := Lib.hid (Oc.out.later hl)
        replace Od := Lib.hid (Od.out.later hl)
        replace L0 := Lib.hid (L0.out.trans hl)
        have Bc := Lib.hid d0; have Bd := Lib.hid d1
        clear d0 d1 hl
        obtain ⟨f10_0, f10_1, f10_2, f10_3, f10_4, f10_5⟩ := BoxAt.all (x := c) Bc.out
        obtain ⟨f11_0, f11_1, f11_2, f11_3, f11_4, f11_5⟩ := BoxAt.all (x := y) By.out
        have HC : Hid (Calls Try.prog 14 #[prV c, prV y] m9 (Says true m9)) := by
          have := refSame_v Oc.out.at Oy.out.at
          rw [Vc.out, H1.out] at this
          exact this
        unfold prV at HC
        go_wp2_with fail
        refine HC.out.mono ?_
        rintro e m12 ⟨rfl, hl⟩
        clear HC
        clear f10_0 f10_1 f10_2 f10_3 f10_4 f10_5 f11_0 f11_1 f11_2 f11_3 f11_4 f11_5
        replace Bx := Lib.hid (Bx.out.later hl)
        replace By := Lib.hid (By.out.later hl)
        replace Ba := Lib.hid (Ba.out.later hl)
        replace Bb := Lib.hid (Bb.out.later hl)
        replace Bc := Lib.hid (Bc.out.later hl)
        replace Bd := Lib.hid (Bd.out.later hl)
        replace Ox := Lib.hid (Ox.out.later hl)
        replace Oy := Lib.hid (Oy.out.later hl)
        replace Oa := Lib.hid (Oa.out.later hl)
        replace Ob := Lib.hid (Ob.out.later hl)
        replace Oc := Lib.hid (Oc.out.later hl)
        replace Od := Lib.hid (Od.out.later hl)
        replace L0 := Lib.hid (L0.out.trans hl)
        clear hl
        obtain ⟨f13_0, f13_1, f13_2, f13_3, f13_4, f13_5⟩ := BoxAt.all (x := d) Bd.out
        obtain ⟨f14_0, f14_1, f14_2, f14_3, f14_4, f14_5⟩ := BoxAt.all (x := x) Bx.out
        have HC : Hid (Calls Try.prog 14 #[prV d, prV x] m12 (Says false m12)) := by
          have := refSame_v Od.out.at Ox.out.at
          rw [Vd.out, H2.out] at this
          exact this
        unfold prV at HC
        go_wp2_with fail
        refine HC.out.mono ?_
        rintro e m15 ⟨rfl, hl⟩
        clear HC
        clear f13_0 f13_1 f13_2 f13_3 f13_4 f13_5 f14_0 f14_1 f14_2 f14_3 f14_4 f14_5
        replace Bx := Lib.hid (Bx.out.later hl)
        replace By := Lib.hid (By.out.later hl)
        replace Ba := Lib.hid (Ba.out.later hl)
        replace Bb := Lib.hid (Bb.out.later hl)
        replace Bc := Lib.hid (Bc.out.later hl)
        replace Bd := Lib.hid (Bd.out.later hl)
        replace Ox := Lib.hid (Ox.out.later hl)
        replace Oy := Lib.hid (Oy.out.later hl)
        replace Oa := Lib.hid (Oa.out.later hl)
        replace Ob := Lib.hid (Ob.out.later hl)
        replace Oc := Lib.hid (Oc.out.later hl)
        replace Od := Lib.hid (Od.out.later hl)
        replace L0 := Lib.hid (L0.out.trans hl)
        clear hl
        have HC : Hid (Calls Try.prog 11 #[] m15 (Says true m15)) := by
          exact aliveS_any m15
        unfold prV at HC
        go_wp2_with fail
        refine HC.out.mono ?_
        rintro e m16 ⟨rfl, hl⟩
        clear HC
        replace Bx := Lib.hid (Bx.out.later hl)
        replace By := Lib.hid (By.out.later hl)
        replace Ba := Lib.hid (Ba.out.later hl)
        replace Bb := Lib.hid (Bb.out.later hl)
        replace Bc := Lib.hid (Bc.out.later hl)
        replace Bd := Lib.hid (Bd.out.later hl)
        replace Ox := Lib.hid (Ox.out.later hl)
        replace Oy := Lib.hid (Oy.out.later hl)
        replace Oa := Lib.hid (Oa.out.later hl)
        replace Ob := Lib.hid (Ob.out.later hl)
        replace Oc := Lib.hid (Oc.out.later hl)
        replace Od := Lib.hid (Od.out.later hl)
        replace L0 := Lib.hid (L0.out.trans hl)
        clear hl
        obtain ⟨f17_0, f17_1, f17_2, f17_3, f17_4, f17_5⟩ := BoxAt.all (x := a) Ba.out
        obtain ⟨f18_0, f18_1, f18_2, f18_3, f18_4, f18_5⟩ := BoxAt.all (x := c) Bc.out
        have HC : Hid (Calls Try.prog 14 #[prV a, prV c] m16 (Says true m16)) := by
          have := refSame_v Oa.out.at Oc.out.at
          rw [Va.out, Vc.out, sameP_self] at this
          exact this
        unfold prV at HC
        go_wp2_with fail
        refine HC.out.mono ?_
        rintro e m19 ⟨rfl, hl⟩
        clear HC
        clear f17_0 f17_1 f17_2 f17_3 f17_4 f17_5 f18_0 f18_1 f18_2 f18_3 f18_4 f18_5
        replace Bx := Lib.hid (Bx.out.later hl)
        replace By := Lib.hid (By.out.later hl)
        replace Ba := Lib.hid (Ba.out.later hl)
        replace Bb := Lib.hid (Bb.out.later hl)
        replace Bc := Lib.hid (Bc.out.later hl)
        replace Bd := Lib.hid (Bd.out.later hl)
        replace Ox := Lib.hid (Ox.out.later hl)
        replace Oy := Lib.hid (Oy.out.later hl)
        replace Oa := Lib.hid (Oa.out.later hl)
        replace Ob := Lib.hid (Ob.out.later hl)
        replace Oc := Lib.hid (Oc.out.later hl)
        replace Od := Lib.hid (Od.out.later hl)
        replace L0 := Lib.hid (L0.out.trans hl)
        clear hl
        obtain ⟨f20_0, f20_1, f20_2, f20_3, f20_4, f20_5⟩ := BoxAt.all (x := b) Bb.out
        obtain ⟨f21_0, f21_1, f21_2, f21_3, f21_4, f21_5⟩ := BoxAt.all (x := d) Bd.out
        have HC : Hid (Calls Try.prog 14 #[prV b, prV d] m19 (Says true m19)) := by
          have := refSame_v Ob.out.at Od.out.at
          rw [Vb.out, Vd.out, sameP_self] at this
          exact this
        unfold prV at HC
        go_wp2_with fail
        refine HC.out.mono ?_
        rintro e m22 ⟨rfl, hl⟩
        clear HC
        clear f20_0 f20_1 f20_2 f20_3 f20_4 f20_5 f21_0 f21_1 f21_2 f21_3 f21_4 f21_5
        replace Bx := Lib.hid (Bx.out.later hl)
        replace By := Lib.hid (By.out.later hl)
        replace Ba := Lib.hid (Ba.out.later hl)
        replace Bb := Lib.hid (Bb.out.later hl)
        replace Bc := Lib.hid (Bc.out.later hl)
        replace Bd := Lib.hid (Bd.out.later hl)
        replace Ox := Lib.hid (Ox.out.later hl)
        replace Oy := Lib.hid (Oy.out.later hl)
        replace Oa := Lib.hid (Oa.out.later hl)
        replace Ob := Lib.hid (Ob.out.later hl)
        replace Oc := Lib.hid (Oc.out.later hl)
        replace Od := Lib.hid (Od.out.later hl)
        replace L0 := Lib.hid (L0.out.trans hl)
        clear hl
        obtain ⟨f23_0, f23_1, f23_2, f23_3, f23_4, f23_5⟩ := BoxAt.all (x := x) Bx.out
        obtain ⟨f24_0, f24_1, f24_2, f24_3, f24_4, f24_5⟩ := BoxAt.all (x := y) By.out
        have HC : Hid (Calls Try.prog 15 #[prV x, prV y] m22 (Says false m22)) := by
          have := apart_any x y _ Ox.out Oy.out
          rw [HAP.out] at this
          exact this
        unfold prV at HC
        go_wp2_with fail
        refine HC.out.mono ?_
        rintro e m25 ⟨rfl, hl⟩
        clear HC
        clear f23_0 f23_1 f23_2 f23_3 f23_4 f23_5 f24_0 f24_1 f24_2 f24_3 f24_4 f24_5
        replace Bx := Lib.hid (Bx.out.later hl)
        replace By := Lib.hid (By.out.later hl)
        replace Ba := Lib.hid (Ba.out.later hl)
        replace Bb := Lib.hid (Bb.out.later hl)
        replace Bc := Lib.hid (Bc.out.later hl)
        replace Bd := Lib.hid (Bd.out.later hl)
        replace Ox := Lib.hid (Ox.out.later hl)
        replace Oy := Lib.hid (Oy.out.later hl)
        replace Oa := Lib.hid (Oa.out.later hl)
        replace Ob := Lib.hid (Ob.out.later hl)
        replace Oc := Lib.hid (Oc.out.later hl)
        replace Od := Lib.hid (Od.out.later hl)
        replace L0 := Lib.hid (L0.out.trans hl)
        clear hl
        obtain ⟨f26_0, f26_1, f26_2, f26_3, f26_4, f26_5⟩ := BoxAt.all (x := x) Bx.out
        obtain ⟨f27_0, f27_1, f27_2, f27_3, f27_4, f27_5⟩ := BoxAt.all (x := y) By.out
        have HC : Hid (Calls Try.prog 16 #[prV x, prV y] m25 (Says false m25)) := by
          have := needs_any x y _ Ox.out Oy.out
          rw [hs, show (!(swapR (some (r1, r2))).2.2) = false from rfl] at this
          exact this
        unfold prV at HC
        go_wp2_with fail
        refine HC.out.mono ?_
        rintro e m28 ⟨rfl, hl⟩
        clear HC
        clear f26_0 f26_1 f26_2 f26_3 f26_4 f26_5 f27_0 f27_1 f27_2 f27_3 f27_4 f27_5
        replace Bx := Lib.hid (Bx.out.later hl)
        replace By := Lib.hid (By.out.later hl)
        replace Ba := Lib.hid (Ba.out.later hl)
        replace Bb := Lib.hid (Bb.out.later hl)
        replace Bc := Lib.hid (Bc.out.later hl)
        replace Bd := Lib.hid (Bd.out.later hl)
        replace Ox := Lib.hid (Ox.out.later hl)
        replace Oy := Lib.hid (Oy.out.later hl)
        replace Oa := Lib.hid (Oa.out.later hl)
        replace Ob := Lib.hid (Ob.out.later hl)
        replace Oc := Lib.hid (Oc.out.later hl)
        replace Od := Lib.hid (Od.out.later hl)
        replace L0 := Lib.hid (L0.out.trans hl)
        clear hl
        go_wp2
        go_ret
        exact ⟨rfl, L0.out⟩
      | true =>
        rw [h1, h2, Bool.and_self] at hap
        have HAP := Lib.hid hap; have H1 := Lib.hid h1; have H2 := Lib.hid h2
        clear hap h1 h2
        go_enter Try.func3, Try.ntmps3
        go_wp2_with fail
        refine HM.out.mono ?_
        generalize ((w.alloc (.cells #[.int .i64 x.v.kind, .string x.v.name, .string x.v.to, .int .i64 x.v.place, .slice x.A x.n x.c, .slice x.B x.m x.d] 24)).alloc (.cells #[.int .i64 y.v.kind, .string y.v.name, .string y.v.to, .int .i64 y.v.place, .slice y.A y.n y.c, .slice y.B y.m y.d] 24)).alloc (.cells #[.int .i64 x.v.kind, .string x.v.name, .string x.v.to, .int .i64 x.v.place, .slice x.A x.n x.c, .slice x.B x.m x.d, .int .i64 y.v.kind, .string y.v.name, .string y.v.to, .int .i64 y.v.place, .slice y.A y.n y.c, .slice y.B y.m y.d] 24) = wb at b0 b1 hl0 ⊢
        generalize w.heap.size + 1 + 1 = gz
        generalize w.heap.size + 1 = gy at b1 ⊢
        generalize w.heap.size = gx at b0 ⊢
        rintro e m1 ⟨rfl, hl⟩
        have Bx := Lib.hid (b0.later hl); have By := Lib.hid (b1.later hl); have L0 := Lib.hid (hl0.trans hl)
        replace Ox := Lib.hid (Ox.out.later L0.out); replace Oy := Lib.hid (Oy.out.later L0.out)
        clear b0 b1 hl0 hl HM
        obtain ⟨f2_0, f2_1, f2_2, f2_3, f2_4, f2_5⟩ := BoxAt.all (x := x) Bx.out
        obtain ⟨f3_0, f3_1, f3_2, f3_3, f3_4, f3_5⟩ := BoxAt.all (x := y) By.out
        have HC : Hid (Calls Try.prog 12 #[prV x, prV y] m1 (GivesT (r1, r2, true) m1)) := by
          have := swap_any x y _ Ox.out Oy.out
          rw [hs, show swapR (some (r1, r2)) = (r1, r2, true) from rfl] at this
          exact this
        unfold prV at HC
        go_wp2_with fail
        refine HC.out.mono ?_
        rintro e m4 ⟨a, b, rfl, ha, hb, oa, ob, hl⟩
        dsimp only at ha hb ⊢
        clear HC
        clear f2_0 f2_1 f2_2 f2_3 f2_4 f2_5 f3_0 f3_1 f3_2 f3_3 f3_4 f3_5
        replace Bx := Lib.hid (Bx.out.later hl)
        replace By := Lib.hid (By.out.later hl)
        replace Ox := Lib.hid (Ox.out.later hl)
        replace Oy := Lib.hid (Oy.out.later hl)
        replace L0 := Lib.hid (L0.out.trans hl)
        have Oa := Lib.hid oa; have Ob := Lib.hid ob; have Va := Lib.hid ha; have Vb := Lib.hid hb
        clear hl oa ob ha hb
        obtain ⟨d0, d1, hl⟩ := two_boxes m4 #[.int .i64 a.v.kind, .string a.v.name, .string a.v.to, .int .i64 a.v.place, .slice a.A a.n a.c, .slice a.B a.m a.d] #[.int .i64 b.v.kind, .string b.v.name, .string b.v.to, .int .i64 b.v.place, .slice b.A b.n b.c, .slice b.B b.m b.d] 27
        unfold prV
        go_upto_region 4 with fail
        generalize (m4.alloc (.cells #[.int .i64 a.v.kind, .string a.v.name, .string a.v.to, .int .i64 a.v.place, .slice a.A a.n a.c, .slice a.B a.m a.d] 27)).alloc (.cells #[.int .i64 b.v.kind, .string b.v.name, .string b.v.to, .int .i64 b.v.place, .slice b.A b.n b.c, .slice b.B b.m b.d] 27) = m5 at d0 d1 hl ⊢
        generalize m4.heap.size + 1 = gb at d1 ⊢
        generalize m4.heap.size = ga at d0 ⊢
        replace Bx := Lib.hid (Bx.out.later hl)
        replace By := Lib.hid (By.out.later hl)
        replace Ox := Lib.hid (Ox.out.later hl)
        replace Oy := Lib.hid (Oy.out.later hl)
        replace Oa := Lib.hid (Oa.out.later hl)
        replace Ob := Lib.hid (Ob.out.later hl)
        replace L0 := Lib.hid (L0.out.trans hl)
        have Ba := Lib.hid d0; have Bb := Lib.hid d1
        clear d0 d1 hl
        obtain ⟨f6_0, f6_1, f6_2, f6_3, f6_4, f6_5⟩ := BoxAt.all (x := x) Bx.out
        obtain ⟨f7_0, f7_1, f7_2, f7_3, f7_4, f7_5⟩ := BoxAt.all (x := y) By.out
        have HC : Hid (Calls Try.prog 13 #[prV x, prV y] m5 (GivesT (r1, r2, true) m5)) := by
          have := refSwap_any x y _ Ox.out Oy.out
          rw [hs, show swapR (some (r1, r2)) = (r1, r2, true) from rfl] at this
          exact this
        unfold prV at HC
        go_wp2_with fail
        refine HC.out.mono ?_
        rintro e m8 ⟨c, d, rfl, hc, hd, oc, od, hl⟩
        dsimp only at hc hd ⊢
        clear HC
        clear f6_0 f6_1 f6_2 f6_3 f6_4 f6_5 f7_0 f7_1 f7_2 f7_3 f7_4 f7_5
        replace Bx := Lib.hid (Bx.out.later hl)
        replace By := Lib.hid (By.out.later hl)
        replace Ba := Lib.hid (Ba.out.later hl)
        replace Bb := Lib.hid (Bb.out.later hl)
        replace Ox := Lib.hid (Ox.out.later hl)
        replace Oy := Lib.hid (Oy.out.later hl)
        replace Oa := Lib.hid (Oa.out.later hl)
        replace Ob := Lib.hid (Ob.out.later hl)
        replace L0 := Lib.hid (L0.out.trans hl)
        have Oc := Lib.hid oc; have Od := Lib.hid od; have Vc := Lib.hid hc; have Vd := Lib.hid hd
        clear hl oc od hc hd
        obtain ⟨d0, d1, hl⟩ := two_boxes m8 #[.int .i64 c.v.kind, .string c.v.name, .string c.v.to, .int .i64 c.v.place, .slice c.A c.n c.c, .slice c.B c.m c.d] #[.int .i64 d.v.kind, .string d.v.name, .string d.v.to, .int .i64 d.v.place, .slice d.A d.n d.c, .slice d.B d.m d.d] 24
        unfold prV
        go_upto_region 5 with fail
        generalize (m8.alloc (.cells #[.int .i64 c.v.kind, .string c.v.name, .string c.v.to, .int .i64 c.v.place, .slice c.A c.n c.c, .slice c.B c.m c.d] 24)).alloc (.cells #[.int .i64 d.v.kind, .string d.v.name, .string d.v.to, .int .i64 d.v.place, .slice d.A d.n d.c, .slice d.B d.m d.d] 24) = m9 at d0 d1 hl ⊢
        generalize m8.heap.size + 1 = gd at d1 ⊢
        generalize m8.heap.size = gc at d0 ⊢
        replace Bx := Lib.hid (Bx.out.later hl)
        replace By := Lib.hid (By.out.later hl)
        replace Ba := Lib.hid (Ba.out.later hl)
        replace Bb := Lib.hid (Bb.out.later hl)
        replace Ox := Lib.hid (Ox.out.later hl)
        replace Oy := Lib.hid (Oy.out.later hl)
        replace Oa := Lib.hid (Oa.out.later hl)
        replace Ob := Lib.hid (Ob.out.later hl)
        replace Oc := Lib.hid (Oc.out.later hl)
        replace Od := Lib.hid (Od.out.later hl)
        replace L0 := Lib.hid (L0.out.trans hl)
        have Bc := Lib.hid d0; have Bd := Lib.hid d1
        clear d0 d1 hl
        obtain ⟨f10_0, f10_1, f10_2, f10_3, f10_4, f10_5⟩ := BoxAt.all (x := c) Bc.out
        obtain ⟨f11_0, f11_1, f11_2, f11_3, f11_4, f11_5⟩ := BoxAt.all (x := y) By.out
        have HC : Hid (Calls Try.prog 14 #[prV c, prV y] m9 (Says true m9)) := by
          have := refSame_v Oc.out.at Oy.out.at
          rw [Vc.out, H1.out] at this
          exact this
        unfold prV at HC
        go_wp2_with fail
        refine HC.out.mono ?_
        rintro e m12 ⟨rfl, hl⟩
        clear HC
        clear f10_0 f10_1 f10_2 f10_3 f10_4 f10_5 f11_0 f11_1 f11_2 f11_3 f11_4 f11_5
        replace Bx := Lib.hid (Bx.out.later hl)
        replace By := Lib.hid (By.out.later hl)
        replace Ba := Lib.hid (Ba.out.later hl)
        replace Bb := Lib.hid (Bb.out.later hl)
        replace Bc := Lib.hid (Bc.out.later hl)
        replace Bd := Lib.hid (Bd.out.later hl)
        replace Ox := Lib.hid (Ox.out.later hl)
        replace Oy := Lib.hid (Oy.out.later hl)
        replace Oa := Lib.hid (Oa.out.later hl)
        replace Ob := Lib.hid (Ob.out.later hl)
        replace Oc := Lib.hid (Oc.out.later hl)
        replace Od := Lib.hid (Od.out.later hl)
        replace L0 := Lib.hid (L0.out.trans hl)
        clear hl
        obtain ⟨f13_0, f13_1, f13_2, f13_3, f13_4, f13_5⟩ := BoxAt.all (x := d) Bd.out
        obtain ⟨f14_0, f14_1, f14_2, f14_3, f14_4, f14_5⟩ := BoxAt.all (x := x) Bx.out
        have HC : Hid (Calls Try.prog 14 #[prV d, prV x] m12 (Says true m12)) := by
          have := refSame_v Od.out.at Ox.out.at
          rw [Vd.out, H2.out] at this
          exact this
        unfold prV at HC
        go_wp2_with fail
        refine HC.out.mono ?_
        rintro e m15 ⟨rfl, hl⟩
        clear HC
        clear f13_0 f13_1 f13_2 f13_3 f13_4 f13_5 f14_0 f14_1 f14_2 f14_3 f14_4 f14_5
        replace Bx := Lib.hid (Bx.out.later hl)
        replace By := Lib.hid (By.out.later hl)
        replace Ba := Lib.hid (Ba.out.later hl)
        replace Bb := Lib.hid (Bb.out.later hl)
        replace Bc := Lib.hid (Bc.out.later hl)
        replace Bd := Lib.hid (Bd.out.later hl)
        replace Ox := Lib.hid (Ox.out.later hl)
        replace Oy := Lib.hid (Oy.out.later hl)
        replace Oa := Lib.hid (Oa.out.later hl)
        replace Ob := Lib.hid (Ob.out.later hl)
        replace Oc := Lib.hid (Oc.out.later hl)
        replace Od := Lib.hid (Od.out.later hl)
        replace L0 := Lib.hid (L0.out.trans hl)
        clear hl
        have HC : Hid (Calls Try.prog 11 #[] m15 (Says true m15)) := by
          exact aliveS_any m15
        unfold prV at HC
        go_wp2_with fail
        refine HC.out.mono ?_
        rintro e m16 ⟨rfl, hl⟩
        clear HC
        replace Bx := Lib.hid (Bx.out.later hl)
        replace By := Lib.hid (By.out.later hl)
        replace Ba := Lib.hid (Ba.out.later hl)
        replace Bb := Lib.hid (Bb.out.later hl)
        replace Bc := Lib.hid (Bc.out.later hl)
        replace Bd := Lib.hid (Bd.out.later hl)
        replace Ox := Lib.hid (Ox.out.later hl)
        replace Oy := Lib.hid (Oy.out.later hl)
        replace Oa := Lib.hid (Oa.out.later hl)
        replace Ob := Lib.hid (Ob.out.later hl)
        replace Oc := Lib.hid (Oc.out.later hl)
        replace Od := Lib.hid (Od.out.later hl)
        replace L0 := Lib.hid (L0.out.trans hl)
        clear hl
        obtain ⟨f17_0, f17_1, f17_2, f17_3, f17_4, f17_5⟩ := BoxAt.all (x := a) Ba.out
        obtain ⟨f18_0, f18_1, f18_2, f18_3, f18_4, f18_5⟩ := BoxAt.all (x := c) Bc.out
        have HC : Hid (Calls Try.prog 14 #[prV a, prV c] m16 (Says true m16)) := by
          have := refSame_v Oa.out.at Oc.out.at
          rw [Va.out, Vc.out, sameP_self] at this
          exact this
        unfold prV at HC
        go_wp2_with fail
        refine HC.out.mono ?_
        rintro e m19 ⟨rfl, hl⟩
        clear HC
        clear f17_0 f17_1 f17_2 f17_3 f17_4 f17_5 f18_0 f18_1 f18_2 f18_3 f18_4 f18_5
        replace Bx := Lib.hid (Bx.out.later hl)
        replace By := Lib.hid (By.out.later hl)
        replace Ba := Lib.hid (Ba.out.later hl)
        replace Bb := Lib.hid (Bb.out.later hl)
        replace Bc := Lib.hid (Bc.out.later hl)
        replace Bd := Lib.hid (Bd.out.later hl)
        replace Ox := Lib.hid (Ox.out.later hl)
        replace Oy := Lib.hid (Oy.out.later hl)
        replace Oa := Lib.hid (Oa.out.later hl)
        replace Ob := Lib.hid (Ob.out.later hl)
        replace Oc := Lib.hid (Oc.out.later hl)
        replace Od := Lib.hid (Od.out.later hl)
        replace L0 := Lib.hid (L0.out.trans hl)
        clear hl
        obtain ⟨f20_0, f20_1, f20_2, f20_3, f20_4, f20_5⟩ := BoxAt.all (x := b) Bb.out
        obtain ⟨f21_0, f21_1, f21_2, f21_3, f21_4, f21_5⟩ := BoxAt.all (x := d) Bd.out
        have HC : Hid (Calls Try.prog 14 #[prV b, prV d] m19 (Says true m19)) := by
          have := refSame_v Ob.out.at Od.out.at
          rw [Vb.out, Vd.out, sameP_self] at this
          exact this
        unfold prV at HC
        go_wp2_with fail
        refine HC.out.mono ?_
        rintro e m22 ⟨rfl, hl⟩
        clear HC
        clear f20_0 f20_1 f20_2 f20_3 f20_4 f20_5 f21_0 f21_1 f21_2 f21_3 f21_4 f21_5
        replace Bx := Lib.hid (Bx.out.later hl)
        replace By := Lib.hid (By.out.later hl)
        replace Ba := Lib.hid (Ba.out.later hl)
        replace Bb := Lib.hid (Bb.out.later hl)
        replace Bc := Lib.hid (Bc.out.later hl)
        replace Bd := Lib.hid (Bd.out.later hl)
        replace Ox := Lib.hid (Ox.out.later hl)
        replace Oy := Lib.hid (Oy.out.later hl)
        replace Oa := Lib.hid (Oa.out.later hl)
        replace Ob := Lib.hid (Ob.out.later hl)
        replace Oc := Lib.hid (Oc.out.later hl)
        replace Od := Lib.hid (Od.out.later hl)
        replace L0 := Lib.hid (L0.out.trans hl)
        clear hl
        obtain ⟨f23_0, f23_1, f23_2, f23_3, f23_4, f23_5⟩ := BoxAt.all (x := x) Bx.out
        obtain ⟨f24_0, f24_1, f24_2, f24_3, f24_4, f24_5⟩ := BoxAt.all (x := y) By.out
        have HC : Hid (Calls Try.prog 15 #[prV x, prV y] m22 (Says true m22)) := by
          have := apart_any x y _ Ox.out Oy.out
          rw [HAP.out] at this
          exact this
        unfold prV at HC
        go_wp2_with fail
        refine HC.out.mono ?_
        rintro e m25 ⟨rfl, hl⟩
        clear HC
        clear f23_0 f23_1 f23_2 f23_3 f23_4 f23_5 f24_0 f24_1 f24_2 f24_3 f24_4 f24_5
        replace Bx := Lib.hid (Bx.out.later hl)
        replace By := Lib.hid (By.out.later hl)
        replace Ba := Lib.hid (Ba.out.later hl)
        replace Bb := Lib.hid (Bb.out.later hl)
        replace Bc := Lib.hid (Bc.out.later hl)
        replace Bd := Lib.hid (Bd.out.later hl)
        replace Ox := Lib.hid (Ox.out.later hl)
        replace Oy := Lib.hid (Oy.out.later hl)
        replace Oa := Lib.hid (Oa.out.later hl)
        replace Ob := Lib.hid (Ob.out.later hl)
        replace Oc := Lib.hid (Oc.out.later hl)
        replace Od := Lib.hid (Od.out.later hl)
        replace L0 := Lib.hid (L0.out.trans hl)
        clear hl
        obtain ⟨f26_0, f26_1, f26_2, f26_3, f26_4, f26_5⟩ := BoxAt.all (x := x) Bx.out
        obtain ⟨f27_0, f27_1, f27_2, f27_3, f27_4, f27_5⟩ := BoxAt.all (x := y) By.out
        have HC : Hid (Calls Try.prog 16 #[prV x, prV y] m25 (Says false m25)) := by
          have := needs_any x y _ Ox.out Oy.out
          rw [hs, show (!(swapR (some (r1, r2))).2.2) = false from rfl] at this
          exact this
        unfold prV at HC
        go_wp2_with fail
        refine HC.out.mono ?_
        rintro e m28 ⟨rfl, hl⟩
        clear HC
        clear f26_0 f26_1 f26_2 f26_3 f26_4 f26_5 f27_0 f27_1 f27_2 f27_3 f27_4 f27_5
        replace Bx := Lib.hid (Bx.out.later hl)
        replace By := Lib.hid (By.out.later hl)
        replace Ba := Lib.hid (Ba.out.later hl)
        replace Bb := Lib.hid (Bb.out.later hl)
        replace Bc := Lib.hid (Bc.out.later hl)
        replace Bd := Lib.hid (Bd.out.later hl)
        replace Ox := Lib.hid (Ox.out.later hl)
        replace Oy := Lib.hid (Oy.out.later hl)
        replace Oa := Lib.hid (Oa.out.later hl)
        replace Ob := Lib.hid (Ob.out.later hl)
        replace Oc := Lib.hid (Oc.out.later hl)
        replace Od := Lib.hid (Od.out.later hl)
        replace L0 := Lib.hid (L0.out.trans hl)
        clear hl
        go_wp2
        go_ret
        exact ⟨rfl, L0.out⟩

end Go.Proofs.Ytalgapoigkbiaaa
