import Derived.Test.YtalgapoigkbiaaaPk10
import Derived.Test.YtalgapoigkbiaaaPk7

/-
  What the law SwapBack comes to, as a call.
-/
namespace Go.Proofs.Ytalgapoigkbiaaa
open Go.RowKit Go.Maps

set_option maxRecDepth 100000 in
set_option maxHeartbeats 3200000 in
theorem swapBack_walk (x y : PrC) (w : World) (hx : CameP w x) (hy : CameP w y) : Calls Try.prog 5 #[prV x, prV y] w (Says true w) := by
  have hw := hx.weigh
  have hw2 := hy.weigh
  obtain ⟨b0, b1, hl0⟩ := two_boxes w #[.int .i64 x.v.kind, .string x.v.name, .string x.v.to, .int .i64 x.v.place, .slice x.A x.n x.c, .slice x.B x.m x.d] #[.int .i64 y.v.kind, .string y.v.name, .string y.v.to, .int .i64 y.v.place, .slice y.A y.n y.c, .slice y.B y.m y.d] 24
  have HM : Hid (Calls Try.prog 10 #[.slice (some ⟨w.heap.size + 1 + 1, 0, none⟩) 2 2] (((w.alloc (.cells #[.int .i64 x.v.kind, .string x.v.name, .string x.v.to, .int .i64 x.v.place, .slice x.A x.n x.c, .slice x.B x.m x.d] 24)).alloc (.cells #[.int .i64 y.v.kind, .string y.v.name, .string y.v.to, .int .i64 y.v.place, .slice y.A y.n y.c, .slice y.B y.m y.d] 24)).alloc (.cells #[.int .i64 x.v.kind, .string x.v.name, .string x.v.to, .int .i64 x.v.place, .slice x.A x.n x.c, .slice x.B x.m x.d, .int .i64 y.v.kind, .string y.v.name, .string y.v.to, .int .i64 y.v.place, .slice y.A y.n y.c, .slice y.B y.m y.d] 24)) (Says (decide (2 + (weightP x.v + weightP y.v) ≤ 5000)) (((w.alloc (.cells #[.int .i64 x.v.kind, .string x.v.name, .string x.v.to, .int .i64 x.v.place, .slice x.A x.n x.c, .slice x.B x.m x.d] 24)).alloc (.cells #[.int .i64 y.v.kind, .string y.v.name, .string y.v.to, .int .i64 y.v.place, .slice y.A y.n y.c, .slice y.B y.m y.d] 24)).alloc (.cells #[.int .i64 x.v.kind, .string x.v.name, .string x.v.to, .int .i64 x.v.place, .slice x.A x.n x.c, .slice x.B x.m x.d, .int .i64 y.v.kind, .string y.v.name, .string y.v.to, .int .i64 y.v.place, .slice y.A y.n y.c, .slice y.B y.m y.d] 24)))) := by
    have := small_any (some ⟨w.heap.size + 1 + 1, 0, none⟩) 2 2 [x, y] (((w.alloc (.cells #[.int .i64 x.v.kind, .string x.v.name, .string x.v.to, .int .i64 x.v.place, .slice x.A x.n x.c, .slice x.B x.m x.d] 24)).alloc (.cells #[.int .i64 y.v.kind, .string y.v.name, .string y.v.to, .int .i64 y.v.place, .slice y.A y.n y.c, .slice y.B y.m y.d] 24)).alloc (.cells #[.int .i64 x.v.kind, .string x.v.name, .string x.v.to, .int .i64 x.v.place, .slice x.A x.n x.c, .slice x.B x.m x.d, .int .i64 y.v.kind, .string y.v.name, .string y.v.to, .int .i64 y.v.place, .slice y.A y.n y.c, .slice y.B y.m y.d] 24)) (by have := prims_two hx hy hl0 24; simpa using this) (by omega) (by rw [weightPs_two]; omega)
    rw [weightPs_two] at this
    exact this
  replace b0 := b0.alloc (.cells #[.int .i64 x.v.kind, .string x.v.name, .string x.v.to, .int .i64 x.v.place, .slice x.A x.n x.c, .slice x.B x.m x.d, .int .i64 y.v.kind, .string y.v.name, .string y.v.to, .int .i64 y.v.place, .slice y.A y.n y.c, .slice y.B y.m y.d] 24)
  replace b1 := b1.alloc (.cells #[.int .i64 x.v.kind, .string x.v.name, .string x.v.to, .int .i64 x.v.place, .slice x.A x.n x.c, .slice x.B x.m x.d, .int .i64 y.v.kind, .string y.v.name, .string y.v.to, .int .i64 y.v.place, .slice y.A y.n y.c, .slice y.B y.m y.d] 24)
  replace hl0 := hl0.alloc (.cells #[.int .i64 x.v.kind, .string x.v.name, .string x.v.to, .int .i64 x.v.place, .slice x.A x.n x.c, .slice x.B x.m x.d, .int .i64 y.v.kind, .string y.v.name, .string y.v.to, .int .i64 y.v.place, .slice y.A y.n y.c, .slice y.B y.m y.d] 24)
  unfold prV
  by_cases hg : 2 + (weightP x.v + weightP y.v) ≤ 5000
  case neg =>
    rw [decide_eq_false hg] at HM
    go_enter Try.func5, Try.ntmps5
    go_wp2_with fail
    refine HM.out.mono ?_
    rintro e m1 ⟨rfl, hl⟩
    have L0 := Lib.hid (hl0.trans hl)
    clear hl hl0 b0 b1 HM
    go_wp2_with fail
    refine (aliveS_any m1).mono ?_
    rintro e m2 ⟨rfl, hl⟩
    replace L0 := Lib.hid (L0.out.trans hl)
    clear hl
    go_wp2
    go_ret
    exact ⟨rfl, L0.out⟩
  rw [decide_eq_true hg] at HM
  have Ox := Lib.hid (hx.ok (by omega))
  have Oy := Lib.hid (hy.ok (by omega))
  cases hs : swapP x.v y.v with
  | none =>
    go_enter Try.func5, Try.ntmps5
    go_wp2_with fail
    refine HM.out.mono ?_
    generalize ((w.alloc (.cells #[.int .i64 x.v.kind, .string x.v.name, .string x.v.to, .int .i64 x.v.place, .slice x.A x.n x.c, .slice x.B x.m x.d] 24)).alloc (.cells #[.int .i64 y.v.kind, .string y.v.name, .string y.v.to, .int .i64 y.v.place, .slice y.A y.n y.c, .slice y.B y.m y.d] 24)).alloc (.cells #[.int .i64 x.v.kind, .string x.v.name, .string x.v.to, .int .i64 x.v.place, .slice x.A x.n x.c, .slice x.B x.m x.d, .int .i64 y.v.kind, .string y.v.name, .string y.v.to, .int .i64 y.v.place, .slice y.A y.n y.c, .slice y.B y.m y.d] 24) = wb at b0 b1 hl0 ⊢
    generalize w.heap.size + 1 + 1 = gz
    generalize w.heap.size + 1 = gy at b1 ⊢
    generalize w.heap.size = gx at b0 ⊢
    rintro e m1 ⟨rfl, hl⟩
    have Bx := Lib.hid (b0.later hl); have By := Lib.hid (b1.later hl); have L0 := Lib.hid (hl0.trans hl)
    replace Ox := Lib.hid (Ox.out.later L0.out); replace Oy := Lib.hid (Oy.out.later L0.out)
    clear b0 b1 hl0 hl HM
    obtain ⟨f2_0, f2_1, f2_2, f2_3, f2_4, f2_5⟩ := BoxAt.all (x := x) Bx.out
    obtain ⟨f3_0, f3_1, f3_2, f3_3, f3_4, f3_5⟩ := BoxAt.all (x := y) By.out
    have HC : Hid (Calls Try.prog 12 #[prV x, prV y] m1 (GivesT noneP m1)) := by
      have := swap_any x y _ Ox.out Oy.out
      rw [hs, show swapR none = noneP from rfl] at this
      exact this
    unfold prV at HC
    go_wp2_with fail
    refine HC.out.mono ?_
    rintro e m4 ⟨a, b, rfl, ha, hb, oa, ob, hl⟩
    dsimp only at ha hb ⊢
    clear HC
    clear f2_0 f2_1 f2_2 f2_3 f2_4 f2_5 f3_0 f3_1 f3_2 f3_3 f3_4 f3_5
    replace Bx := Lib.hid (Bx.out.later hl)
    replace By := Lib.hid (By.out.later hl)
    replace Ox := Lib.hid (Ox.out.later hl)
    replace Oy := Lib.hid (Oy.out.later hl)
    replace L0 := Lib.hid (L0.out.trans hl)
    have Oa := Lib.hid oa; have Ob := Lib.hid ob; have Va := Lib.hid ha; have Vb := Lib.hid hb
    clear hl oa ob ha hb
    obtain ⟨d0, d1, hl⟩ := two_boxes m4 #[.int .i64 a.v.kind, .string a.v.name, .string a.v.to, .int .i64 a.v.place, .slice a.A a.n a.c, .slice a.B a.m a.d] #[.int .i64 b.v.kind, .string b.v.name, .string b.v.to, .int .i64 b.v.place, .slice b.A b.n b.c, .slice b.B b.m b.d] 27
    unfold prV
    go_upto_region 4 with fail
    generalize (m4.alloc (.cells #[.int .i64 a.v.kind, .string a.v.name, .string a.v.to, .int .i64 a.v.place, .slice a.A a.n a.c, .slice a.B a.m a.d] 27)).alloc (.cells #[.int .i64 b.v.kind, .string b.v.name, .string b.v.to, .int .i64 b.v.place, .slice b.A b.n b.c, .slice b.B b.m b.d] 27) = m5 at d0 d1 hl ⊢
    generalize m4.heap.size + 1 = gb at d1 ⊢
    generalize m4.heap.size = ga at d0 ⊢
    replace Bx := Lib.hid (Bx.out.later hl)
    replace By := Lib.hid (By.out.later hl)
    replace Ox := Lib.hid (Ox.out.later hl)
    replace Oy := Lib.hid (Oy.out.later hl)
    replace Oa := Lib.hid (Oa.out.later hl)
    replace Ob := Lib.hid (Ob.out.later hl)
    replace L0 := Lib.hid (L0.out.trans hl)
    have Ba := Lib.hid d0; have Bb := Lib.hid d1
    clear d0 d1 hl
    have HC : Hid (Calls Try.prog 11 #[] m5 (Says true m5)) := by
      exact aliveS_any m5
    unfold prV at HC
    go_wp2_with fail
    refine HC.out.mono ?_
    rintro e m6 ⟨rfl, hl⟩
    clear HC
    replace Bx := Lib.hid (Bx.out.later hl)
    replace By := Lib.hid (By.out.later hl)
    replace Ba := Lib.hid (Ba.out.later hl)
    replace Bb := Lib.hid (Bb.out.later hl)
    replace Ox := Lib.hid (Ox.out.later hl)
    replace Oy := Lib.hid (Oy.out.later hl)
    replace Oa := Lib.hid (Oa.out.later hl)
    replace Ob := Lib.hid (Ob.out.later hl)
    replace L0 := Lib.hid (L0.out.trans hl)
    clear hl
    obtain ⟨f7_0, f7_1, f7_2, f7_3, f7_4, f7_5⟩ := BoxAt.all (x := a) Ba.out
    have HC : Hid (Calls Try.prog 22 #[prV a, prV zeroC] m6 (Says true m6)) := by
      have := primSame_any a zeroC _ Oa.out (zeroC_ok _)
      rw [Va.out, show noneP.1 = zeroC.v from rfl, sameP_self] at this
      exact this
    unfold prV at HC
    go_wp2_with fail
    refine HC.out.mono ?_
    rintro e m8 ⟨rfl, hl⟩
    clear HC
    clear f7_0 f7_1 f7_2 f7_3 f7_4 f7_5
    replace Bx := Lib.hid (Bx.out.later hl)
    replace By := Lib.hid (By.out.later hl)
    replace Ba := Lib.hid (Ba.out.later hl)
    replace Bb := Lib.hid (Bb.out.later hl)
    replace Ox := Lib.hid (Ox.out.later hl)
    replace Oy := Lib.hid (Oy.out.later hl)
    replace Oa := Lib.hid (Oa.out.later hl)
    replace Ob := Lib.hid (Ob.out.later hl)
    replace L0 := Lib.hid (L0.out.trans hl)
    clear hl
    obtain ⟨f9_0, f9_1, f9_2, f9_3, f9_4, f9_5⟩ := BoxAt.all (x := b) Bb.out
    have HC : Hid (Calls Try.prog 22 #[prV b, prV zeroC] m8 (Says true m8)) := by
      have := primSame_any b zeroC _ Ob.out (zeroC_ok _)
      rw [Vb.out, show noneP.2.1 = zeroC.v from rfl, sameP_self] at this
      exact this
    unfold prV at HC
    go_wp2_with fail
    refine HC.out.mono ?_
    rintro e m10 ⟨rfl, hl⟩
    clear HC
    clear f9_0 f9_1 f9_2 f9_3 f9_4 f9_5
    replace Bx := Lib.hid (Bx.out.later hl)
    replace By := Lib.hid (By.out.later hl)
    replace Ba := Lib.hid (Ba.out.later hl)
    replace Bb := Lib.hid (Bb.out.later hl)
    replace Ox := Lib.hid (Ox.out.later hl)
    replace Oy := Lib.hid (Oy.out.later hl)
    replace Oa := Lib.hid (Oa.out.later hl)
    replace Ob := Lib.hid (Ob.out.later hl)
    replace L0 := Lib.hid (L0.out.trans hl)
    clear hl
    go_wp2
    go_ret
    exact ⟨rfl, L0.out⟩
  | some r =>
    obtain ⟨r1, r2⟩ := r
    have hbk := swap_back hs
    go_enter Try.func5, Try.ntmps5
    go_wp2_with fail
    refine HM.out.mono ?_
    generalize ((w.alloc (.cells #[.int .i64 x.v.kind, .string x.v.name, .string x.v.to, .int .i64 x.v.place, .slice x.A x.n x.c, .slice x.B x.m x.d] 24)).alloc (.cells #[.int .i64 y.v.kind, .string y.v.name, .string y.v.to, .int .i64 y.v.place, .slice y.A y.n y.c, .slice y.B y.m y.d] 24)).alloc (.cells #[.int .i64 x.v.kind, .string x.v.name, .string x.v.to, .int .i64 x.v.place, .slice x.A x.n x.c, .slice x.B x.m x.d, .int .i64 y.v.kind, .string y.v.name, .string y.v.to, .int .i64 y.v.place, .slice y.A y.n y.c, .slice y.B y.m y.d] 24) = wb at b0 b1 hl0 ⊢
    generalize w.heap.size + 1 + 1 = gz
    generalize w.heap.size + 1 = gy at b1 ⊢
    generalize w.heap.size = gx at b0 ⊢
    rintro e m1 ⟨rfl, hl⟩
    have Bx := Lib.hid (b0.later hl); have By := Lib.hid (b1.later hl); have L0 := Lib.hid (hl0.trans hl)
    replace Ox := Lib.hid (Ox.out.later L0.out); replace Oy := Lib.hid (Oy.out.later L0.out)
    clear b0 b1 hl0 hl HM
    obtain ⟨f2_0, f2_1, f2_2, f2_3, f2_4, f2_5⟩ := BoxAt.all (x := x) Bx.out
    obtain ⟨f3_0, f3_1, f3_2, f3_3, f3_4, f3_5⟩ := BoxAt.all (x := y) By.out
    have HC : Hid (Calls Try.prog 12 #[prV x, prV y] m1 (GivesT (r1, r2, true) m1)) := by
      have := swap_any x y _ Ox.out Oy.out
      rw [hs, show swapR (some (r1, r2)) = (r1, r2, true) from rfl] at this
      exact this
    unfold prV at HC
    go_wp2_with fail
    refine HC.out.mono ?_
    rintro e m4 ⟨a, b, rfl, ha, hb, oa, ob, hl⟩
    dsimp only at ha hb ⊢
    clear HC
    clear f2_0 f2_1 f2_2 f2_3 f2_4 f2_5 f3_0 f3_1 f3_2 f3_3 f3_4 f3_5
    replace Bx := Lib.hid (Bx.out.later hl)
    replace By := Lib.hid (By.out.later hl)
    replace Ox := Lib.hid (Ox.out.later hl)
    replace Oy := Lib.hid (Oy.out.later hl)
    replace L0 := Lib.hid (L0.out.trans hl)
    have Oa := Lib.hid oa; have Ob := Lib.hid ob; have Va := Lib.hid ha; have Vb := Lib.hid hb
    clear hl oa ob ha hb
    obtain ⟨d0, d1, hl⟩ := two_boxes m4 #[.int .i64 a.v.kind, .string a.v.name, .string a.v.to, .int .i64 a.v.place, .slice a.A a.n a.c, .slice a.B a.m a.d] #[.int .i64 b.v.kind, .string b.v.name, .string b.v.to, .int .i64 b.v.place, .slice b.A b.n b.c, .slice b.B b.m b.d] 27
    unfold prV
    go_upto_region 6 with fail
    generalize (m4.alloc (.cells #[.int .i64 a.v.kind, .string a.v.name, .string a.v.to, .int .i64 a.v.place, .slice a.A a.n a.c, .slice a.B a.m a.d] 27)).alloc (.cells #[.int .i64 b.v.kind, .string b.v.name, .string b.v.to, .int .i64 b.v.place, .slice b.A b.n b.c, .slice b.B b.m b.d] 27) = m5 at d0 d1 hl ⊢
    generalize m4.heap.size + 1 = gb at d1 ⊢
    generalize m4.heap.size = ga at d0 ⊢
    replace Bx := Lib.hid (Bx.out.later hl)
    replace By := Lib.hid (By.out.later hl)
    replace Ox := Lib.hid (Ox.out.later hl)
    replace Oy := Lib.hid (Oy.out.later hl)
    replace Oa := Lib.hid (Oa.out.later hl)
    replace Ob := Lib.hid (Ob.out.later hl)
    replace L0 := Lib.hid (L0.out.trans hl)
    have Ba := Lib.hid d0; have Bb := Lib.hid d1
    clear d0 d1 hl
    obtain ⟨f6_0, f6_1, f6_2, f6_3, f6_4, f6_5⟩ := BoxAt.all (x := a) Ba.out
    obtain ⟨f7_0, f7_1, f7_2, f7_3, f7_4, f7_5⟩ := BoxAt.all (x := b) Bb.out
    have HC : Hid (Calls Try.prog 12 #[prV a, prV b] m5 (GivesT (x.v, y.v, true) m5)) := by
      have := swap_any a b _ Oa.out Ob.out
      rw [Va.out, Vb.out, hbk, show swapR (some (x.v, y.v)) = (x.v, y.v, true) from rfl] at this
      exact this
    unfold prV at HC
    go_wp2_with fail
    refine HC.out.mono ?_
    rintro e m8 ⟨c, d, rfl, hc, hd, oc, od, hl⟩
    dsimp only at hc hd ⊢
    clear HC
    clear f6_0 f6_1 f6_2 f6_3 f6_4 f6_5 f7_0 f7_1 f7_2 f7_3 f7_4 f7_5
    replace Bx := Lib.hid (Bx.out.later hl)
    replace By := Lib.hid (By.out.later hl)
    replace Ba := Lib.hid (Ba.out.later hl)
    replace Bb := Lib.hid (Bb.out.later hl)
    replace Ox := Lib.hid (Ox.out.later hl)
    replace Oy := Lib.hid (Oy.out.later hl)
    replace Oa := Lib.hid (Oa.out.later hl)
    replace Ob := Lib.hid (Ob.out.later hl)
    replace L0 := Lib.hid (L0.out.trans hl)
    have Oc := Lib.hid oc; have Od := Lib.hid od; have Vc := Lib.hid hc; have Vd := Lib.hid hd
    clear hl oc od hc hd
    obtain ⟨d0, d1, hl⟩ := two_boxes m8 #[.int .i64 c.v.kind, .string c.v.name, .string c.v.to, .int .i64 c.v.place, .slice c.A c.n c.c, .slice c.B c.m c.d] #[.int .i64 d.v.kind, .string d.v.name, .string d.v.to, .int .i64 d.v.place, .slice d.A d.n d.c, .slice d.B d.m d.d] 27
    unfold prV
    go_upto_region 7 with fail
    generalize (m8.alloc (.cells #[.int .i64 c.v.kind, .string c.v.name, .string c.v.to, .int .i64 c.v.place, .slice c.A c.n c.c, .slice c.B c.m c.d] 27)).alloc (.cells #[.int .i64 d.v.kind, .string d.v.name, .string d.v.to, .int .i64 d.v.place, .slice d.A d.n d.c, .slice d.B d.m d.d] 27) = m9 at d0 d1 hl ⊢
    generalize m8.heap.size + 1 = gd at d1 ⊢
    generalize m8.heap.size = gc at d0 ⊢
    replace Bx := Lib.hid (Bx.out.later hl)
    replace By := Lib.hid (By.out.later hl)
    replace Ba := Lib.hid (Ba.out.later hl)
    replace Bb := Lib.hid (Bb.out.later hl)
    replace Ox := Lib.hid (Ox.out.later hl)
    replace Oy := Lib.hid (Oy.out.later hl)
    replace Oa := Lib.hid (Oa.out.later hl)
    replace Ob := Lib.hid (Ob.out.later hl)
    replace Oc := Lib.hid (Oc.out.later hl)
    replace Od := Lib.hid (Od.out.later hl)
    replace L0 := Lib.hid (L0.out.trans hl)
    have Bc := Lib.hid d0; have Bd := Lib.hid d1
    clear d0 d1 hl
    have HC : Hid (Calls Try.prog 11 #[] m9 (Says true m9)) := by
      exact aliveS_any m9
    unfold prV at HC
    go_wp2_with fail
    refine HC.out.mono ?_
    rintro e m10 ⟨rfl, hl⟩
    clear HC
    replace Bx := Lib.hid (Bx.out.later hl)
    replace By := Lib.hid (By.out.later hl)
    replace Ba := Lib.hid (Ba.out.later hl)
    replace Bb := Lib.hid (Bb.out.later hl)
    replace Bc := Lib.hid (Bc.out.later hl)
    replace Bd := Lib.hid (Bd.out.later hl)
    replace Ox := Lib.hid (Ox.out.later hl)
    replace Oy := Lib.hid (Oy.out.later hl)
    replace Oa := Lib.hid (Oa.out.later hl)
    replace Ob := Lib.hid (Ob.out.later hl)
    replace Oc := Lib.hid (Oc.out.later hl)
    replace Od := Lib.hid (Od.out.later hl)
    replace L0 := Lib.hid (L0.out.trans hl)
    clear hl
    obtain ⟨f11_0, f11_1, f11_2, f11_3, f11_4, f11_5⟩ := BoxAt.all (x := c) Bc.out
    obtain ⟨f12_0, f12_1, f12_2, f12_3, f12_4, f12_5⟩ := BoxAt.all (x := x) Bx.out
    have HC : Hid (Calls Try.prog 14 #[prV c, prV x] m10 (Says true m10)) := by
      have := refSame_v Oc.out.at Ox.out.at
      rw [Vc.out, sameP_self] at this
      exact this
    unfold prV at HC
    go_wp2_with fail
    refine HC.out.mono ?_
    rintro e m13 ⟨rfl, hl⟩
    clear HC
    clear f11_0 f11_1 f11_2 f11_3 f11_4 f11_5 f12_0 f12_1 f12_2 f12_3 f12_4 f12_5
    replace Bx := Lib.hid (Bx.out.later hl)
    replace By := Lib.hid (By.out.later hl)
    replace Ba := Lib.hid (Ba.out.later hl)
    replace Bb := Lib.hid (Bb.out.later hl)
    replace Bc := Lib.hid (Bc.out.later hl)
    replace Bd := Lib.hid (Bd.out.later hl)
    replace Ox := Lib.hid (Ox.out.later hl)
    replace Oy := Lib.hid (Oy.out.later hl)
    replace Oa := Lib.hid (Oa.out.later hl)
    replace Ob := Lib.hid (Ob.out.later hl)
    replace Oc := Lib.hid (Oc.out.later hl)
    replace Od := Lib.hid (Od.out.later hl)
    replace L0 := Lib.hid (L0.out.trans hl)
    clear hl
    obtain ⟨f14_0, f14_1, f14_2, f14_3, f14_4, f14_5⟩ := BoxAt.all (x := d) Bd.out
    obtain ⟨f15_0, f15_1, f15_2, f15_3, f15_4, f15_5⟩ := BoxAt.all (x := y) By.out
    have HC : Hid (Calls Try.prog 14 #[prV d, prV y] m13 (Says true m13)) := by
      have := refSame_v Od.out.at Oy.out.at
      rw [Vd.out, sameP_self] at this
      exact this
    unfold prV at HC
    go_wp2_with fail
    refine HC.out.mono ?_
    rintro e m16 ⟨rfl, hl⟩
    clear HC
    clear f14_0 f14_1 f14_2 f14_3 f14_4 f14_5 f15_0 f15_1 f15_2 f15_3 f15_4 f15_5
    replace Bx := Lib.hid (Bx.out.later hl)
    replace By := Lib.hid (By.out.later hl)
    replace Ba := Lib.hid (Ba.out.later hl)
    replace Bb := Lib.hid (Bb.out.later hl)
    replace Bc := Lib.hid (Bc.out.later hl)
    replace Bd := Lib.hid (Bd.out.later hl)
    replace Ox := Lib.hid (Ox.out.later hl)
    replace Oy := Lib.hid (Oy.out.later hl)
    replace Oa := Lib.hid (Oa.out.later hl)
    replace Ob := Lib.hid (Ob.out.later hl)
    replace Oc := Lib.hid (Oc.out.later hl)
    replace Od := Lib.hid (Od.out.later hl)
    replace L0 := Lib.hid (L0.out.trans hl)
    clear hl
    go_wp2
    go_ret
    exact ⟨rfl, L0.out⟩

end Go.Proofs.Ytalgapoigkbiaaa
