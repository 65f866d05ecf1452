import Derived.Test.YtalgapoigkbiaaaPk10
import Derived.Test.YtalgapoigkbiaaaPk7

/-
  What the law SwapKeeps comes to, as a call.
-/
namespace Go.Proofs.Ytalgapoigkbiaaa
open Go.RowKit Go.Maps

theorem two_boxes' (w : World) (a b : Array Value) (t s : TypeId) : BoxAt ((w.alloc (.cells a t)).alloc (.cells b s)) w.heap.size a t ∧ BoxAt ((w.alloc (.cells a t)).alloc (.cells b s)) (w.heap.size + 1) b s ∧ Later w ((w.alloc (.cells a t)).alloc (.cells b s)) := by
  refine ⟨(BoxAt.made w a t).alloc _, ?_, ((Later.refl w).alloc _).alloc _⟩
  have := BoxAt.made (w.alloc (.cells a t)) b s
  simpa using this

set_option maxRecDepth 100000 in
set_option maxHeartbeats 800000 in
theorem keepsFn_any (a y : PrC) (w : World) (ha : PrOk w a) (hy : PrOk w y) (h1 : a.v.kind = y.v.kind) (h2 : a.n = y.n) (h3 : a.m = y.m) (h4 : a.v.kind ≠ 0 → a.v = y.v) :
    Calls Try.prog 25 #[prV a, prV y] w (Says true w) := by
  have hl : Later w ((w.alloc (.cells #[.int .i64 a.v.kind, .string a.v.name, .string a.v.to, .int .i64 a.v.place, .slice a.A a.n a.c, .slice a.B a.m a.d] 27)).alloc (.cells #[.int .i64 y.v.kind, .string y.v.name, .string y.v.to, .int .i64 y.v.place, .slice y.A y.n y.c, .slice y.B y.m y.d] 24)) := ((Later.refl w).alloc _).alloc _
  have d1 : (a.v.kind == y.v.kind) = true := by rw [beq_iff_eq]; exact h1
  have d2 : ((a.n : Int) == (y.n : Int)) = true := by rw [beq_iff_eq, h2]
  have d3 : ((a.m : Int) == (y.m : Int)) = true := by rw [beq_iff_eq, h3]
  by_cases k0 : a.v.kind = 0
  · have d4 : (a.v.kind == 0) = true := by rw [beq_iff_eq]; exact k0
    have HL := Lib.hid hl
    clear h1 h2 h3 h4 k0 ha hy hl
    unfold prV
    go_enter Try.func25, Try.ntmps25
    go_wp2
    go_ret
    exact ⟨rfl, HL.out⟩
  · have d4 : (a.v.kind == 0) = false := by rw [beq_eq_false_iff_ne]; exact k0
    have HS := refSame_v (ha.later hl).at (hy.later hl).at
    rw [show sameP a.v y.v = true from by rw [h4 k0]; exact sameP_self _] at HS
    have HC := Lib.hid HS
    have HL := Lib.hid hl
    clear h1 h2 h3 h4 k0 ha hy hl HS
    unfold prV at HC ⊢
    go_enter Try.func25, Try.ntmps25
    go_wp2_with fail
    refine HC.out.mono ?_
    rintro e w1 ⟨rfl, hl1⟩
    have HL1 := Lib.hid (HL.out.trans hl1)
    clear hl1
    go_wp2
    go_ret
    exact ⟨rfl, HL1.out⟩

set_option maxRecDepth 100000 in
set_option maxHeartbeats 3200000 in
theorem swapKeeps_walk (x y : PrC) (w : World) (hx : CameP w x) (hy : CameP w y) : Calls Try.prog 9 #[prV x, prV y] w (Says true w) := by
  have hw := hx.weigh
  have hw2 := hy.weigh
  obtain ⟨b0, b1, hl0⟩ := two_boxes w #[.int .i64 x.v.kind, .string x.v.name, .string x.v.to, .int .i64 x.v.place, .slice x.A x.n x.c, .slice x.B x.m x.d] #[.int .i64 y.v.kind, .string y.v.name, .string y.v.to, .int .i64 y.v.place, .slice y.A y.n y.c, .slice y.B y.m y.d] 24
  have HM : Hid (Calls Try.prog 10 #[.slice (some ⟨w.heap.size + 1 + 1, 0, none⟩) 2 2] (((w.alloc (.cells #[.int .i64 x.v.kind, .string x.v.name, .string x.v.to, .int .i64 x.v.place, .slice x.A x.n x.c, .slice x.B x.m x.d] 24)).alloc (.cells #[.int .i64 y.v.kind, .string y.v.name, .string y.v.to, .int .i64 y.v.place, .slice y.A y.n y.c, .slice y.B y.m y.d] 24)).alloc (.cells #[.int .i64 x.v.kind, .string x.v.name, .string x.v.to, .int .i64 x.v.place, .slice x.A x.n x.c, .slice x.B x.m x.d, .int .i64 y.v.kind, .string y.v.name, .string y.v.to, .int .i64 y.v.place, .slice y.A y.n y.c, .slice y.B y.m y.d] 24)) (Says (decide (2 + (weightP x.v + weightP y.v) ≤ 5000)) (((w.alloc (.cells #[.int .i64 x.v.kind, .string x.v.name, .string x.v.to, .int .i64 x.v.place, .slice x.A x.n x.c, .slice x.B x.m x.d] 24)).alloc (.cells #[.int .i64 y.v.kind, .string y.v.name, .string y.v.to, .int .i64 y.v.place, .slice y.A y.n y.c, .slice y.B y.m y.d] 24)).alloc (.cells #[.int .i64 x.v.kind, .string x.v.name, .string x.v.to, .int .i64 x.v.place, .slice x.A x.n x.c, .slice x.B x.m x.d, .int .i64 y.v.kind, .string y.v.name, .string y.v.to, .int .i64 y.v.place, .slice y.A y.n y.c, .slice y.B y.m y.d] 24)))) := by
    have := small_any (some ⟨w.heap.size + 1 + 1, 0, none⟩) 2 2 [x, y] (((w.alloc (.cells #[.int .i64 x.v.kind, .string x.v.name, .string x.v.to, .int .i64 x.v.place, .slice x.A x.n x.c, .slice x.B x.m x.d] 24)).alloc (.cells #[.int .i64 y.v.kind, .string y.v.name, .string y.v.to, .int .i64 y.v.place, .slice y.A y.n y.c, .slice y.B y.m y.d] 24)).alloc (.cells #[.int .i64 x.v.kind, .string x.v.name, .string x.v.to, .int .i64 x.v.place, .slice x.A x.n x.c, .slice x.B x.m x.d, .int .i64 y.v.kind, .string y.v.name, .string y.v.to, .int .i64 y.v.place, .slice y.A y.n y.c, .slice y.B y.m y.d] 24)) (by have := prims_two hx hy hl0 24; simpa using this) (by omega) (by rw [weightPs_two]; omega)
    rw [weightPs_two] at this
    exact this
  replace b0 := b0.alloc (.cells #[.int .i64 x.v.kind, .string x.v.name, .string x.v.to, .int .i64 x.v.place, .slice x.A x.n x.c, .slice x.B x.m x.d, .int .i64 y.v.kind, .string y.v.name, .string y.v.to, .int .i64 y.v.place, .slice y.A y.n y.c, .slice y.B y.m y.d] 24)
  replace b1 := b1.alloc (.cells #[.int .i64 x.v.kind, .string x.v.name, .string x.v.to, .int .i64 x.v.place, .slice x.A x.n x.c, .slice x.B x.m x.d, .int .i64 y.v.kind, .string y.v.name, .string y.v.to, .int .i64 y.v.place, .slice y.A y.n y.c, .slice y.B y.m y.d] 24)
  replace hl0 := hl0.alloc (.cells #[.int .i64 x.v.kind, .string x.v.name, .string x.v.to, .int .i64 x.v.place, .slice x.A x.n x.c, .slice x.B x.m x.d, .int .i64 y.v.kind, .string y.v.name, .string y.v.to, .int .i64 y.v.place, .slice y.A y.n y.c, .slice y.B y.m y.d] 24)
  unfold prV
  by_cases hg : 2 + (weightP x.v + weightP y.v) ≤ 5000
  case neg =>
    rw [decide_eq_false hg] at HM
    go_enter Try.func9, Try.ntmps9
    go_wp2_with fail
    refine HM.out.mono ?_
    rintro e m1 ⟨rfl, hl⟩
    have L0 := Lib.hid (hl0.trans hl)
    clear hl hl0 b0 b1 HM
    go_wp2_with fail
    refine (aliveS_any m1).mono ?_
    rintro e m2 ⟨rfl, hl⟩
    replace L0 := Lib.hid (L0.out.trans hl)
    clear hl
    go_wp2
    go_ret
    exact ⟨rfl, L0.out⟩
  rw [decide_eq_true hg] at HM
  have Ox := Lib.hid (hx.ok (by omega))
  have Oy := Lib.hid (hy.ok (by omega))
  cases hs : swapP x.v y.v with
  | none =>
    go_enter Try.func9, Try.ntmps9
    go_wp2_with fail
    refine HM.out.mono ?_
    generalize ((w.alloc (.cells #[.int .i64 x.v.kind, .string x.v.name, .string x.v.to, .int .i64 x.v.place, .slice x.A x.n x.c, .slice x.B x.m x.d] 24)).alloc (.cells #[.int .i64 y.v.kind, .string y.v.name, .string y.v.to, .int .i64 y.v.place, .slice y.A y.n y.c, .slice y.B y.m y.d] 24)).alloc (.cells #[.int .i64 x.v.kind, .string x.v.name, .string x.v.to, .int .i64 x.v.place, .slice x.A x.n x.c, .slice x.B x.m x.d, .int .i64 y.v.kind, .string y.v.name, .string y.v.to, .int .i64 y.v.place, .slice y.A y.n y.c, .slice y.B y.m y.d] 24) = wb at b0 b1 hl0 ⊢
    generalize w.heap.size + 1 + 1 = gz
    generalize w.heap.size + 1 = gy at b1 ⊢
    generalize w.heap.size = gx at b0 ⊢
    rintro e m1 ⟨rfl, hl⟩
    have Bx := Lib.hid (b0.later hl); have By := Lib.hid (b1.later hl); have L0 := Lib.hid (hl0.trans hl)
    replace Ox := Lib.hid (Ox.out.later L0.out); replace Oy := Lib.hid (Oy.out.later L0.out)
    clear b0 b1 hl0 hl HM
    obtain ⟨f2_0, f2_1, f2_2, f2_3, f2_4, f2_5⟩ := BoxAt.all (x := x) Bx.out
    obtain ⟨f3_0, f3_1, f3_2, f3_3, f3_4, f3_5⟩ := BoxAt.all (x := y) By.out
    have HC : Hid (Calls Try.prog 12 #[prV x, prV y] m1 (GivesT noneP m1)) := by
      have := swap_any x y _ Ox.out Oy.out
      rw [hs, show swapR none = noneP from rfl] at this
      exact this
    unfold prV at HC
    go_wp2_with fail
    refine HC.out.mono ?_
    rintro e m4 ⟨a, b, rfl, ha, hb, oa, ob, hl⟩
    dsimp only at ha hb ⊢
    clear HC
    clear f2_0 f2_1 f2_2 f2_3 f2_4 f2_5 f3_0 f3_1 f3_2 f3_3 f3_4 f3_5
    replace Bx := Lib.hid (Bx.out.later hl)
    replace By := Lib.hid (By.out.later hl)
    replace Ox := Lib.hid (Ox.out.later hl)
    replace Oy := Lib.hid (Oy.out.later hl)
    replace L0 := Lib.hid (L0.out.trans hl)
    have Oa := Lib.hid oa; have Ob := Lib.hid ob; have Va := Lib.hid ha; have Vb := Lib.hid hb
    clear hl oa ob ha hb
    obtain ⟨d0, d1, hl⟩ := two_boxes m4 #[.int .i64 a.v.kind, .string a.v.name, .string a.v.to, .int .i64 a.v.place, .slice a.A a.n a.c, .slice a.B a.m a.d] #[.int .i64 b.v.kind, .string b.v.name, .string b.v.to, .int .i64 b.v.place, .slice b.A b.n b.c, .slice b.B b.m b.d] 27
    unfold prV
    go_upto_region 5 with fail
    generalize (m4.alloc (.cells #[.int .i64 a.v.kind, .string a.v.name, .string a.v.to, .int .i64 a.v.place, .slice a.A a.n a.c, .slice a.B a.m a.d] 27)).alloc (.cells #[.int .i64 b.v.kind, .string b.v.name, .string b.v.to, .int .i64 b.v.place, .slice b.A b.n b.c, .slice b.B b.m b.d] 27) = m5 at d0 d1 hl ⊢
    generalize m4.heap.size + 1 = gb at d1 ⊢
    generalize m4.heap.size = ga at d0 ⊢
    replace Bx := Lib.hid (Bx.out.later hl)
    replace By := Lib.hid (By.out.later hl)
    replace Ox := Lib.hid (Ox.out.later hl)
    replace Oy := Lib.hid (Oy.out.later hl)
    replace Oa := Lib.hid (Oa.out.later hl)
    replace Ob := Lib.hid (Ob.out.later hl)
    replace L0 := Lib.hid (L0.out.trans hl)
    have Ba := Lib.hid d0; have Bb := Lib.hid d1
    clear d0 d1 hl
    have HC : Hid (Calls Try.prog 11 #[] m5 (Says true m5)) := by
      exact aliveS_any m5
    unfold prV at HC
    go_wp2_with fail
    refine HC.out.mono ?_
    rintro e m6 ⟨rfl, hl⟩
    clear HC
    replace Bx := Lib.hid (Bx.out.later hl)
    replace By := Lib.hid (By.out.later hl)
    replace Ba := Lib.hid (Ba.out.later hl)
    replace Bb := Lib.hid (Bb.out.later hl)
    replace Ox := Lib.hid (Ox.out.later hl)
    replace Oy := Lib.hid (Oy.out.later hl)
    replace Oa := Lib.hid (Oa.out.later hl)
    replace Ob := Lib.hid (Ob.out.later hl)
    replace L0 := Lib.hid (L0.out.trans hl)
    clear hl
    go_wp2
    go_ret
    exact ⟨rfl, L0.out⟩
  | some r =>
    obtain ⟨r1, r2⟩ := r
    have hkp := swap_keeps hs
    have hrt := swap_right hs
    have eg : ∀ (args : Array Value) (w : World), (callFunc 25 args).run Try.prog w = .ok (.enter 25 args) w := enters_of Try.func25 (by kernel_rfl) rfl
    have HKP := Lib.hid hkp; have HRT := Lib.hid hrt
    clear hkp hrt
    go_enter Try.func9, Try.ntmps9
    go_wp2_with fail
    refine HM.out.mono ?_
    generalize ((w.alloc (.cells #[.int .i64 x.v.kind, .string x.v.name, .string x.v.to, .int .i64 x.v.place, .slice x.A x.n x.c, .slice x.B x.m x.d] 24)).alloc (.cells #[.int .i64 y.v.kind, .string y.v.name, .string y.v.to, .int .i64 y.v.place, .slice y.A y.n y.c, .slice y.B y.m y.d] 24)).alloc (.cells #[.int .i64 x.v.kind, .string x.v.name, .string x.v.to, .int .i64 x.v.place, .slice x.A x.n x.c, .slice x.B x.m x.d, .int .i64 y.v.kind, .string y.v.name, .string y.v.to, .int .i64 y.v.place, .slice y.A y.n y.c, .slice y.B y.m y.d] 24) = wb at b0 b1 hl0 ⊢
    generalize w.heap.size + 1 + 1 = gz
    generalize w.heap.size + 1 = gy at b1 ⊢
    generalize w.heap.size = gx at b0 ⊢
    rintro e m1 ⟨rfl, hl⟩
    have Bx := Lib.hid (b0.later hl); have By := Lib.hid (b1.later hl); have L0 := Lib.hid (hl0.trans hl)
    replace Ox := Lib.hid (Ox.out.later L0.out); replace Oy := Lib.hid (Oy.out.later L0.out)
    clear b0 b1 hl0 hl HM
    obtain ⟨f2_0, f2_1, f2_2, f2_3, f2_4, f2_5⟩ := BoxAt.all (x := x) Bx.out
    obtain ⟨f3_0, f3_1, f3_2, f3_3, f3_4, f3_5⟩ := BoxAt.all (x := y) By.out
    have HC : Hid (Calls Try.prog 12 #[prV x, prV y] m1 (GivesT (r1, r2, true) m1)) := by
      have := swap_any x y _ Ox.out Oy.out
      rw [hs, show swapR (some (r1, r2)) = (r1, r2, true) from rfl] at this
      exact this
    unfold prV at HC
    go_wp2_with fail
    refine HC.out.mono ?_
    rintro e m4 ⟨a, b, rfl, ha, hb, oa, ob, hl⟩
    dsimp only at ha hb ⊢
    clear HC
    clear f2_0 f2_1 f2_2 f2_3 f2_4 f2_5 f3_0 f3_1 f3_2 f3_3 f3_4 f3_5
    replace Bx := Lib.hid (Bx.out.later hl)
    replace By := Lib.hid (By.out.later hl)
    replace Ox := Lib.hid (Ox.out.later hl)
    replace Oy := Lib.hid (Oy.out.later hl)
    replace L0 := Lib.hid (L0.out.trans hl)
    have Oa := Lib.hid oa; have Ob := Lib.hid ob; have Va := Lib.hid ha; have Vb := Lib.hid hb
    clear hl oa ob ha hb
    obtain ⟨d0, d1, hl⟩ := two_boxes m4 #[.int .i64 a.v.kind, .string a.v.name, .string a.v.to, .int .i64 a.v.place, .slice a.A a.n a.c, .slice a.B a.m a.d] #[.int .i64 b.v.kind, .string b.v.name, .string b.v.to, .int .i64 b.v.place, .slice b.A b.n b.c, .slice b.B b.m b.d] 27
    unfold prV
    go_upto_region 7 with fail
    generalize (m4.alloc (.cells #[.int .i64 a.v.kind, .string a.v.name, .string a.v.to, .int .i64 a.v.place, .slice a.A a.n a.c, .slice a.B a.m a.d] 27)).alloc (.cells #[.int .i64 b.v.kind, .string b.v.name, .string b.v.to, .int .i64 b.v.place, .slice b.A b.n b.c, .slice b.B b.m b.d] 27) = m5 at d0 d1 hl ⊢
    generalize m4.heap.size + 1 = gb at d1 ⊢
    generalize m4.heap.size = ga at d0 ⊢
    replace Bx := Lib.hid (Bx.out.later hl)
    replace By := Lib.hid (By.out.later hl)
    replace Ox := Lib.hid (Ox.out.later hl)
    replace Oy := Lib.hid (Oy.out.later hl)
    replace Oa := Lib.hid (Oa.out.later hl)
    replace Ob := Lib.hid (Ob.out.later hl)
    replace L0 := Lib.hid (L0.out.trans hl)
    have Ba := Lib.hid d0; have Bb := Lib.hid d1
    clear d0 d1 hl
    have HC : Hid (Calls Try.prog 11 #[] m5 (Says true m5)) := by
      exact aliveS_any m5
    unfold prV at HC
    go_wp2_with fail
    refine HC.out.mono ?_
    rintro e m6 ⟨rfl, hl⟩
    clear HC
    replace Bx := Lib.hid (Bx.out.later hl)
    replace By := Lib.hid (By.out.later hl)
    replace Ba := Lib.hid (Ba.out.later hl)
    replace Bb := Lib.hid (Bb.out.later hl)
    replace Ox := Lib.hid (Ox.out.later hl)
    replace Oy := Lib.hid (Oy.out.later hl)
    replace Oa := Lib.hid (Oa.out.later hl)
    replace Ob := Lib.hid (Ob.out.later hl)
    replace L0 := Lib.hid (L0.out.trans hl)
    clear hl
    obtain ⟨f7_0, f7_1, f7_2, f7_3, f7_4, f7_5⟩ := BoxAt.all (x := a) Ba.out
    obtain ⟨f8_0, f8_1, f8_2, f8_3, f8_4, f8_5⟩ := BoxAt.all (x := y) By.out
    have HC : Hid (Calls Try.prog 25 #[prV a, prV y] m6 (Says true m6)) := by
      have l1 := Oa.out.old.len; have l2 := Oy.out.old.len; have l3 := Oa.out.new.len; have l4 := Oy.out.new.len
      rw [Va.out] at l1 l3
      exact keepsFn_any a y _ Oa.out Oy.out (by rw [Va.out]; exact HKP.out.1) (by rw [← l1, ← l2, HKP.out.2.1]) (by rw [← l3, ← l4, HKP.out.2.2.1]) (fun h => by rw [Va.out] at h ⊢; exact HKP.out.2.2.2.1 (by rw [← HKP.out.1]; exact h))
    unfold prV at HC
    go_wp2_with fail
    go_at_fn 25
    refine HC.out.mono ?_
    rintro e m9 ⟨rfl, hl⟩
    clear HC
    clear f7_0 f7_1 f7_2 f7_3 f7_4 f7_5 f8_0 f8_1 f8_2 f8_3 f8_4 f8_5
    replace Bx := Lib.hid (Bx.out.later hl)
    replace By := Lib.hid (By.out.later hl)
    replace Ba := Lib.hid (Ba.out.later hl)
    replace Bb := Lib.hid (Bb.out.later hl)
    replace Ox := Lib.hid (Ox.out.later hl)
    replace Oy := Lib.hid (Oy.out.later hl)
    replace Oa := Lib.hid (Oa.out.later hl)
    replace Ob := Lib.hid (Ob.out.later hl)
    replace L0 := Lib.hid (L0.out.trans hl)
    clear hl
    obtain ⟨f10_0, f10_1, f10_2, f10_3, f10_4, f10_5⟩ := BoxAt.all (x := b) Bb.out
    obtain ⟨f11_0, f11_1, f11_2, f11_3, f11_4, f11_5⟩ := BoxAt.all (x := x) Bx.out
    have HC : Hid (Calls Try.prog 25 #[prV b, prV x] m9 (Says true m9)) := by
      have l1 := Ob.out.old.len; have l2 := Ox.out.old.len; have l3 := Ob.out.new.len; have l4 := Ox.out.new.len
      rw [Vb.out] at l1 l3
      exact keepsFn_any b x _ Ob.out Ox.out (by rw [Vb.out]; exact HKP.out.2.2.2.2.1) (by rw [← l1, ← l2, HKP.out.2.2.2.2.2.1]) (by rw [← l3, ← l4, HKP.out.2.2.2.2.2.2.1]) (fun h => by rw [Vb.out] at h ⊢; exact HKP.out.2.2.2.2.2.2.2 (by rw [← HKP.out.2.2.2.2.1]; exact h))
    unfold prV at HC
    go_wp2_with fail
    go_at_fn 25
    refine HC.out.mono ?_
    rintro e m12 ⟨rfl, hl⟩
    clear HC
    clear f10_0 f10_1 f10_2 f10_3 f10_4 f10_5 f11_0 f11_1 f11_2 f11_3 f11_4 f11_5
    replace Bx := Lib.hid (Bx.out.later hl)
    replace By := Lib.hid (By.out.later hl)
    replace Ba := Lib.hid (Ba.out.later hl)
    replace Bb := Lib.hid (Bb.out.later hl)
    replace Ox := Lib.hid (Ox.out.later hl)
    replace Oy := Lib.hid (Oy.out.later hl)
    replace Oa := Lib.hid (Oa.out.later hl)
    replace Ob := Lib.hid (Ob.out.later hl)
    replace L0 := Lib.hid (L0.out.trans hl)
    clear hl
    obtain ⟨f13_0, f13_1, f13_2, f13_3, f13_4, f13_5⟩ := BoxAt.all (x := a) Ba.out
    have HC : Hid (Calls Try.prog 26 #[prV a] m12 (Says true m12)) := by
      have := primRight_any a _ Oa.out
      rw [Va.out, HRT.out.2.2.1] at this
      exact this
    unfold prV at HC
    go_wp2_with fail
    refine HC.out.mono ?_
    rintro e m14 ⟨rfl, hl⟩
    clear HC
    clear f13_0 f13_1 f13_2 f13_3 f13_4 f13_5
    replace Bx := Lib.hid (Bx.out.later hl)
    replace By := Lib.hid (By.out.later hl)
    replace Ba := Lib.hid (Ba.out.later hl)
    replace Bb := Lib.hid (Bb.out.later hl)
    replace Ox := Lib.hid (Ox.out.later hl)
    replace Oy := Lib.hid (Oy.out.later hl)
    replace Oa := Lib.hid (Oa.out.later hl)
    replace Ob := Lib.hid (Ob.out.later hl)
    replace L0 := Lib.hid (L0.out.trans hl)
    clear hl
    obtain ⟨f15_0, f15_1, f15_2, f15_3, f15_4, f15_5⟩ := BoxAt.all (x := b) Bb.out
    have HC : Hid (Calls Try.prog 26 #[prV b] m14 (Says true m14)) := by
      have := primRight_any b _ Ob.out
      rw [Vb.out, HRT.out.2.2.2] at this
      exact this
    unfold prV at HC
    go_wp2_with fail
    refine HC.out.mono ?_
    rintro e m16 ⟨rfl, hl⟩
    clear HC
    clear f15_0 f15_1 f15_2 f15_3 f15_4 f15_5
    replace Bx := Lib.hid (Bx.out.later hl)
    replace By := Lib.hid (By.out.later hl)
    replace Ba := Lib.hid (Ba.out.later hl)
    replace Bb := Lib.hid (Bb.out.later hl)
    replace Ox := Lib.hid (Ox.out.later hl)
    replace Oy := Lib.hid (Oy.out.later hl)
    replace Oa := Lib.hid (Oa.out.later hl)
    replace Ob := Lib.hid (Ob.out.later hl)
    replace L0 := Lib.hid (L0.out.trans hl)
    clear hl
    go_wp2
    go_ret
    exact ⟨rfl, L0.out⟩

end Go.Proofs.Ytalgapoigkbiaaa
