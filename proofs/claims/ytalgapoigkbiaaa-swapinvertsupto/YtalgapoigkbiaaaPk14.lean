import Derived.Test.YtalgapoigkbiaaaPk10
import Derived.Test.YtalgapoigkbiaaaPk13
import Derived.Test.YtalgapoigkbiaaaPk7
import Derived.Deep.RegionHeld3
import Derived.Deep.Cut

/-
  What the law SwapInverts comes to, as a call.
-/
namespace Go.Proofs.Ytalgapoigkbiaaa
open Go.RowKit Go.Maps

set_option maxRecDepth 100000 in
set_option maxHeartbeats 3200000 in
theorem swapInverts_walk (x y : PrC) (w : World) (hx : CameP w x) (hy : CameP w y) : Calls Try.prog 8 #[prV x, prV y] w (Says true w) := by
  have hw := hx.weigh
  have hw2 := hy.weigh
  obtain ⟨b0, b1, hl0⟩ := two_boxes w #[.int .i64 x.v.kind, .string x.v.name, .string x.v.to, .int .i64 x.v.place, .slice x.A x.n x.c, .slice x.B x.m x.d] #[.int .i64 y.v.kind, .string y.v.name, .string y.v.to, .int .i64 y.v.place, .slice y.A y.n y.c, .slice y.B y.m y.d] 24
  have HM : Hid (Calls Try.prog 10 #[.slice (some ⟨w.heap.size + 1 + 1, 0, none⟩) 2 2] (((w.alloc (.cells #[.int .i64 x.v.kind, .string x.v.name, .string x.v.to, .int .i64 x.v.place, .slice x.A x.n x.c, .slice x.B x.m x.d] 24)).alloc (.cells #[.int .i64 y.v.kind, .string y.v.name, .string y.v.to, .int .i64 y.v.place, .slice y.A y.n y.c, .slice y.B y.m y.d] 24)).alloc (.cells #[.int .i64 x.v.kind, .string x.v.name, .string x.v.to, .int .i64 x.v.place, .slice x.A x.n x.c, .slice x.B x.m x.d, .int .i64 y.v.kind, .string y.v.name, .string y.v.to, .int .i64 y.v.place, .slice y.A y.n y.c, .slice y.B y.m y.d] 24)) (Says (decide (2 + (weightP x.v + weightP y.v) ≤ 5000)) (((w.alloc (.cells #[.int .i64 x.v.kind, .string x.v.name, .string x.v.to, .int .i64 x.v.place, .slice x.A x.n x.c, .slice x.B x.m x.d] 24)).alloc (.cells #[.int .i64 y.v.kind, .string y.v.name, .string y.v.to, .int .i64 y.v.place, .slice y.A y.n y.c, .slice y.B y.m y.d] 24)).alloc (.cells #[.int .i64 x.v.kind, .string x.v.name, .string x.v.to, .int .i64 x.v.place, .slice x.A x.n x.c, .slice x.B x.m x.d, .int .i64 y.v.kind, .string y.v.name, .string y.v.to, .int .i64 y.v.place, .slice y.A y.n y.c, .slice y.B y.m y.d] 24)))) := by
    have := small_any (some ⟨w.heap.size + 1 + 1, 0, none⟩) 2 2 [x, y] (((w.alloc (.cells #[.int .i64 x.v.kind, .string x.v.name, .string x.v.to, .int .i64 x.v.place, .slice x.A x.n x.c, .slice x.B x.m x.d] 24)).alloc (.cells #[.int .i64 y.v.kind, .string y.v.name, .string y.v.to, .int .i64 y.v.place, .slice y.A y.n y.c, .slice y.B y.m y.d] 24)).alloc (.cells #[.int .i64 x.v.kind, .string x.v.name, .string x.v.to, .int .i64 x.v.place, .slice x.A x.n x.c, .slice x.B x.m x.d, .int .i64 y.v.kind, .string y.v.name, .string y.v.to, .int .i64 y.v.place, .slice y.A y.n y.c, .slice y.B y.m y.d] 24)) (by have := prims_two hx hy hl0 24; simpa using this) (by omega) (by rw [weightPs_two]; omega)
    rw [weightPs_two] at this
    exact this
  replace b0 := b0.alloc (.cells #[.int .i64 x.v.kind, .string x.v.name, .string x.v.to, .int .i64 x.v.place, .slice x.A x.n x.c, .slice x.B x.m x.d, .int .i64 y.v.kind, .string y.v.name, .string y.v.to, .int .i64 y.v.place, .slice y.A y.n y.c, .slice y.B y.m y.d] 24)
  replace b1 := b1.alloc (.cells #[.int .i64 x.v.kind, .string x.v.name, .string x.v.to, .int .i64 x.v.place, .slice x.A x.n x.c, .slice x.B x.m x.d, .int .i64 y.v.kind, .string y.v.name, .string y.v.to, .int .i64 y.v.place, .slice y.A y.n y.c, .slice y.B y.m y.d] 24)
  replace hl0 := hl0.alloc (.cells #[.int .i64 x.v.kind, .string x.v.name, .string x.v.to, .int .i64 x.v.place, .slice x.A x.n x.c, .slice x.B x.m x.d, .int .i64 y.v.kind, .string y.v.name, .string y.v.to, .int .i64 y.v.place, .slice y.A y.n y.c, .slice y.B y.m y.d] 24)
  unfold prV
  by_cases hg : 2 + (weightP x.v + weightP y.v) ≤ 5000
  case neg =>
    rw [decide_eq_false hg] at HM
    go_enter Try.func8, Try.ntmps8
    go_wp2_with fail
    refine HM.out.mono ?_
    rintro e m1 ⟨rfl, hl⟩
    have L0 := Lib.hid (hl0.trans hl)
    clear hl hl0 b0 b1 HM
    go_wp2_with fail
    refine (aliveS_any m1).mono ?_
    rintro e m2 ⟨rfl, hl⟩
    replace L0 := Lib.hid (L0.out.trans hl)
    clear hl
    go_wp2
    go_ret
    exact ⟨rfl, L0.out⟩
  rw [decide_eq_true hg] at HM
  have Ox := Lib.hid (hx.ok (by omega))
  have Oy := Lib.hid (hy.ok (by omega))
  cases hs : swapP x.v y.v with
  | none =>
    go_enter Try.func8, Try.ntmps8
    go_wp2_with fail
    refine HM.out.mono ?_
    generalize ((w.alloc (.cells #[.int .i64 x.v.kind, .string x.v.name, .string x.v.to, .int .i64 x.v.place, .slice x.A x.n x.c, .slice x.B x.m x.d] 24)).alloc (.cells #[.int .i64 y.v.kind, .string y.v.name, .string y.v.to, .int .i64 y.v.place, .slice y.A y.n y.c, .slice y.B y.m y.d] 24)).alloc (.cells #[.int .i64 x.v.kind, .string x.v.name, .string x.v.to, .int .i64 x.v.place, .slice x.A x.n x.c, .slice x.B x.m x.d, .int .i64 y.v.kind, .string y.v.name, .string y.v.to, .int .i64 y.v.place, .slice y.A y.n y.c, .slice y.B y.m y.d] 24) = wb at b0 b1 hl0 ⊢
    generalize w.heap.size + 1 + 1 = gz
    generalize w.heap.size + 1 = gy at b1 ⊢
    generalize w.heap.size = gx at b0 ⊢
    rintro e m1 ⟨rfl, hl⟩
    have Bx := Lib.hid (b0.later hl); have By := Lib.hid (b1.later hl); have L0 := Lib.hid (hl0.trans hl)
    replace Ox := Lib.hid (Ox.out.later L0.out); replace Oy := Lib.hid (Oy.out.later L0.out)
    clear b0 b1 hl0 hl HM
    obtain ⟨f2_0, f2_1, f2_2, f2_3, f2_4, f2_5⟩ := BoxAt.all (x := x) Bx.out
    obtain ⟨f3_0, f3_1, f3_2, f3_3, f3_4, f3_5⟩ := BoxAt.all (x := y) By.out
    have hltx := Bx.out.lt; have hlty := By.out.lt
    go_upto_region 3 with fail
    go_cut [5, 6] from 19 (fun s5 s6 wr => ∃ g5 g6 : Nat, s5 = .pointer (some ⟨g5, 0, none⟩) ∧ s6 = .pointer (some ⟨g6, 0, none⟩) ∧ Hid (BoxAt wr g5 (prL x).toArray 27 ∧ BoxAt wr g6 (prL y).toArray 27 ∧ Later m1 wr))
    case first =>
      go_region
      all_goals (go_wp2_with fail)
      all_goals go_meet
      all_goals first
        | (obtain ⟨d0, d1, hl9⟩ := two_boxes m1 #[.int .i64 x.v.kind, .string x.v.name, .string x.v.to, .int .i64 x.v.place, .slice x.A x.n x.c, .slice x.B x.m x.d] #[.int .i64 y.v.kind, .string y.v.name, .string y.v.to, .int .i64 y.v.place, .slice y.A y.n y.c, .slice y.B y.m y.d] 27; exact ⟨_, _, rfl, rfl, d0.later (Later.refl _).drew, d1.later (Later.refl _).drew, hl9.drew⟩)
        | (obtain ⟨d0, d1, hl9⟩ := two_boxes m1 #[.int .i64 y.v.kind, .string y.v.name, .string y.v.to, .int .i64 y.v.place, .slice y.A y.n y.c, .slice y.B y.m y.d] #[.int .i64 x.v.kind, .string x.v.name, .string x.v.to, .int .i64 x.v.place, .slice x.A x.n x.c, .slice x.B x.m x.d] 27; exact ⟨_, _, rfl, rfl, d1.later (Later.refl _).drew, d0.later (Later.refl _).drew, hl9.drew⟩)
    case rest =>
    clear hltx hlty
    obtain ⟨gX, gY, rfl, rfl, HCUT⟩ := hcut
    clear f2_0 f2_1 f2_2 f2_3 f2_4 f2_5 f3_0 f3_1 f3_2 f3_3 f3_4 f3_5
    have hl := HCUT.out.2.2
    replace Bx := Lib.hid (Bx.out.later hl)
    replace By := Lib.hid (By.out.later hl)
    replace Ox := Lib.hid (Ox.out.later hl)
    replace Oy := Lib.hid (Oy.out.later hl)
    replace L0 := Lib.hid (L0.out.trans hl)
    have BX := Lib.hid HCUT.out.1; have BY := Lib.hid HCUT.out.2.1
    clear hl HCUT
    obtain ⟨f4_0, f4_1, f4_2, f4_3, f4_4, f4_5⟩ := BoxAt.all (x := x) BX.out
    obtain ⟨f5_0, f5_1, f5_2, f5_3, f5_4, f5_5⟩ := BoxAt.all (x := y) BY.out
    have HC : Hid (Calls Try.prog 12 #[prV x, prV y] wc (GivesT noneP wc)) := by
      have := swap_any x y _ Ox.out Oy.out
      rw [hs, show swapR none = noneP from rfl] at this
      exact this
    unfold prV at HC
    go_wp2_with fail
    refine HC.out.mono ?_
    rintro e m6 ⟨a, b, rfl, ha, hb, oa, ob, hl⟩
    dsimp only at ha hb ⊢
    clear HC
    clear f4_0 f4_1 f4_2 f4_3 f4_4 f4_5 f5_0 f5_1 f5_2 f5_3 f5_4 f5_5
    replace Bx := Lib.hid (Bx.out.later hl)
    replace By := Lib.hid (By.out.later hl)
    replace BX := Lib.hid (BX.out.later hl)
    replace BY := Lib.hid (BY.out.later hl)
    replace Ox := Lib.hid (Ox.out.later hl)
    replace Oy := Lib.hid (Oy.out.later hl)
    replace L0 := Lib.hid (L0.out.trans hl)
    have Oa := Lib.hid oa; have Ob := Lib.hid ob; have Va := Lib.hid ha; have Vb := Lib.hid hb
    clear hl oa ob ha hb
    obtain ⟨d0, d1, hl⟩ := two_boxes m6 #[.int .i64 a.v.kind, .string a.v.name, .string a.v.to, .int .i64 a.v.place, .slice a.A a.n a.c, .slice a.B a.m a.d] #[.int .i64 b.v.kind, .string b.v.name, .string b.v.to, .int .i64 b.v.place, .slice b.A b.n b.c, .slice b.B b.m b.d] 27
    unfold prV
    go_upto_region 5 with fail
    generalize (m6.alloc (.cells #[.int .i64 a.v.kind, .string a.v.name, .string a.v.to, .int .i64 a.v.place, .slice a.A a.n a.c, .slice a.B a.m a.d] 27)).alloc (.cells #[.int .i64 b.v.kind, .string b.v.name, .string b.v.to, .int .i64 b.v.place, .slice b.A b.n b.c, .slice b.B b.m b.d] 27) = m7 at d0 d1 hl ⊢
    generalize m6.heap.size + 1 = gb at d1 ⊢
    generalize m6.heap.size = ga at d0 ⊢
    replace Bx := Lib.hid (Bx.out.later hl)
    replace By := Lib.hid (By.out.later hl)
    replace BX := Lib.hid (BX.out.later hl)
    replace BY := Lib.hid (BY.out.later hl)
    replace Ox := Lib.hid (Ox.out.later hl)
    replace Oy := Lib.hid (Oy.out.later hl)
    replace Oa := Lib.hid (Oa.out.later hl)
    replace Ob := Lib.hid (Ob.out.later hl)
    replace L0 := Lib.hid (L0.out.trans hl)
    have Ba := Lib.hid d0; have Bb := Lib.hid d1
    clear d0 d1 hl
    have hsw : swapR (swapP (invertP y.v) (invertP x.v)) = (zeroPr, zeroPr, false) := by rw [swap_inverts, hs]; rfl
    refine iv_region rfl (by kernel_rfl) ⟨_, rfl, rfl, rfl, rfl, by kernel_rfl⟩ ⟨_, rfl, rfl, rfl, rfl, by kernel_rfl⟩ ⟨_, rfl, rfl, rfl, rfl, by kernel_rfl⟩ ⟨_, rfl, rfl, rfl, rfl, by kernel_rfl⟩ ⟨_, rfl, rfl, rfl, rfl, by kernel_rfl⟩ ⟨_, rfl, rfl, rfl, rfl, by kernel_rfl⟩ ⟨_, rfl, rfl, rfl, rfl, by kernel_rfl⟩ ⟨_, rfl, rfl, rfl, rfl, by kernel_rfl⟩ ⟨_, rfl, rfl, rfl, rfl, by kernel_rfl⟩ ⟨_, rfl, rfl, rfl, rfl, by kernel_rfl⟩ ⟨_, rfl, rfl, rfl, rfl, by kernel_rfl⟩ ⟨_, rfl, rfl, rfl, rfl, by kernel_rfl⟩ ⟨_, rfl, rfl, rfl, rfl, by kernel_rfl⟩ ⟨_, rfl, rfl, rfl, rfl, by kernel_rfl⟩ (of_decide_eq_true rfl) rfl rfl BX.out BY.out Ox.out Oy.out hsw (fun D a' m9 so e8 e9 e10 wd => ?_)
    obtain ⟨hcv, hdv, hco, hdo⟩ := wd.wc rfl
    obtain ⟨_, cs8, _, hb8, hc8⟩ := wd.w8 rfl
    obtain ⟨_, cs9, _, hb9, hc9⟩ := wd.w9 rfl
    have hcs8 := hc8 rfl
    have hcs9 := hc9 rfl
    subst hcs8 hcs9
    have hl := wd.later
    clear hc8 hc9 hsw wd
    obtain ⟨Di, Dj, c, d, gc, gd⟩ := D
    dsimp only at *
    have ha := so.is
    simp only [List.foldl_cons, List.foldl_nil] at ha
    rw [e8, e9, e10] at ha
    generalize a'.eval (.tmp 29) = v29 at ha
    generalize a'.eval (.tmp 30) = v30 at ha
    generalize a'.eval (.tmp 31) = v31 at ha
    generalize a'.eval (.tmp 32) = v32 at ha
    generalize a'.eval (.tmp 33) = v33 at ha
    generalize a'.eval (.tmp 28) = v28 at ha
    generalize a'.eval (.tmp 34) = v34 at ha
    generalize a'.eval (.tmp 35) = v35 at ha
    generalize a'.eval (.tmp 36) = v36 at ha
    clear so e8 e9 e10
    subst ha
    simp only [Act.put, List.setIfInBounds_toArray, List.set_cons_zero, List.set_cons_succ]
    replace Bx := Lib.hid (Bx.out.later hl)
    replace By := Lib.hid (By.out.later hl)
    replace BX := Lib.hid (BX.out.later hl)
    replace BY := Lib.hid (BY.out.later hl)
    replace Ba := Lib.hid (Ba.out.later hl)
    replace Bb := Lib.hid (Bb.out.later hl)
    replace Ox := Lib.hid (Ox.out.later hl)
    replace Oy := Lib.hid (Oy.out.later hl)
    replace Oa := Lib.hid (Oa.out.later hl)
    replace Ob := Lib.hid (Ob.out.later hl)
    replace L0 := Lib.hid (L0.out.trans hl)
    have Oc := Lib.hid hco; have Od := Lib.hid hdo; have Vc := Lib.hid hcv; have Vd := Lib.hid hdv; have Bc := Lib.hid hb8; have Bd := Lib.hid hb9
    clear hl hco hdo hcv hdv hb8 hb9
    clear hs
    have HC : Hid (Calls Try.prog 11 #[] m9 (Says true m9)) := by
      exact aliveS_any m9
    unfold prV at HC
    go_wp2_with fail
    refine HC.out.mono ?_
    rintro e m8 ⟨rfl, hl⟩
    clear HC
    replace Bx := Lib.hid (Bx.out.later hl)
    replace By := Lib.hid (By.out.later hl)
    replace BX := Lib.hid (BX.out.later hl)
    replace BY := Lib.hid (BY.out.later hl)
    replace Ba := Lib.hid (Ba.out.later hl)
    replace Bb := Lib.hid (Bb.out.later hl)
    replace Bc := Lib.hid (Bc.out.later hl)
    replace Bd := Lib.hid (Bd.out.later hl)
    replace Ox := Lib.hid (Ox.out.later hl)
    replace Oy := Lib.hid (Oy.out.later hl)
    replace Oa := Lib.hid (Oa.out.later hl)
    replace Ob := Lib.hid (Ob.out.later hl)
    replace Oc := Lib.hid (Oc.out.later hl)
    replace Od := Lib.hid (Od.out.later hl)
    replace L0 := Lib.hid (L0.out.trans hl)
    clear hl
    go_wp2
    go_ret
    exact ⟨rfl, L0.out⟩
  | some r =>
    obtain ⟨r1, r2⟩ := r
    go_enter Try.func8, Try.ntmps8
    go_wp2_with fail
    refine HM.out.mono ?_
    generalize ((w.alloc (.cells #[.int .i64 x.v.kind, .string x.v.name, .string x.v.to, .int .i64 x.v.place, .slice x.A x.n x.c, .slice x.B x.m x.d] 24)).alloc (.cells #[.int .i64 y.v.kind, .string y.v.name, .string y.v.to, .int .i64 y.v.place, .slice y.A y.n y.c, .slice y.B y.m y.d] 24)).alloc (.cells #[.int .i64 x.v.kind, .string x.v.name, .string x.v.to, .int .i64 x.v.place, .slice x.A x.n x.c, .slice x.B x.m x.d, .int .i64 y.v.kind, .string y.v.name, .string y.v.to, .int .i64 y.v.place, .slice y.A y.n y.c, .slice y.B y.m y.d] 24) = wb at b0 b1 hl0 ⊢
    generalize w.heap.size + 1 + 1 = gz
    generalize w.heap.size + 1 = gy at b1 ⊢
    generalize w.heap.size = gx at b0 ⊢
    rintro e m1 ⟨rfl, hl⟩
    have Bx := Lib.hid (b0.later hl); have By := Lib.hid (b1.later hl); have L0 := Lib.hid (hl0.trans hl)
    replace Ox := Lib.hid (Ox.out.later L0.out); replace Oy := Lib.hid (Oy.out.later L0.out)
    clear b0 b1 hl0 hl HM
    obtain ⟨f2_0, f2_1, f2_2, f2_3, f2_4, f2_5⟩ := BoxAt.all (x := x) Bx.out
    obtain ⟨f3_0, f3_1, f3_2, f3_3, f3_4, f3_5⟩ := BoxAt.all (x := y) By.out
    have hltx := Bx.out.lt; have hlty := By.out.lt
    go_upto_region 3 with fail
    go_cut [5, 6] from 19 (fun s5 s6 wr => ∃ g5 g6 : Nat, s5 = .pointer (some ⟨g5, 0, none⟩) ∧ s6 = .pointer (some ⟨g6, 0, none⟩) ∧ Hid (BoxAt wr g5 (prL x).toArray 27 ∧ BoxAt wr g6 (prL y).toArray 27 ∧ Later m1 wr))
    case first =>
      go_region
      all_goals (go_wp2_with fail)
      all_goals go_meet
      all_goals first
        | (obtain ⟨d0, d1, hl9⟩ := two_boxes m1 #[.int .i64 x.v.kind, .string x.v.name, .string x.v.to, .int .i64 x.v.place, .slice x.A x.n x.c, .slice x.B x.m x.d] #[.int .i64 y.v.kind, .string y.v.name, .string y.v.to, .int .i64 y.v.place, .slice y.A y.n y.c, .slice y.B y.m y.d] 27; exact ⟨_, _, rfl, rfl, d0.later (Later.refl _).drew, d1.later (Later.refl _).drew, hl9.drew⟩)
        | (obtain ⟨d0, d1, hl9⟩ := two_boxes m1 #[.int .i64 y.v.kind, .string y.v.name, .string y.v.to, .int .i64 y.v.place, .slice y.A y.n y.c, .slice y.B y.m y.d] #[.int .i64 x.v.kind, .string x.v.name, .string x.v.to, .int .i64 x.v.place, .slice x.A x.n x.c, .slice x.B x.m x.d] 27; exact ⟨_, _, rfl, rfl, d1.later (Later.refl _).drew, d0.later (Later.refl _).drew, hl9.drew⟩)
    case rest =>
    clear hltx hlty
    obtain ⟨gX, gY, rfl, rfl, HCUT⟩ := hcut
    clear f2_0 f2_1 f2_2 f2_3 f2_4 f2_5 f3_0 f3_1 f3_2 f3_3 f3_4 f3_5
    have hl := HCUT.out.2.2
    replace Bx := Lib.hid (Bx.out.later hl)
    replace By := Lib.hid (By.out.later hl)
    replace Ox := Lib.hid (Ox.out.later hl)
    replace Oy := Lib.hid (Oy.out.later hl)
    replace L0 := Lib.hid (L0.out.trans hl)
    have BX := Lib.hid HCUT.out.1; have BY := Lib.hid HCUT.out.2.1
    clear hl HCUT
    obtain ⟨f4_0, f4_1, f4_2, f4_3, f4_4, f4_5⟩ := BoxAt.all (x := x) BX.out
    obtain ⟨f5_0, f5_1, f5_2, f5_3, f5_4, f5_5⟩ := BoxAt.all (x := y) BY.out
    have HC : Hid (Calls Try.prog 12 #[prV x, prV y] wc (GivesT (r1, r2, true) wc)) := by
      have := swap_any x y _ Ox.out Oy.out
      rw [hs, show swapR (some (r1, r2)) = (r1, r2, true) from rfl] at this
      exact this
    unfold prV at HC
    go_wp2_with fail
    refine HC.out.mono ?_
    rintro e m6 ⟨a, b, rfl, ha, hb, oa, ob, hl⟩
    dsimp only at ha hb ⊢
    clear HC
    clear f4_0 f4_1 f4_2 f4_3 f4_4 f4_5 f5_0 f5_1 f5_2 f5_3 f5_4 f5_5
    replace Bx := Lib.hid (Bx.out.later hl)
    replace By := Lib.hid (By.out.later hl)
    replace BX := Lib.hid (BX.out.later hl)
    replace BY := Lib.hid (BY.out.later hl)
    replace Ox := Lib.hid (Ox.out.later hl)
    replace Oy := Lib.hid (Oy.out.later hl)
    replace L0 := Lib.hid (L0.out.trans hl)
    have Oa := Lib.hid oa; have Ob := Lib.hid ob; have Va := Lib.hid ha; have Vb := Lib.hid hb
    clear hl oa ob ha hb
    obtain ⟨d0, d1, hl⟩ := two_boxes m6 #[.int .i64 a.v.kind, .string a.v.name, .string a.v.to, .int .i64 a.v.place, .slice a.A a.n a.c, .slice a.B a.m a.d] #[.int .i64 b.v.kind, .string b.v.name, .string b.v.to, .int .i64 b.v.place, .slice b.A b.n b.c, .slice b.B b.m b.d] 27
    unfold prV
    go_upto_region 5 with fail
    generalize (m6.alloc (.cells #[.int .i64 a.v.kind, .string a.v.name, .string a.v.to, .int .i64 a.v.place, .slice a.A a.n a.c, .slice a.B a.m a.d] 27)).alloc (.cells #[.int .i64 b.v.kind, .string b.v.name, .string b.v.to, .int .i64 b.v.place, .slice b.A b.n b.c, .slice b.B b.m b.d] 27) = m7 at d0 d1 hl ⊢
    generalize m6.heap.size + 1 = gb at d1 ⊢
    generalize m6.heap.size = ga at d0 ⊢
    replace Bx := Lib.hid (Bx.out.later hl)
    replace By := Lib.hid (By.out.later hl)
    replace BX := Lib.hid (BX.out.later hl)
    replace BY := Lib.hid (BY.out.later hl)
    replace Ox := Lib.hid (Ox.out.later hl)
    replace Oy := Lib.hid (Oy.out.later hl)
    replace Oa := Lib.hid (Oa.out.later hl)
    replace Ob := Lib.hid (Ob.out.later hl)
    replace L0 := Lib.hid (L0.out.trans hl)
    have Ba := Lib.hid d0; have Bb := Lib.hid d1
    clear d0 d1 hl
    have hsw : swapR (swapP (invertP y.v) (invertP x.v)) = (invertP r2, invertP r1, true) := by rw [swap_inverts, hs]; rfl
    refine iv_region rfl (by kernel_rfl) ⟨_, rfl, rfl, rfl, rfl, by kernel_rfl⟩ ⟨_, rfl, rfl, rfl, rfl, by kernel_rfl⟩ ⟨_, rfl, rfl, rfl, rfl, by kernel_rfl⟩ ⟨_, rfl, rfl, rfl, rfl, by kernel_rfl⟩ ⟨_, rfl, rfl, rfl, rfl, by kernel_rfl⟩ ⟨_, rfl, rfl, rfl, rfl, by kernel_rfl⟩ ⟨_, rfl, rfl, rfl, rfl, by kernel_rfl⟩ ⟨_, rfl, rfl, rfl, rfl, by kernel_rfl⟩ ⟨_, rfl, rfl, rfl, rfl, by kernel_rfl⟩ ⟨_, rfl, rfl, rfl, rfl, by kernel_rfl⟩ ⟨_, rfl, rfl, rfl, rfl, by kernel_rfl⟩ ⟨_, rfl, rfl, rfl, rfl, by kernel_rfl⟩ ⟨_, rfl, rfl, rfl, rfl, by kernel_rfl⟩ ⟨_, rfl, rfl, rfl, rfl, by kernel_rfl⟩ (of_decide_eq_true rfl) rfl rfl BX.out BY.out Ox.out Oy.out hsw (fun D a' m9 so e8 e9 e10 wd => ?_)
    obtain ⟨hcv, hdv, hco, hdo⟩ := wd.wc rfl
    obtain ⟨_, cs8, _, hb8, hc8⟩ := wd.w8 rfl
    obtain ⟨_, cs9, _, hb9, hc9⟩ := wd.w9 rfl
    have hcs8 := hc8 rfl
    have hcs9 := hc9 rfl
    subst hcs8 hcs9
    have hl := wd.later
    clear hc8 hc9 hsw wd
    obtain ⟨Di, Dj, c, d, gc, gd⟩ := D
    dsimp only at *
    have ha := so.is
    simp only [List.foldl_cons, List.foldl_nil] at ha
    rw [e8, e9, e10] at ha
    generalize a'.eval (.tmp 29) = v29 at ha
    generalize a'.eval (.tmp 30) = v30 at ha
    generalize a'.eval (.tmp 31) = v31 at ha
    generalize a'.eval (.tmp 32) = v32 at ha
    generalize a'.eval (.tmp 33) = v33 at ha
    generalize a'.eval (.tmp 28) = v28 at ha
    generalize a'.eval (.tmp 34) = v34 at ha
    generalize a'.eval (.tmp 35) = v35 at ha
    generalize a'.eval (.tmp 36) = v36 at ha
    clear so e8 e9 e10
    subst ha
    simp only [Act.put, List.setIfInBounds_toArray, List.set_cons_zero, List.set_cons_succ]
    replace Bx := Lib.hid (Bx.out.later hl)
    replace By := Lib.hid (By.out.later hl)
    replace BX := Lib.hid (BX.out.later hl)
    replace BY := Lib.hid (BY.out.later hl)
    replace Ba := Lib.hid (Ba.out.later hl)
    replace Bb := Lib.hid (Bb.out.later hl)
    replace Ox := Lib.hid (Ox.out.later hl)
    replace Oy := Lib.hid (Oy.out.later hl)
    replace Oa := Lib.hid (Oa.out.later hl)
    replace Ob := Lib.hid (Ob.out.later hl)
    replace L0 := Lib.hid (L0.out.trans hl)
    have Oc := Lib.hid hco; have Od := Lib.hid hdo; have Vc := Lib.hid hcv; have Vd := Lib.hid hdv; have Bc := Lib.hid hb8; have Bd := Lib.hid hb9
    clear hl hco hdo hcv hdv hb8 hb9
    clear hs
    have CA : Hid (∀ w', Later m9 w' → Calls Try.prog 11 #[] w' (Says true w')) := fun w' _ => aliveS_any w'
    have C2 : Hid (∀ w', Later m9 w' → Calls Try.prog 23 #[prV b] w' (GivesP (invertP r2) w')) := fun w' h => by
      have := invert_v (Ob.out.later h).at
      rw [Vb.out] at this
      exact this
    have C3 : Hid (∀ (w' : World) (v : Value), Later m9 w' → PrimAt w' v (invertP r2) → Calls Try.prog 22 #[prV c, v] w' (Says true w')) := fun w' v h hv => by
      have := same_v (Oc.out.later h).at hv
      rw [Vc.out, sameP_self] at this
      exact this
    have C4 : Hid (∀ w', Later m9 w' → Calls Try.prog 23 #[prV a] w' (GivesP (invertP r1) w')) := fun w' h => by
      have := invert_v (Oa.out.later h).at
      rw [Va.out] at this
      exact this
    have C5 : Hid (∀ (w' : World) (v : Value), Later m9 w' → PrimAt w' v (invertP r1) → Calls Try.prog 22 #[prV d, v] w' (Says true w')) := fun w' v h hv => by
      have := same_v (Od.out.later h).at hv
      rw [Vd.out, sameP_self] at this
      exact this
    go_upto_region 8 with fail
    have HS : Hid (∀ w', Later m9 w' → w'.cell? ⟨gc, 0, none⟩ = some (.int .i64 c.v.kind) ∧ w'.cell? ⟨gc, 1, none⟩ = some (.string c.v.name) ∧ w'.cell? ⟨gc, 2, none⟩ = some (.string c.v.to) ∧ w'.cell? ⟨gc, 3, none⟩ = some (.int .i64 c.v.place) ∧ w'.cell? ⟨gc, 4, none⟩ = some (.slice c.A c.n c.c) ∧ w'.cell? ⟨gc, 5, none⟩ = some (.slice c.B c.m c.d) ∧ w'.cell? ⟨gb, 0, none⟩ = some (.int .i64 b.v.kind) ∧ w'.cell? ⟨gb, 1, none⟩ = some (.string b.v.name) ∧ w'.cell? ⟨gb, 2, none⟩ = some (.string b.v.to) ∧ w'.cell? ⟨gb, 3, none⟩ = some (.int .i64 b.v.place) ∧ w'.cell? ⟨gb, 4, none⟩ = some (.slice b.A b.n b.c) ∧ w'.cell? ⟨gb, 5, none⟩ = some (.slice b.B b.m b.d) ∧ w'.cell? ⟨gd, 0, none⟩ = some (.int .i64 d.v.kind) ∧ w'.cell? ⟨gd, 1, none⟩ = some (.string d.v.name) ∧ w'.cell? ⟨gd, 2, none⟩ = some (.string d.v.to) ∧ w'.cell? ⟨gd, 3, none⟩ = some (.int .i64 d.v.place) ∧ w'.cell? ⟨gd, 4, none⟩ = some (.slice d.A d.n d.c) ∧ w'.cell? ⟨gd, 5, none⟩ = some (.slice d.B d.m d.d) ∧ w'.cell? ⟨ga, 0, none⟩ = some (.int .i64 a.v.kind) ∧ w'.cell? ⟨ga, 1, none⟩ = some (.string a.v.name) ∧ w'.cell? ⟨ga, 2, none⟩ = some (.string a.v.to) ∧ w'.cell? ⟨ga, 3, none⟩ = some (.int .i64 a.v.place) ∧ w'.cell? ⟨ga, 4, none⟩ = some (.slice a.A a.n a.c) ∧ w'.cell? ⟨ga, 5, none⟩ = some (.slice a.B a.m a.d)) := fun w' hl => by
      have h0 := BoxAt.all (x := c) (Bc.out.later hl)
      have h1 := BoxAt.all (x := b) (Bb.out.later hl)
      have h2 := BoxAt.all (x := d) (Bd.out.later hl)
      have h3 := BoxAt.all (x := a) (Ba.out.later hl)
      exact ⟨h0.1, h0.2.1, h0.2.2.1, h0.2.2.2.1, h0.2.2.2.2.1, h0.2.2.2.2.2, h1.1, h1.2.1, h1.2.2.1, h1.2.2.2.1, h1.2.2.2.2.1, h1.2.2.2.2.2, h2.1, h2.2.1, h2.2.2.1, h2.2.2.2.1, h2.2.2.2.2.1, h2.2.2.2.2.2, h3⟩
    have s0 := HS.out m9.drew (Later.refl _).drew
    have L0_ : Hid (Later m9 m9) := Later.refl m9
    unfold prV at C2 C3 C4 C5
    go_region_held3 (fun w' => w'.cell? ⟨gc, 0, none⟩ = some (.int .i64 c.v.kind) ∧ w'.cell? ⟨gc, 1, none⟩ = some (.string c.v.name) ∧ w'.cell? ⟨gc, 2, none⟩ = some (.string c.v.to) ∧ w'.cell? ⟨gc, 3, none⟩ = some (.int .i64 c.v.place) ∧ w'.cell? ⟨gc, 4, none⟩ = some (.slice c.A c.n c.c) ∧ w'.cell? ⟨gc, 5, none⟩ = some (.slice c.B c.m c.d) ∧ w'.cell? ⟨gb, 0, none⟩ = some (.int .i64 b.v.kind) ∧ w'.cell? ⟨gb, 1, none⟩ = some (.string b.v.name) ∧ w'.cell? ⟨gb, 2, none⟩ = some (.string b.v.to) ∧ w'.cell? ⟨gb, 3, none⟩ = some (.int .i64 b.v.place) ∧ w'.cell? ⟨gb, 4, none⟩ = some (.slice b.A b.n b.c) ∧ w'.cell? ⟨gb, 5, none⟩ = some (.slice b.B b.m b.d) ∧ w'.cell? ⟨gd, 0, none⟩ = some (.int .i64 d.v.kind) ∧ w'.cell? ⟨gd, 1, none⟩ = some (.string d.v.name) ∧ w'.cell? ⟨gd, 2, none⟩ = some (.string d.v.to) ∧ w'.cell? ⟨gd, 3, none⟩ = some (.int .i64 d.v.place) ∧ w'.cell? ⟨gd, 4, none⟩ = some (.slice d.A d.n d.c) ∧ w'.cell? ⟨gd, 5, none⟩ = some (.slice d.B d.m d.d) ∧ w'.cell? ⟨ga, 0, none⟩ = some (.int .i64 a.v.kind) ∧ w'.cell? ⟨ga, 1, none⟩ = some (.string a.v.name) ∧ w'.cell? ⟨ga, 2, none⟩ = some (.string a.v.to) ∧ w'.cell? ⟨ga, 3, none⟩ = some (.int .i64 a.v.place) ∧ w'.cell? ⟨ga, 4, none⟩ = some (.slice a.A a.n a.c) ∧ w'.cell? ⟨ga, 5, none⟩ = some (.slice a.B a.m a.d))
      (first | with_reducible exact s5 | with_reducible exact s4 | with_reducible exact s3 | with_reducible exact s2 | with_reducible exact s1 | with_reducible exact s0 | exact s0)
      (first
      | (go_at_call 22; have hq := L4_; clear hq; refine (C5.out _ vz4 (Later.trans L4_.out (by first | exact Later.refl _ | exact (Later.refl _).drew | exact (Later.refl _).drewN _)) (Z4.out.later (by first | exact Later.refl _ | exact (Later.refl _).drew | exact (Later.refl _).drewN _))).mono ?_; rintro e n5 ⟨rfl, hl5⟩; have L5_ : Hid (Later m9 n5) := Later.trans (Later.trans L4_.out (by first | exact Later.refl _ | exact (Later.refl _).drew | exact (Later.refl _).drewN _)) hl5; have s5 := HS.out n5 L5_.out; clear hl5)
      | (go_at_call 23; have hq := L3_; clear hq; refine (C4.out _ (Later.trans L3_.out (by first | exact Later.refl _ | exact (Later.refl _).drew | exact (Later.refl _).drewN _))).mono ?_; rintro e n4 ⟨vz4, rfl, hvz4, hl4⟩; have L4_ : Hid (Later m9 n4) := Later.trans (Later.trans L3_.out (by first | exact Later.refl _ | exact (Later.refl _).drew | exact (Later.refl _).drewN _)) hl4; have s4 := HS.out n4 L4_.out; have Z4 := Lib.hid hvz4; clear hvz4; clear hl4)
      | (go_at_call 22; have hq := L2_; clear hq; refine (C3.out _ vz2 (Later.trans L2_.out (by first | exact Later.refl _ | exact (Later.refl _).drew | exact (Later.refl _).drewN _)) (Z2.out.later (by first | exact Later.refl _ | exact (Later.refl _).drew | exact (Later.refl _).drewN _))).mono ?_; rintro e n3 ⟨rfl, hl3⟩; have L3_ : Hid (Later m9 n3) := Later.trans (Later.trans L2_.out (by first | exact Later.refl _ | exact (Later.refl _).drew | exact (Later.refl _).drewN _)) hl3; have s3 := HS.out n3 L3_.out; clear hl3)
      | (go_at_call 23; have hq := L1_; clear hq; refine (C2.out _ (Later.trans L1_.out (by first | exact Later.refl _ | exact (Later.refl _).drew | exact (Later.refl _).drewN _))).mono ?_; rintro e n2 ⟨vz2, rfl, hvz2, hl2⟩; have L2_ : Hid (Later m9 n2) := Later.trans (Later.trans L1_.out (by first | exact Later.refl _ | exact (Later.refl _).drew | exact (Later.refl _).drewN _)) hl2; have s2 := HS.out n2 L2_.out; have Z2 := Lib.hid hvz2; clear hvz2; clear hl2)
      | (go_at_call 11; refine (CA.out _ (Later.trans L0_.out (by first | exact Later.refl _ | exact (Later.refl _).drew | exact (Later.refl _).drewN _))).mono ?_; rintro e n1 ⟨rfl, hl1⟩; have L1_ : Hid (Later m9 n1) := Later.trans (Later.trans L0_.out (by first | exact Later.refl _ | exact (Later.refl _).drew | exact (Later.refl _).drewN _)) hl1; have s1 := HS.out n1 L1_.out; clear hl1))
    go_wp2
    go_ret
    exact ⟨rfl, L0.out.trans L5_.out⟩

end Go.Proofs.Ytalgapoigkbiaaa
