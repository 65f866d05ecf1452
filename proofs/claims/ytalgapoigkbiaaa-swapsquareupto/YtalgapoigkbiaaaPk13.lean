import Derived.Test.YtalgapoigkbiaaaPk5
import Derived.Test.YtalgapoigkbiaaaPk10
import Derived.Test.YtalgapoigkbiaaaPk12
import Derived.Test.YtalgapoigkbiaaaPk7
import Derived.Deep.RegionHeld3

/-
  A row of two prims, written out.
-/
namespace Go.Proofs.Ytalgapoigkbiaaa
open Go.RowKit Go.Maps

theorem prims_two {w w0 : World} {x y : PrC} (hx : CameP w x) (hy : CameP w y) (hl : Later w w0) (t : TypeId) : Prims (w0.alloc (.cells #[.int .i64 x.v.kind, .string x.v.name, .string x.v.to, .int .i64 x.v.place, .slice x.A x.n x.c, .slice x.B x.m x.d, .int .i64 y.v.kind, .string y.v.name, .string y.v.to, .int .i64 y.v.place, .slice y.A y.n y.c, .slice y.B y.m y.d] t)) (some ⟨w0.heap.size, 0, none⟩) 2 [x, y] := by
  refine ⟨⟨rfl, fun cs hcs => ?_, fun _ => ⟨_, _, rfl, fun j i cs v hj hi => ?_⟩⟩, fun z hz => ?_⟩
  · simp at hcs
    rcases hcs with rfl | rfl <;> rfl
  · have hb : (w0.alloc (.cells #[.int .i64 x.v.kind, .string x.v.name, .string x.v.to, .int .i64 x.v.place, .slice x.A x.n x.c, .slice x.B x.m x.d, .int .i64 y.v.kind, .string y.v.name, .string y.v.to, .int .i64 y.v.place, .slice y.A y.n y.c, .slice y.B y.m y.d] t)).heap[w0.heap.size]? = some (.cells #[.int .i64 x.v.kind, .string x.v.name, .string x.v.to, .int .i64 x.v.place, .slice x.A x.n x.c, .slice x.B x.m x.d, .int .i64 y.v.kind, .string y.v.name, .string y.v.to, .int .i64 y.v.place, .slice y.A y.n y.c, .slice y.B y.m y.d] t (0, 0)) := heap_alloc_new w0 _
    have key : ∀ (k : Nat) v, (prL x ++ prL y)[k]? = some v → (w0.alloc (.cells #[.int .i64 x.v.kind, .string x.v.name, .string x.v.to, .int .i64 x.v.place, .slice x.A x.n x.c, .slice x.B x.m x.d, .int .i64 y.v.kind, .string y.v.name, .string y.v.to, .int .i64 y.v.place, .slice y.A y.n y.c, .slice y.B y.m y.d] t)).cell? ⟨w0.heap.size, k, none⟩ = some v := fun k v hk => by
      simp only [World.cell?, hb]
      show (prL x ++ prL y).toArray[k]? = some v
      rw [List.getElem?_toArray]
      exact hk
    match j, hj with
    | 0, hj =>
      simp at hj; subst hj
      have hil : i < (prL x).length := (List.getElem?_eq_some_iff.1 hi).1
      rw [Nat.zero_mul, Nat.zero_add]
      exact key i v (by rw [List.getElem?_append_left hil]; exact hi)
    | 1, hj =>
      simp at hj; subst hj
      rw [Nat.one_mul, Nat.zero_add]
      exact key (6 + i) v (by rw [List.getElem?_append_right (by show 6 ≤ 6 + i; omega), show 6 + i - (prL x).length = i from by show 6 + i - 6 = i; omega]; exact hi)
  · simp at hz
    rcases hz with rfl | rfl
    · exact hx.later (hl.alloc _)
    · exact hy.later (hl.alloc _)
theorem weightPs_two (x y : PrC) : weightPs [x, y] = weightP x.v + weightP y.v := by simp [weightPs]

end Go.Proofs.Ytalgapoigkbiaaa

/-
  What the law SwapSquare comes to, as a call.
-/
namespace Go.Proofs.Ytalgapoigkbiaaa
open Go.RowKit Go.Maps

set_option maxRecDepth 100000 in
set_option maxHeartbeats 3200000 in
theorem swapSquare_walk (x y : PrC) (w : World) (hx : CameP w x) (hy : CameP w y) : Calls Try.prog 6 #[prV x, prV y] w (Says true w) := by
  have hw := hx.weigh
  have hw2 := hy.weigh
  obtain ⟨b0, b1, hl0⟩ := two_boxes w #[.int .i64 x.v.kind, .string x.v.name, .string x.v.to, .int .i64 x.v.place, .slice x.A x.n x.c, .slice x.B x.m x.d] #[.int .i64 y.v.kind, .string y.v.name, .string y.v.to, .int .i64 y.v.place, .slice y.A y.n y.c, .slice y.B y.m y.d] 24
  have HM : Hid (Calls Try.prog 10 #[.slice (some ⟨w.heap.size + 1 + 1, 0, none⟩) 2 2] (((w.alloc (.cells #[.int .i64 x.v.kind, .string x.v.name, .string x.v.to, .int .i64 x.v.place, .slice x.A x.n x.c, .slice x.B x.m x.d] 24)).alloc (.cells #[.int .i64 y.v.kind, .string y.v.name, .string y.v.to, .int .i64 y.v.place, .slice y.A y.n y.c, .slice y.B y.m y.d] 24)).alloc (.cells #[.int .i64 x.v.kind, .string x.v.name, .string x.v.to, .int .i64 x.v.place, .slice x.A x.n x.c, .slice x.B x.m x.d, .int .i64 y.v.kind, .string y.v.name, .string y.v.to, .int .i64 y.v.place, .slice y.A y.n y.c, .slice y.B y.m y.d] 24)) (Says (decide (2 + (weightP x.v + weightP y.v) ≤ 5000)) (((w.alloc (.cells #[.int .i64 x.v.kind, .string x.v.name, .string x.v.to, .int .i64 x.v.place, .slice x.A x.n x.c, .slice x.B x.m x.d] 24)).alloc (.cells #[.int .i64 y.v.kind, .string y.v.name, .string y.v.to, .int .i64 y.v.place, .slice y.A y.n y.c, .slice y.B y.m y.d] 24)).alloc (.cells #[.int .i64 x.v.kind, .string x.v.name, .string x.v.to, .int .i64 x.v.place, .slice x.A x.n x.c, .slice x.B x.m x.d, .int .i64 y.v.kind, .string y.v.name, .string y.v.to, .int .i64 y.v.place, .slice y.A y.n y.c, .slice y.B y.m y.d] 24)))) := by
    have := small_any (some ⟨w.heap.size + 1 + 1, 0, none⟩) 2 2 [x, y] (((w.alloc (.cells #[.int .i64 x.v.kind, .string x.v.name, .string x.v.to, .int .i64 x.v.place, .slice x.A x.n x.c, .slice x.B x.m x.d] 24)).alloc (.cells #[.int .i64 y.v.kind, .string y.v.name, .string y.v.to, .int .i64 y.v.place, .slice y.A y.n y.c, .slice y.B y.m y.d] 24)).alloc (.cells #[.int .i64 x.v.kind, .string x.v.name, .string x.v.to, .int .i64 x.v.place, .slice x.A x.n x.c, .slice x.B x.m x.d, .int .i64 y.v.kind, .string y.v.name, .string y.v.to, .int .i64 y.v.place, .slice y.A y.n y.c, .slice y.B y.m y.d] 24)) (by have := prims_two hx hy hl0 24; simpa using this) (by omega) (by rw [weightPs_two]; omega)
    rw [weightPs_two] at this
    exact this
  replace b0 := b0.alloc (.cells #[.int .i64 x.v.kind, .string x.v.name, .string x.v.to, .int .i64 x.v.place, .slice x.A x.n x.c, .slice x.B x.m x.d, .int .i64 y.v.kind, .string y.v.name, .string y.v.to, .int .i64 y.v.place, .slice y.A y.n y.c, .slice y.B y.m y.d] 24)
  replace b1 := b1.alloc (.cells #[.int .i64 x.v.kind, .string x.v.name, .string x.v.to, .int .i64 x.v.place, .slice x.A x.n x.c, .slice x.B x.m x.d, .int .i64 y.v.kind, .string y.v.name, .string y.v.to, .int .i64 y.v.place, .slice y.A y.n y.c, .slice y.B y.m y.d] 24)
  replace hl0 := hl0.alloc (.cells #[.int .i64 x.v.kind, .string x.v.name, .string x.v.to, .int .i64 x.v.place, .slice x.A x.n x.c, .slice x.B x.m x.d, .int .i64 y.v.kind, .string y.v.name, .string y.v.to, .int .i64 y.v.place, .slice y.A y.n y.c, .slice y.B y.m y.d] 24)
  unfold prV
  by_cases hg : 2 + (weightP x.v + weightP y.v) ≤ 5000
  case neg =>
    rw [decide_eq_false hg] at HM
    go_enter Try.func6, Try.ntmps6
    go_wp2_with fail
    refine HM.out.mono ?_
    rintro e m1 ⟨rfl, hl⟩
    have L0 := Lib.hid (hl0.trans hl)
    clear hl hl0 b0 b1 HM
    go_wp2_with fail
    refine (aliveS_any m1).mono ?_
    rintro e m2 ⟨rfl, hl⟩
    replace L0 := Lib.hid (L0.out.trans hl)
    clear hl
    go_wp2
    go_ret
    exact ⟨rfl, L0.out⟩
  rw [decide_eq_true hg] at HM
  have Ox := Lib.hid (hx.ok (by omega))
  have Oy := Lib.hid (hy.ok (by omega))
  cases hs : swapP x.v y.v with
  | none =>
    go_enter Try.func6, Try.ntmps6
    go_wp2_with fail
    refine HM.out.mono ?_
    generalize ((w.alloc (.cells #[.int .i64 x.v.kind, .string x.v.name, .string x.v.to, .int .i64 x.v.place, .slice x.A x.n x.c, .slice x.B x.m x.d] 24)).alloc (.cells #[.int .i64 y.v.kind, .string y.v.name, .string y.v.to, .int .i64 y.v.place, .slice y.A y.n y.c, .slice y.B y.m y.d] 24)).alloc (.cells #[.int .i64 x.v.kind, .string x.v.name, .string x.v.to, .int .i64 x.v.place, .slice x.A x.n x.c, .slice x.B x.m x.d, .int .i64 y.v.kind, .string y.v.name, .string y.v.to, .int .i64 y.v.place, .slice y.A y.n y.c, .slice y.B y.m y.d] 24) = wb at b0 b1 hl0 ⊢
    generalize w.heap.size + 1 + 1 = gz
    generalize w.heap.size + 1 = gy at b1 ⊢
    generalize w.heap.size = gx at b0 ⊢
    rintro e m1 ⟨rfl, hl⟩
    have Bx := Lib.hid (b0.later hl); have By := Lib.hid (b1.later hl); have L0 := Lib.hid (hl0.trans hl)
    replace Ox := Lib.hid (Ox.out.later L0.out); replace Oy := Lib.hid (Oy.out.later L0.out)
    clear b0 b1 hl0 hl HM
    obtain ⟨f2_0, f2_1, f2_2, f2_3, f2_4, f2_5⟩ := BoxAt.all (x := x) Bx.out
    obtain ⟨f3_0, f3_1, f3_2, f3_3, f3_4, f3_5⟩ := BoxAt.all (x := y) By.out
    have HC : Hid (Calls Try.prog 12 #[prV x, prV y] m1 (GivesT noneP m1)) := by
      have := swap_any x y _ Ox.out Oy.out
      rw [hs, show swapR none = noneP from rfl] at this
      exact this
    unfold prV at HC
    go_wp2_with fail
    refine HC.out.mono ?_
    rintro e m4 ⟨a, b, rfl, ha, hb, oa, ob, hl⟩
    dsimp only at ha hb ⊢
    clear HC
    clear f2_0 f2_1 f2_2 f2_3 f2_4 f2_5 f3_0 f3_1 f3_2 f3_3 f3_4 f3_5
    replace Bx := Lib.hid (Bx.out.later hl)
    replace By := Lib.hid (By.out.later hl)
    replace Ox := Lib.hid (Ox.out.later hl)
    replace Oy := Lib.hid (Oy.out.later hl)
    replace L0 := Lib.hid (L0.out.trans hl)
    have Oa := Lib.hid oa; have Ob := Lib.hid ob; have Va := Lib.hid ha; have Vb := Lib.hid hb
    clear hl oa ob ha hb
    obtain ⟨d0, d1, hl⟩ := two_boxes m4 #[.int .i64 a.v.kind, .string a.v.name, .string a.v.to, .int .i64 a.v.place, .slice a.A a.n a.c, .slice a.B a.m a.d] #[.int .i64 b.v.kind, .string b.v.name, .string b.v.to, .int .i64 b.v.place, .slice b.A b.n b.c, .slice b.B b.m b.d] 27
    unfold prV
    go_upto_region 5 with fail
    generalize (m4.alloc (.cells #[.int .i64 a.v.kind, .string a.v.name, .string a.v.to, .int .i64 a.v.place, .slice a.A a.n a.c, .slice a.B a.m a.d] 27)).alloc (.cells #[.int .i64 b.v.kind, .string b.v.name, .string b.v.to, .int .i64 b.v.place, .slice b.A b.n b.c, .slice b.B b.m b.d] 27) = m5 at d0 d1 hl ⊢
    generalize m4.heap.size + 1 = gb at d1 ⊢
    generalize m4.heap.size = ga at d0 ⊢
    replace Bx := Lib.hid (Bx.out.later hl)
    replace By := Lib.hid (By.out.later hl)
    replace Ox := Lib.hid (Ox.out.later hl)
    replace Oy := Lib.hid (Oy.out.later hl)
    replace Oa := Lib.hid (Oa.out.later hl)
    replace Ob := Lib.hid (Ob.out.later hl)
    replace L0 := Lib.hid (L0.out.trans hl)
    have Ba := Lib.hid d0; have Bb := Lib.hid d1
    clear d0 d1 hl
    have HC : Hid (Calls Try.prog 11 #[] m5 (Says true m5)) := by
      exact aliveS_any m5
    unfold prV at HC
    go_wp2_with fail
    refine HC.out.mono ?_
    rintro e m6 ⟨rfl, hl⟩
    clear HC
    replace Bx := Lib.hid (Bx.out.later hl)
    replace By := Lib.hid (By.out.later hl)
    replace Ba := Lib.hid (Ba.out.later hl)
    replace Bb := Lib.hid (Bb.out.later hl)
    replace Ox := Lib.hid (Ox.out.later hl)
    replace Oy := Lib.hid (Oy.out.later hl)
    replace Oa := Lib.hid (Oa.out.later hl)
    replace Ob := Lib.hid (Ob.out.later hl)
    replace L0 := Lib.hid (L0.out.trans hl)
    clear hl
    go_wp2
    go_ret
    exact ⟨rfl, L0.out⟩
  | some r =>
    obtain ⟨r1, r2⟩ := r
    have hsq := swap_square hs
    go_enter Try.func6, Try.ntmps6
    go_wp2_with fail
    refine HM.out.mono ?_
    generalize ((w.alloc (.cells #[.int .i64 x.v.kind, .string x.v.name, .string x.v.to, .int .i64 x.v.place, .slice x.A x.n x.c, .slice x.B x.m x.d] 24)).alloc (.cells #[.int .i64 y.v.kind, .string y.v.name, .string y.v.to, .int .i64 y.v.place, .slice y.A y.n y.c, .slice y.B y.m y.d] 24)).alloc (.cells #[.int .i64 x.v.kind, .string x.v.name, .string x.v.to, .int .i64 x.v.place, .slice x.A x.n x.c, .slice x.B x.m x.d, .int .i64 y.v.kind, .string y.v.name, .string y.v.to, .int .i64 y.v.place, .slice y.A y.n y.c, .slice y.B y.m y.d] 24) = wb at b0 b1 hl0 ⊢
    generalize w.heap.size + 1 + 1 = gz
    generalize w.heap.size + 1 = gy at b1 ⊢
    generalize w.heap.size = gx at b0 ⊢
    rintro e m1 ⟨rfl, hl⟩
    have Bx := Lib.hid (b0.later hl); have By := Lib.hid (b1.later hl); have L0 := Lib.hid (hl0.trans hl)
    replace Ox := Lib.hid (Ox.out.later L0.out); replace Oy := Lib.hid (Oy.out.later L0.out)
    clear b0 b1 hl0 hl HM
    obtain ⟨f2_0, f2_1, f2_2, f2_3, f2_4, f2_5⟩ := BoxAt.all (x := x) Bx.out
    obtain ⟨f3_0, f3_1, f3_2, f3_3, f3_4, f3_5⟩ := BoxAt.all (x := y) By.out
    have HC : Hid (Calls Try.prog 12 #[prV x, prV y] m1 (GivesT (r1, r2, true) m1)) := by
      have := swap_any x y _ Ox.out Oy.out
      rw [hs, show swapR (some (r1, r2)) = (r1, r2, true) from rfl] at this
      exact this
    unfold prV at HC
    go_wp2_with fail
    refine HC.out.mono ?_
    rintro e m4 ⟨a, b, rfl, ha, hb, oa, ob, hl⟩
    dsimp only at ha hb ⊢
    clear HC
    clear f2_0 f2_1 f2_2 f2_3 f2_4 f2_5 f3_0 f3_1 f3_2 f3_3 f3_4 f3_5
    replace Bx := Lib.hid (Bx.out.later hl)
    replace By := Lib.hid (By.out.later hl)
    replace Ox := Lib.hid (Ox.out.later hl)
    replace Oy := Lib.hid (Oy.out.later hl)
    replace L0 := Lib.hid (L0.out.trans hl)
    have Oa := Lib.hid oa; have Ob := Lib.hid ob; have Va := Lib.hid ha; have Vb := Lib.hid hb
    clear hl oa ob ha hb
    obtain ⟨d0, d1, hl⟩ := two_boxes m4 #[.int .i64 a.v.kind, .string a.v.name, .string a.v.to, .int .i64 a.v.place, .slice a.A a.n a.c, .slice a.B a.m a.d] #[.int .i64 b.v.kind, .string b.v.name, .string b.v.to, .int .i64 b.v.place, .slice b.A b.n b.c, .slice b.B b.m b.d] 27
    unfold prV
    go_upto_region 6 with fail
    generalize (m4.alloc (.cells #[.int .i64 a.v.kind, .string a.v.name, .string a.v.to, .int .i64 a.v.place, .slice a.A a.n a.c, .slice a.B a.m a.d] 27)).alloc (.cells #[.int .i64 b.v.kind, .string b.v.name, .string b.v.to, .int .i64 b.v.place, .slice b.A b.n b.c, .slice b.B b.m b.d] 27) = m5 at d0 d1 hl ⊢
    generalize m4.heap.size + 1 = gb at d1 ⊢
    generalize m4.heap.size = ga at d0 ⊢
    replace Bx := Lib.hid (Bx.out.later hl)
    replace By := Lib.hid (By.out.later hl)
    replace Ox := Lib.hid (Ox.out.later hl)
    replace Oy := Lib.hid (Oy.out.later hl)
    replace Oa := Lib.hid (Oa.out.later hl)
    replace Ob := Lib.hid (Ob.out.later hl)
    replace L0 := Lib.hid (L0.out.trans hl)
    have Ba := Lib.hid d0; have Bb := Lib.hid d1
    clear d0 d1 hl
    have hsw : swapR (swapP (invertP x.v) a.v) = (y.v, invertP r2, true) := by rw [Va.out, hsq]; rfl
    refine sq_region rfl (by kernel_rfl) ⟨_, rfl, rfl, rfl, rfl, by kernel_rfl⟩ ⟨_, rfl, rfl, rfl, rfl, by kernel_rfl⟩ ⟨_, rfl, rfl, rfl, rfl, by kernel_rfl⟩ ⟨_, rfl, rfl, rfl, rfl, by kernel_rfl⟩ ⟨_, rfl, rfl, rfl, rfl, by kernel_rfl⟩ ⟨_, rfl, rfl, rfl, rfl, by kernel_rfl⟩ ⟨_, rfl, rfl, rfl, rfl, by kernel_rfl⟩ ⟨_, rfl, rfl, rfl, rfl, by kernel_rfl⟩ ⟨_, rfl, rfl, rfl, rfl, by kernel_rfl⟩ ⟨_, rfl, rfl, rfl, rfl, by kernel_rfl⟩ ⟨_, rfl, rfl, rfl, rfl, by kernel_rfl⟩ ⟨_, rfl, rfl, rfl, rfl, by kernel_rfl⟩ ⟨_, rfl, rfl, rfl, rfl, by kernel_rfl⟩ (of_decide_eq_true rfl) rfl rfl Bx.out Ba.out Ox.out Oa.out hsw (fun D a' m9 so e8 e9 e10 wd => ?_)
    obtain ⟨hcv, hdv, hco, hdo⟩ := wd.wc rfl
    obtain ⟨_, cs8, _, hb8, hc8⟩ := wd.w8 rfl
    obtain ⟨_, cs9, _, hb9, hc9⟩ := wd.w9 rfl
    have hcs8 := hc8 rfl
    have hcs9 := hc9 rfl
    subst hcs8 hcs9
    have hl := wd.later
    clear hc8 hc9 hsw wd
    obtain ⟨Di, Dj, c, d, gc, gd⟩ := D
    dsimp only at *
    have ha := so.is
    simp only [List.foldl_cons, List.foldl_nil] at ha
    rw [e8, e9, e10] at ha
    generalize a'.eval (.tmp 28) = v28 at ha
    generalize a'.eval (.tmp 29) = v29 at ha
    generalize a'.eval (.tmp 30) = v30 at ha
    generalize a'.eval (.tmp 31) = v31 at ha
    generalize a'.eval (.tmp 27) = v27 at ha
    generalize a'.eval (.tmp 32) = v32 at ha
    generalize a'.eval (.tmp 33) = v33 at ha
    generalize a'.eval (.tmp 34) = v34 at ha
    clear so e8 e9 e10
    subst ha
    simp only [Act.put, List.setIfInBounds_toArray, List.set_cons_zero, List.set_cons_succ]
    replace Bx := Lib.hid (Bx.out.later hl)
    replace By := Lib.hid (By.out.later hl)
    replace Ba := Lib.hid (Ba.out.later hl)
    replace Bb := Lib.hid (Bb.out.later hl)
    replace Ox := Lib.hid (Ox.out.later hl)
    replace Oy := Lib.hid (Oy.out.later hl)
    replace Oa := Lib.hid (Oa.out.later hl)
    replace Ob := Lib.hid (Ob.out.later hl)
    replace L0 := Lib.hid (L0.out.trans hl)
    have Oc := Lib.hid hco; have Od := Lib.hid hdo; have Vc := Lib.hid hcv; have Vd := Lib.hid hdv; have Bc := Lib.hid hb8; have Bd := Lib.hid hb9
    clear hl hco hdo hcv hdv hb8 hb9
    have CA : Hid (∀ w', Later m9 w' → Calls Try.prog 11 #[] w' (Says true w')) := fun w' _ => aliveS_any w'
    have C2 : Hid (∀ w', Later m9 w' → Calls Try.prog 14 #[prV c, prV y] w' (Says true w')) := fun w' h => by
      have := refSame_v (Oc.out.later h).at (Oy.out.later h).at
      rw [Vc.out, sameP_self] at this
      exact this
    have C3 : Hid (∀ w', Later m9 w' → Calls Try.prog 23 #[prV b] w' (GivesP (invertP r2) w')) := fun w' h => by
      have := invert_v (Ob.out.later h).at
      rw [Vb.out] at this
      exact this
    have C4 : Hid (∀ (w' : World) (v : Value), Later m9 w' → PrimAt w' v (invertP r2) → Calls Try.prog 22 #[prV d, v] w' (Says true w')) := fun w' v h hv => by
      have := same_v (Od.out.later h).at hv
      rw [Vd.out, sameP_self] at this
      exact this
    go_upto_region 7 with fail
    clear hs hsq
    have HS : Hid (∀ w', Later m9 w' → w'.cell? ⟨gc, 0, none⟩ = some (.int .i64 c.v.kind) ∧ w'.cell? ⟨gc, 1, none⟩ = some (.string c.v.name) ∧ w'.cell? ⟨gc, 2, none⟩ = some (.string c.v.to) ∧ w'.cell? ⟨gc, 3, none⟩ = some (.int .i64 c.v.place) ∧ w'.cell? ⟨gc, 4, none⟩ = some (.slice c.A c.n c.c) ∧ w'.cell? ⟨gc, 5, none⟩ = some (.slice c.B c.m c.d) ∧ w'.cell? ⟨gy, 0, none⟩ = some (.int .i64 y.v.kind) ∧ w'.cell? ⟨gy, 1, none⟩ = some (.string y.v.name) ∧ w'.cell? ⟨gy, 2, none⟩ = some (.string y.v.to) ∧ w'.cell? ⟨gy, 3, none⟩ = some (.int .i64 y.v.place) ∧ w'.cell? ⟨gy, 4, none⟩ = some (.slice y.A y.n y.c) ∧ w'.cell? ⟨gy, 5, none⟩ = some (.slice y.B y.m y.d) ∧ w'.cell? ⟨gd, 0, none⟩ = some (.int .i64 d.v.kind) ∧ w'.cell? ⟨gd, 1, none⟩ = some (.string d.v.name) ∧ w'.cell? ⟨gd, 2, none⟩ = some (.string d.v.to) ∧ w'.cell? ⟨gd, 3, none⟩ = some (.int .i64 d.v.place) ∧ w'.cell? ⟨gd, 4, none⟩ = some (.slice d.A d.n d.c) ∧ w'.cell? ⟨gd, 5, none⟩ = some (.slice d.B d.m d.d) ∧ w'.cell? ⟨gb, 0, none⟩ = some (.int .i64 b.v.kind) ∧ w'.cell? ⟨gb, 1, none⟩ = some (.string b.v.name) ∧ w'.cell? ⟨gb, 2, none⟩ = some (.string b.v.to) ∧ w'.cell? ⟨gb, 3, none⟩ = some (.int .i64 b.v.place) ∧ w'.cell? ⟨gb, 4, none⟩ = some (.slice b.A b.n b.c) ∧ w'.cell? ⟨gb, 5, none⟩ = some (.slice b.B b.m b.d)) := fun w' hl => by
      have h0 := BoxAt.all (x := c) (Bc.out.later hl)
      have h1 := BoxAt.all (x := y) (By.out.later hl)
      have h2 := BoxAt.all (x := d) (Bd.out.later hl)
      have h3 := BoxAt.all (x := b) (Bb.out.later hl)
      exact ⟨h0.1, h0.2.1, h0.2.2.1, h0.2.2.2.1, h0.2.2.2.2.1, h0.2.2.2.2.2, h1.1, h1.2.1, h1.2.2.1, h1.2.2.2.1, h1.2.2.2.2.1, h1.2.2.2.2.2, h2.1, h2.2.1, h2.2.2.1, h2.2.2.2.1, h2.2.2.2.2.1, h2.2.2.2.2.2, h3⟩
    have s0 := HS.out m9.drew (Later.refl _).drew
    have L0_ : Hid (Later m9 m9) := Later.refl m9
    unfold prV at C2 C3 C4
    go_region_held3 (fun w' => w'.cell? ⟨gc, 0, none⟩ = some (.int .i64 c.v.kind) ∧ w'.cell? ⟨gc, 1, none⟩ = some (.string c.v.name) ∧ w'.cell? ⟨gc, 2, none⟩ = some (.string c.v.to) ∧ w'.cell? ⟨gc, 3, none⟩ = some (.int .i64 c.v.place) ∧ w'.cell? ⟨gc, 4, none⟩ = some (.slice c.A c.n c.c) ∧ w'.cell? ⟨gc, 5, none⟩ = some (.slice c.B c.m c.d) ∧ w'.cell? ⟨gy, 0, none⟩ = some (.int .i64 y.v.kind) ∧ w'.cell? ⟨gy, 1, none⟩ = some (.string y.v.name) ∧ w'.cell? ⟨gy, 2, none⟩ = some (.string y.v.to) ∧ w'.cell? ⟨gy, 3, none⟩ = some (.int .i64 y.v.place) ∧ w'.cell? ⟨gy, 4, none⟩ = some (.slice y.A y.n y.c) ∧ w'.cell? ⟨gy, 5, none⟩ = some (.slice y.B y.m y.d) ∧ w'.cell? ⟨gd, 0, none⟩ = some (.int .i64 d.v.kind) ∧ w'.cell? ⟨gd, 1, none⟩ = some (.string d.v.name) ∧ w'.cell? ⟨gd, 2, none⟩ = some (.string d.v.to) ∧ w'.cell? ⟨gd, 3, none⟩ = some (.int .i64 d.v.place) ∧ w'.cell? ⟨gd, 4, none⟩ = some (.slice d.A d.n d.c) ∧ w'.cell? ⟨gd, 5, none⟩ = some (.slice d.B d.m d.d) ∧ w'.cell? ⟨gb, 0, none⟩ = some (.int .i64 b.v.kind) ∧ w'.cell? ⟨gb, 1, none⟩ = some (.string b.v.name) ∧ w'.cell? ⟨gb, 2, none⟩ = some (.string b.v.to) ∧ w'.cell? ⟨gb, 3, none⟩ = some (.int .i64 b.v.place) ∧ w'.cell? ⟨gb, 4, none⟩ = some (.slice b.A b.n b.c) ∧ w'.cell? ⟨gb, 5, none⟩ = some (.slice b.B b.m b.d))
      (first | with_reducible exact s4 | with_reducible exact s3 | with_reducible exact s2 | with_reducible exact s1 | with_reducible exact s0 | exact s0)
      (first
      | (go_at_call 22; have hq := L3_; clear hq; refine (C4.out _ vz3 (Later.trans L3_.out (by first | exact Later.refl _ | exact (Later.refl _).drew | exact (Later.refl _).drewN _)) (Z3.out.later (by first | exact Later.refl _ | exact (Later.refl _).drew | exact (Later.refl _).drewN _))).mono ?_; rintro e n4 ⟨rfl, hl4⟩; have L4_ : Hid (Later m9 n4) := Later.trans (Later.trans L3_.out (by first | exact Later.refl _ | exact (Later.refl _).drew | exact (Later.refl _).drewN _)) hl4; have s4 := HS.out n4 L4_.out; clear hl4)
      | (go_at_call 23; have hq := L2_; clear hq; refine (C3.out _ (Later.trans L2_.out (by first | exact Later.refl _ | exact (Later.refl _).drew | exact (Later.refl _).drewN _))).mono ?_; rintro e n3 ⟨vz3, rfl, hvz3, hl3⟩; have L3_ : Hid (Later m9 n3) := Later.trans (Later.trans L2_.out (by first | exact Later.refl _ | exact (Later.refl _).drew | exact (Later.refl _).drewN _)) hl3; have s3 := HS.out n3 L3_.out; have Z3 := Lib.hid hvz3; clear hvz3; clear hl3)
      | (go_at_call 14; have hq := L1_; clear hq; refine (C2.out _ (Later.trans L1_.out (by first | exact Later.refl _ | exact (Later.refl _).drew | exact (Later.refl _).drewN _))).mono ?_; rintro e n2 ⟨rfl, hl2⟩; have L2_ : Hid (Later m9 n2) := Later.trans (Later.trans L1_.out (by first | exact Later.refl _ | exact (Later.refl _).drew | exact (Later.refl _).drewN _)) hl2; have s2 := HS.out n2 L2_.out; clear hl2)
      | (go_at_call 11; refine (CA.out _ (Later.trans L0_.out (by first | exact Later.refl _ | exact (Later.refl _).drew | exact (Later.refl _).drewN _))).mono ?_; rintro e n1 ⟨rfl, hl1⟩; have L1_ : Hid (Later m9 n1) := Later.trans (Later.trans L0_.out (by first | exact Later.refl _ | exact (Later.refl _).drew | exact (Later.refl _).drewN _)) hl1; have s1 := HS.out n1 L1_.out; clear hl1))
    go_wp2
    go_ret
    exact ⟨rfl, L0.out.trans L4_.out⟩

end Go.Proofs.Ytalgapoigkbiaaa
