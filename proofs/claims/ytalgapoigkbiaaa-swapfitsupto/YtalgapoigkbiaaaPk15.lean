import Derived.Test.YtalgapoigkbiaaaPk11
import Derived.Test.YtalgapoigkbiaaaPk14
import Derived.Test.YtalgapoigkbiaaaPk8

/-
  What the law SwapFits comes to, as a call.
-/
namespace Go.Proofs.Ytalgapoigkbiaaa
open Go.RowKit Go.Maps

set_option maxRecDepth 100000 in
set_option maxHeartbeats 6400000 in
theorem swapFits_walk (A : Option Addr) (n c : Nat) (os : List OpC) (x y : PrC) (w : World) (hs : CameS w A n os) (hx : CameP w x) (hy : CameP w y) : Calls Try.prog 4 #[.slice A n c, prV x, prV y] w (Says true w) := by
  have hw := hx.weigh
  have hw2 := hy.weigh
  obtain ⟨b0, b1, hl0⟩ := two_boxes w #[.int .i64 x.v.kind, .string x.v.name, .string x.v.to, .int .i64 x.v.place, .slice x.A x.n x.c, .slice x.B x.m x.d] #[.int .i64 y.v.kind, .string y.v.name, .string y.v.to, .int .i64 y.v.place, .slice y.A y.n y.c, .slice y.B y.m y.d] 24
  have HF := Lib.hid (few_any A n c os ((w.alloc (.cells #[.int .i64 x.v.kind, .string x.v.name, .string x.v.to, .int .i64 x.v.place, .slice x.A x.n x.c, .slice x.B x.m x.d] 24)).alloc (.cells #[.int .i64 y.v.kind, .string y.v.name, .string y.v.to, .int .i64 y.v.place, .slice y.A y.n y.c, .slice y.B y.m y.d] 24)) (hs.script.later hl0) hs.many hs.weigh)
  have hbd : fewN n (weightL os) ≤ 4000000 := by have h1 := hs.many; have h2 := hs.weigh; unfold fewN; split <;> omega
  have hz := @few_zero n (weightL os)
  generalize fewN n (weightL os) = fw at HF hbd hz
  unfold prV
  by_cases h0 : fw = 0
  case neg =>
    have hpos : (0 : Int) < fw := by omega
    have hd : decide ((0 : Int) < fw) = true := by simp; omega
    go_enter Try.func4, Try.ntmps4
    go_wp2_with fail
    refine HF.out.mono ?_
    rintro e m1 ⟨rfl, hl⟩
    have L0 := Lib.hid (hl0.trans hl)
    clear hl hl0 b0 b1 HF
    go_wp2_with fail
    refine (aliveS_any m1).mono ?_
    rintro e m2 ⟨rfl, hl⟩
    replace L0 := Lib.hid (L0.out.trans hl)
    clear hl
    go_wp2
    go_ret
    exact ⟨rfl, L0.out⟩
  obtain ⟨hn80, hW80⟩ := hz.1 h0
  subst h0
  have HX := Lib.hid hx; have HY := Lib.hid hy; have HS := Lib.hid hs
  clear hx hy hs hz
  go_enter Try.func4, Try.ntmps4
  go_wp2_with fail
  refine HF.out.mono ?_
  generalize (w.alloc (.cells #[.int .i64 x.v.kind, .string x.v.name, .string x.v.to, .int .i64 x.v.place, .slice x.A x.n x.c, .slice x.B x.m x.d] 24)).alloc (.cells #[.int .i64 y.v.kind, .string y.v.name, .string y.v.to, .int .i64 y.v.place, .slice y.A y.n y.c, .slice y.B y.m y.d] 24) = wb at b0 b1 hl0 ⊢
  generalize w.heap.size + 1 = gy at b1 ⊢
  generalize hgx : w.heap.size = gx at b0 ⊢
  rintro e m1 ⟨rfl, hl⟩
  have Bx := Lib.hid (b0.later hl); have By := Lib.hid (b1.later hl); have L0 := Lib.hid (hl0.trans hl)
  clear b0 b1 hl0 hl HF
  obtain ⟨f2_0, f2_1, f2_2, f2_3, f2_4, f2_5⟩ := BoxAt.all (x := x) Bx.out
  obtain ⟨f3_0, f3_1, f3_2, f3_3, f3_4, f3_5⟩ := BoxAt.all (x := y) By.out
  by_cases hg : 2 + (weightP x.v + weightP y.v) ≤ 5000
  case neg =>
    have HC : Hid (Calls Try.prog 10 #[.slice (some ⟨m1.heap.size, 0, none⟩) 2 2] (m1.alloc (.cells #[.int .i64 x.v.kind, .string x.v.name, .string x.v.to, .int .i64 x.v.place, .slice x.A x.n x.c, .slice x.B x.m x.d, .int .i64 y.v.kind, .string y.v.name, .string y.v.to, .int .i64 y.v.place, .slice y.A y.n y.c, .slice y.B y.m y.d] 24)) (Says false (m1.alloc (.cells #[.int .i64 x.v.kind, .string x.v.name, .string x.v.to, .int .i64 x.v.place, .slice x.A x.n x.c, .slice x.B x.m x.d, .int .i64 y.v.kind, .string y.v.name, .string y.v.to, .int .i64 y.v.place, .slice y.A y.n y.c, .slice y.B y.m y.d] 24)))) := by
      have := small_any (some ⟨m1.heap.size, 0, none⟩) 2 2 [x, y] (m1.alloc (.cells #[.int .i64 x.v.kind, .string x.v.name, .string x.v.to, .int .i64 x.v.place, .slice x.A x.n x.c, .slice x.B x.m x.d, .int .i64 y.v.kind, .string y.v.name, .string y.v.to, .int .i64 y.v.place, .slice y.A y.n y.c, .slice y.B y.m y.d] 24)) (prims_two HX.out HY.out L0.out 24) (by omega) (by rw [weightPs_two]; omega)
      rw [weightPs_two, decide_eq_false hg] at this
      exact this
    go_wp2_with fail
    refine HC.out.mono ?_
    rintro e m4 ⟨rfl, hl'⟩
    have hl : Later m1 m4 := ((Later.refl m1).alloc _).trans hl'
    clear HC hl'
    clear f2_0 f2_1 f2_2 f2_3 f2_4 f2_5 f3_0 f3_1 f3_2 f3_3 f3_4 f3_5
    replace Bx := Lib.hid (Bx.out.later hl)
    replace By := Lib.hid (By.out.later hl)
    replace L0 := Lib.hid (L0.out.trans hl)
    clear hl
    have HC : Hid (Calls Try.prog 11 #[] m4 (Says true m4)) := by
      exact aliveS_any m4
    unfold prV at HC
    go_wp2_with fail
    refine HC.out.mono ?_
    rintro e m5 ⟨rfl, hl⟩
    clear HC
    replace Bx := Lib.hid (Bx.out.later hl)
    replace By := Lib.hid (By.out.later hl)
    replace L0 := Lib.hid (L0.out.trans hl)
    clear hl
    go_wp2
    go_ret
    exact ⟨rfl, L0.out⟩
  have HC : Hid (Calls Try.prog 10 #[.slice (some ⟨m1.heap.size, 0, none⟩) 2 2] (m1.alloc (.cells #[.int .i64 x.v.kind, .string x.v.name, .string x.v.to, .int .i64 x.v.place, .slice x.A x.n x.c, .slice x.B x.m x.d, .int .i64 y.v.kind, .string y.v.name, .string y.v.to, .int .i64 y.v.place, .slice y.A y.n y.c, .slice y.B y.m y.d] 24)) (Says true (m1.alloc (.cells #[.int .i64 x.v.kind, .string x.v.name, .string x.v.to, .int .i64 x.v.place, .slice x.A x.n x.c, .slice x.B x.m x.d, .int .i64 y.v.kind, .string y.v.name, .string y.v.to, .int .i64 y.v.place, .slice y.A y.n y.c, .slice y.B y.m y.d] 24)))) := by
    have := small_any (some ⟨m1.heap.size, 0, none⟩) 2 2 [x, y] (m1.alloc (.cells #[.int .i64 x.v.kind, .string x.v.name, .string x.v.to, .int .i64 x.v.place, .slice x.A x.n x.c, .slice x.B x.m x.d, .int .i64 y.v.kind, .string y.v.name, .string y.v.to, .int .i64 y.v.place, .slice y.A y.n y.c, .slice y.B y.m y.d] 24)) (prims_two HX.out HY.out L0.out 24) (by omega) (by rw [weightPs_two]; omega)
    rw [weightPs_two, decide_eq_true hg] at this
    exact this
  go_wp2_with fail
  refine HC.out.mono ?_
  rintro e m4 ⟨rfl, hl'⟩
  have hl : Later m1 m4 := ((Later.refl m1).alloc _).trans hl'
  clear HC hl'
  clear f2_0 f2_1 f2_2 f2_3 f2_4 f2_5 f3_0 f3_1 f3_2 f3_3 f3_4 f3_5
  replace Bx := Lib.hid (Bx.out.later hl)
  replace By := Lib.hid (By.out.later hl)
  replace L0 := Lib.hid (L0.out.trans hl)
  clear hl
  have Ox := Lib.hid ((HX.out.ok (by omega)).later L0.out); have Oy := Lib.hid ((HY.out.ok (by omega)).later L0.out)
  have hxm : x.m ≤ 5000 := by have h2 := HX.out.new.len; unfold weightP at hg; omega
  have hym : y.m ≤ 5000 := by have h2 := HY.out.new.len; unfold weightP at hg; omega
  have hxl := HX.out.new.len; have hyl := HY.out.new.len
  have HC := Lib.hid (made_any A n c os m4 (HS.out.script.later L0.out) hn80 hW80)
  have hfit := (made_fits HS.out.script hW80).sizedS.mono hn80 (Nat.le_refl 8000)
  generalize madeT os = tr at HC hfit
  go_wp2_with fail
  refine HC.out.mono ?_
  rintro e m5 ⟨pt, Bt_, v, rfl, ht, -, -, hBt0, hl⟩
  have hBt : w.heap.size ≤ Bt_ := Nat.le_trans L0.out.le hBt0
  clear HC hBt0
  replace Bx := Lib.hid (Bx.out.later hl)
  replace By := Lib.hid (By.out.later hl)
  replace Ox := Lib.hid (Ox.out.later hl)
  replace Oy := Lib.hid (Oy.out.later hl)
  replace L0 := Lib.hid (L0.out.trans hl)
  have Tt := Lib.hid ht
  have hrise := ht.files.rise
  clear hl ht
  have HC := Lib.hid (copy_any pt Bt_ tr m5 Tt.out (by have := hfit.many; omega) (hfit.lines (by omega)))
  go_wp2_with fail
  refine HC.out.mono ?_
  rintro e m6 ⟨pu, Bu_, rfl, ht, -, hBu0, hl⟩
  have hBu : w.heap.size ≤ Bu_ := Nat.le_trans L0.out.le hBu0
  have hne : Bt_ ≠ Bu_ := by have := Tt.out.files.lt; omega
  clear HC hBu0
  replace Tt := Lib.hid (Tt.out.later hl)
  replace Bx := Lib.hid (Bx.out.later hl)
  replace By := Lib.hid (By.out.later hl)
  replace Ox := Lib.hid (Ox.out.later hl)
  replace Oy := Lib.hid (Oy.out.later hl)
  replace L0 := Lib.hid (L0.out.trans hl)
  have Tu := Lib.hid ht
  clear hl ht
  obtain ⟨t1, e1, hap⟩ : ∃ t1 e1, applyP tr x.v = (t1, e1) := ⟨_, _, rfl⟩
  have hs1 := hfit.apply x.v
  rw [hap] at hs1
  dsimp only at hs1
  have HAP := Lib.hid hap; have HFIT := Lib.hid hfit; have HS1 := Lib.hid hs1
  clear hap hfit hs1
  by_cases he1 : e1 = 0
  case neg =>
    have hd1 : (e1 != 0) = true := by rw [bne_iff_ne]; exact he1
    obtain ⟨f7_0, f7_1, f7_2, f7_3, f7_4, f7_5⟩ := BoxAt.all (x := x) Bx.out
    have HC : Hid (Calls Try.prog 20 #[.pointer (some ⟨pt, 0, none⟩), prV x] m6 (Does (t1, e1) pt Bt_ m6)) := by
      have := apply_any x pt Bt_ 80 8000 tr m6 Tt.out Ox.out HFIT.out (by omega) (by omega)
      rw [HAP.out] at this
      exact this
    unfold prV at HC
    go_wp2_with fail
    refine HC.out.mono ?_
    rintro e m8 ⟨rfl, ht, hg⟩
    clear HC
    dsimp only at ht ⊢
    clear f7_0 f7_1 f7_2 f7_3 f7_4 f7_5
    obtain ⟨es, cc, hm⟩ := Tt.out.files.map
    replace Bx := Lib.hid (Bx.out.turnS hg hm)
    replace By := Lib.hid (By.out.turnS hg hm)
    replace Ox := Lib.hid (Ox.out.turnS hg hm)
    replace Oy := Lib.hid (Oy.out.turnS hg hm)
    replace Tu := Lib.hid (Tu.out.other hg (Ne.symm hne) hm)
    replace L0 := Lib.hid (L0.out.turn hg hBt)
    replace Tt := Lib.hid ht
    clear hm hg ht
    have HC : Hid (Calls Try.prog 11 #[] m8 (Says true m8)) := by
      exact aliveS_any m8
    unfold prV at HC
    go_wp2_with fail
    refine HC.out.mono ?_
    rintro e m9 ⟨rfl, hl⟩
    clear HC
    replace Tt := Lib.hid (Tt.out.later hl)
    replace Tu := Lib.hid (Tu.out.later hl)
    replace Bx := Lib.hid (Bx.out.later hl)
    replace By := Lib.hid (By.out.later hl)
    replace Ox := Lib.hid (Ox.out.later hl)
    replace Oy := Lib.hid (Oy.out.later hl)
    replace L0 := Lib.hid (L0.out.trans hl)
    clear hl
    go_wp2
    go_ret
    exact ⟨rfl, L0.out⟩
  subst he1
  obtain ⟨f7_0, f7_1, f7_2, f7_3, f7_4, f7_5⟩ := BoxAt.all (x := x) Bx.out
  have HC : Hid (Calls Try.prog 20 #[.pointer (some ⟨pt, 0, none⟩), prV x] m6 (Does (t1, 0) pt Bt_ m6)) := by
    have := apply_any x pt Bt_ 80 8000 tr m6 Tt.out Ox.out HFIT.out (by omega) (by omega)
    rw [HAP.out] at this
    exact this
  unfold prV at HC
  go_wp2_with fail
  refine HC.out.mono ?_
  rintro e m8 ⟨rfl, ht, hg⟩
  clear HC
  dsimp only at ht ⊢
  clear f7_0 f7_1 f7_2 f7_3 f7_4 f7_5
  obtain ⟨es, cc, hm⟩ := Tt.out.files.map
  replace Bx := Lib.hid (Bx.out.turnS hg hm)
  replace By := Lib.hid (By.out.turnS hg hm)
  replace Ox := Lib.hid (Ox.out.turnS hg hm)
  replace Oy := Lib.hid (Oy.out.turnS hg hm)
  replace Tu := Lib.hid (Tu.out.other hg (Ne.symm hne) hm)
  replace L0 := Lib.hid (L0.out.turn hg hBt)
  replace Tt := Lib.hid ht
  clear hm hg ht
  obtain ⟨t2, e2, hap2⟩ : ∃ t2 e2, applyP t1 y.v = (t2, e2) := ⟨_, _, rfl⟩
  have hs2 := HS1.out.apply y.v
  rw [hap2] at hs2
  dsimp only at hs2
  have HAP2 := Lib.hid hap2; have HS2 := Lib.hid hs2
  clear hap2 hs2
  by_cases he2 : e2 = 0
  case neg =>
    have hd2 : (e2 != 0) = true := by rw [bne_iff_ne]; exact he2
    obtain ⟨f9_0, f9_1, f9_2, f9_3, f9_4, f9_5⟩ := BoxAt.all (x := y) By.out
    have HC : Hid (Calls Try.prog 20 #[.pointer (some ⟨pt, 0, none⟩), prV y] m8 (Does (t2, e2) pt Bt_ m8)) := by
      have := apply_any y pt Bt_ 81 (8000 + x.v.new.length) t1 m8 Tt.out Oy.out HS1.out (by omega) (by omega)
      rw [HAP2.out] at this
      exact this
    unfold prV at HC
    go_wp2_with fail
    refine HC.out.mono ?_
    rintro e m10 ⟨rfl, ht, hg⟩
    clear HC
    dsimp only at ht ⊢
    clear f9_0 f9_1 f9_2 f9_3 f9_4 f9_5
    obtain ⟨es, cc, hm⟩ := Tt.out.files.map
    replace Bx := Lib.hid (Bx.out.turnS hg hm)
    replace By := Lib.hid (By.out.turnS hg hm)
    replace Ox := Lib.hid (Ox.out.turnS hg hm)
    replace Oy := Lib.hid (Oy.out.turnS hg hm)
    replace Tu := Lib.hid (Tu.out.other hg (Ne.symm hne) hm)
    replace L0 := Lib.hid (L0.out.turn hg hBt)
    replace Tt := Lib.hid ht
    clear hm hg ht
    have HC : Hid (Calls Try.prog 11 #[] m10 (Says true m10)) := by
      exact aliveS_any m10
    unfold prV at HC
    go_wp2_with fail
    refine HC.out.mono ?_
    rintro e m11 ⟨rfl, hl⟩
    clear HC
    replace Tt := Lib.hid (Tt.out.later hl)
    replace Tu := Lib.hid (Tu.out.later hl)
    replace Bx := Lib.hid (Bx.out.later hl)
    replace By := Lib.hid (By.out.later hl)
    replace Ox := Lib.hid (Ox.out.later hl)
    replace Oy := Lib.hid (Oy.out.later hl)
    replace L0 := Lib.hid (L0.out.trans hl)
    clear hl
    go_wp2
    go_ret
    exact ⟨rfl, L0.out⟩
  subst he2
  obtain ⟨f9_0, f9_1, f9_2, f9_3, f9_4, f9_5⟩ := BoxAt.all (x := y) By.out
  have HC : Hid (Calls Try.prog 20 #[.pointer (some ⟨pt, 0, none⟩), prV y] m8 (Does (t2, 0) pt Bt_ m8)) := by
    have := apply_any y pt Bt_ 81 (8000 + x.v.new.length) t1 m8 Tt.out Oy.out HS1.out (by omega) (by omega)
    rw [HAP2.out] at this
    exact this
  unfold prV at HC
  go_wp2_with fail
  refine HC.out.mono ?_
  rintro e m10 ⟨rfl, ht, hg⟩
  clear HC
  dsimp only at ht ⊢
  clear f9_0 f9_1 f9_2 f9_3 f9_4 f9_5
  obtain ⟨es, cc, hm⟩ := Tt.out.files.map
  replace Bx := Lib.hid (Bx.out.turnS hg hm)
  replace By := Lib.hid (By.out.turnS hg hm)
  replace Ox := Lib.hid (Ox.out.turnS hg hm)
  replace Oy := Lib.hid (Oy.out.turnS hg hm)
  replace Tu := Lib.hid (Tu.out.other hg (Ne.symm hne) hm)
  replace L0 := Lib.hid (L0.out.turn hg hBt)
  replace Tt := Lib.hid ht
  clear hm hg ht
  obtain ⟨f11_0, f11_1, f11_2, f11_3, f11_4, f11_5⟩ := BoxAt.all (x := x) Bx.out
  obtain ⟨f12_0, f12_1, f12_2, f12_3, f12_4, f12_5⟩ := BoxAt.all (x := y) By.out
  cases hsw : swapP x.v y.v with
  | none =>
    have HC : Hid (Calls Try.prog 12 #[prV x, prV y] m10 (GivesT noneP m10)) := by
      have := swap_any x y _ Ox.out Oy.out
      rw [hsw, show swapR none = noneP from rfl] at this
      exact this
    unfold prV at HC
    go_wp2_with fail
    refine HC.out.mono ?_
    rintro e m13 ⟨a, b, rfl, ha, hb, oa, ob, hl⟩
    dsimp only at ha hb ⊢
    clear HC
    clear f11_0 f11_1 f11_2 f11_3 f11_4 f11_5 f12_0 f12_1 f12_2 f12_3 f12_4 f12_5
    replace Tt := Lib.hid (Tt.out.later hl)
    replace Tu := Lib.hid (Tu.out.later hl)
    replace Bx := Lib.hid (Bx.out.later hl)
    replace By := Lib.hid (By.out.later hl)
    replace Ox := Lib.hid (Ox.out.later hl)
    replace Oy := Lib.hid (Oy.out.later hl)
    replace L0 := Lib.hid (L0.out.trans hl)
    have Oa := Lib.hid oa; have Ob := Lib.hid ob; have Va := Lib.hid ha; have Vb := Lib.hid hb
    clear hl oa ob ha hb
    obtain ⟨d0, d1, hl⟩ := two_boxes m13 #[.int .i64 a.v.kind, .string a.v.name, .string a.v.to, .int .i64 a.v.place, .slice a.A a.n a.c, .slice a.B a.m a.d] #[.int .i64 b.v.kind, .string b.v.name, .string b.v.to, .int .i64 b.v.place, .slice b.A b.n b.c, .slice b.B b.m b.d] 27
    unfold prV
    go_upto_region 11 with fail
    generalize (m13.alloc (.cells #[.int .i64 a.v.kind, .string a.v.name, .string a.v.to, .int .i64 a.v.place, .slice a.A a.n a.c, .slice a.B a.m a.d] 27)).alloc (.cells #[.int .i64 b.v.kind, .string b.v.name, .string b.v.to, .int .i64 b.v.place, .slice b.A b.n b.c, .slice b.B b.m b.d] 27) = m14 at d0 d1 hl ⊢
    generalize m13.heap.size + 1 = gb at d1 ⊢
    generalize m13.heap.size = ga at d0 ⊢
    replace Tt := Lib.hid (Tt.out.later hl)
    replace Tu := Lib.hid (Tu.out.later hl)
    replace Bx := Lib.hid (Bx.out.later hl)
    replace By := Lib.hid (By.out.later hl)
    replace Ox := Lib.hid (Ox.out.later hl)
    replace Oy := Lib.hid (Oy.out.later hl)
    replace Oa := Lib.hid (Oa.out.later hl)
    replace Ob := Lib.hid (Ob.out.later hl)
    replace L0 := Lib.hid (L0.out.trans hl)
    have Ba := Lib.hid d0; have Bb := Lib.hid d1
    clear d0 d1 hl
    have HC : Hid (Calls Try.prog 11 #[] m14 (Says true m14)) := by
      exact aliveS_any m14
    unfold prV at HC
    go_wp2_with fail
    refine HC.out.mono ?_
    rintro e m15 ⟨rfl, hl⟩
    clear HC
    replace Tt := Lib.hid (Tt.out.later hl)
    replace Tu := Lib.hid (Tu.out.later hl)
    replace Bx := Lib.hid (Bx.out.later hl)
    replace By := Lib.hid (By.out.later hl)
    replace Ba := Lib.hid (Ba.out.later hl)
    replace Bb := Lib.hid (Bb.out.later hl)
    replace Ox := Lib.hid (Ox.out.later hl)
    replace Oy := Lib.hid (Oy.out.later hl)
    replace Oa := Lib.hid (Oa.out.later hl)
    replace Ob := Lib.hid (Ob.out.later hl)
    replace L0 := Lib.hid (L0.out.trans hl)
    clear hl
    go_wp2
    go_ret
    exact ⟨rfl, L0.out⟩
  | some r =>
    obtain ⟨r1, r2⟩ := r
    obtain ⟨u1, hu1, hu2⟩ := swap_fits hrise HAP.out HAP2.out hsw
    have hkp := swap_keeps hsw
    have hu3 := HFIT.out.apply r1
    rw [hu1] at hu3
    dsimp only at hu3
    have HU1 := Lib.hid hu1; have HU2 := Lib.hid hu2; have HU3 := Lib.hid hu3; have HKP := Lib.hid hkp
    clear hu1 hu2 hu3 hkp
    have HC : Hid (Calls Try.prog 12 #[prV x, prV y] m10 (GivesT (r1, r2, true) m10)) := by
      have := swap_any x y _ Ox.out Oy.out
      rw [hsw, show swapR (some (r1, r2)) = (r1, r2, true) from rfl] at this
      exact this
    unfold prV at HC
    go_wp2_with fail
    refine HC.out.mono ?_
    rintro e m13 ⟨a, b, rfl, ha, hb, oa, ob, hl⟩
    dsimp only at ha hb ⊢
    clear HC
    clear f11_0 f11_1 f11_2 f11_3 f11_4 f11_5 f12_0 f12_1 f12_2 f12_3 f12_4 f12_5
    replace Tt := Lib.hid (Tt.out.later hl)
    replace Tu := Lib.hid (Tu.out.later hl)
    replace Bx := Lib.hid (Bx.out.later hl)
    replace By := Lib.hid (By.out.later hl)
    replace Ox := Lib.hid (Ox.out.later hl)
    replace Oy := Lib.hid (Oy.out.later hl)
    replace L0 := Lib.hid (L0.out.trans hl)
    have Oa := Lib.hid oa; have Ob := Lib.hid ob; have Va := Lib.hid ha; have Vb := Lib.hid hb
    clear hl oa ob ha hb
    obtain ⟨d0, d1, hl⟩ := two_boxes m13 #[.int .i64 a.v.kind, .string a.v.name, .string a.v.to, .int .i64 a.v.place, .slice a.A a.n a.c, .slice a.B a.m a.d] #[.int .i64 b.v.kind, .string b.v.name, .string b.v.to, .int .i64 b.v.place, .slice b.A b.n b.c, .slice b.B b.m b.d] 27
    unfold prV
    go_upto_region 12 with fail
    generalize (m13.alloc (.cells #[.int .i64 a.v.kind, .string a.v.name, .string a.v.to, .int .i64 a.v.place, .slice a.A a.n a.c, .slice a.B a.m a.d] 27)).alloc (.cells #[.int .i64 b.v.kind, .string b.v.name, .string b.v.to, .int .i64 b.v.place, .slice b.A b.n b.c, .slice b.B b.m b.d] 27) = m14 at d0 d1 hl ⊢
    generalize m13.heap.size + 1 = gb at d1 ⊢
    generalize m13.heap.size = ga at d0 ⊢
    replace Tt := Lib.hid (Tt.out.later hl)
    replace Tu := Lib.hid (Tu.out.later hl)
    replace Bx := Lib.hid (Bx.out.later hl)
    replace By := Lib.hid (By.out.later hl)
    replace Ox := Lib.hid (Ox.out.later hl)
    replace Oy := Lib.hid (Oy.out.later hl)
    replace Oa := Lib.hid (Oa.out.later hl)
    replace Ob := Lib.hid (Ob.out.later hl)
    replace L0 := Lib.hid (L0.out.trans hl)
    have Ba := Lib.hid d0; have Bb := Lib.hid d1
    clear d0 d1 hl
    have ham : a.m ≤ 5000 := by have h1 := Oa.out.new.len; rw [Va.out] at h1; have h2 := congrArg List.length HKP.out.2.2.1; omega
    have hbm : b.m ≤ 5000 := by have h1 := Ob.out.new.len; rw [Vb.out] at h1; have h2 := congrArg List.length HKP.out.2.2.2.2.2.2.1; omega
    have hrl : r1.new.length ≤ 5000 := by have h2 := congrArg List.length HKP.out.2.2.1; omega
    have HC : Hid (Calls Try.prog 11 #[] m14 (Says true m14)) := by
      exact aliveS_any m14
    unfold prV at HC
    go_wp2_with fail
    refine HC.out.mono ?_
    rintro e m15 ⟨rfl, hl⟩
    clear HC
    replace Tt := Lib.hid (Tt.out.later hl)
    replace Tu := Lib.hid (Tu.out.later hl)
    replace Bx := Lib.hid (Bx.out.later hl)
    replace By := Lib.hid (By.out.later hl)
    replace Ba := Lib.hid (Ba.out.later hl)
    replace Bb := Lib.hid (Bb.out.later hl)
    replace Ox := Lib.hid (Ox.out.later hl)
    replace Oy := Lib.hid (Oy.out.later hl)
    replace Oa := Lib.hid (Oa.out.later hl)
    replace Ob := Lib.hid (Ob.out.later hl)
    replace L0 := Lib.hid (L0.out.trans hl)
    clear hl
    obtain ⟨f16_0, f16_1, f16_2, f16_3, f16_4, f16_5⟩ := BoxAt.all (x := a) Ba.out
    have HC : Hid (Calls Try.prog 20 #[.pointer (some ⟨pu, 0, none⟩), prV a] m15 (Does (u1, 0) pu Bu_ m15)) := by
      have := apply_any a pu Bu_ 80 8000 tr m15 Tu.out Oa.out HFIT.out (by omega) (by omega)
      rw [Va.out, HU1.out] at this
      exact this
    unfold prV at HC
    go_wp2_with fail
    refine HC.out.mono ?_
    rintro e m17 ⟨rfl, ht, hg⟩
    clear HC
    dsimp only at ht ⊢
    clear f16_0 f16_1 f16_2 f16_3 f16_4 f16_5
    obtain ⟨es, cc, hm⟩ := Tu.out.files.map
    replace Bx := Lib.hid (Bx.out.turnS hg hm)
    replace By := Lib.hid (By.out.turnS hg hm)
    replace Ba := Lib.hid (Ba.out.turnS hg hm)
    replace Bb := Lib.hid (Bb.out.turnS hg hm)
    replace Ox := Lib.hid (Ox.out.turnS hg hm)
    replace Oy := Lib.hid (Oy.out.turnS hg hm)
    replace Oa := Lib.hid (Oa.out.turnS hg hm)
    replace Ob := Lib.hid (Ob.out.turnS hg hm)
    replace Tt := Lib.hid (Tt.out.other hg hne hm)
    replace L0 := Lib.hid (L0.out.turn hg hBu)
    replace Tu := Lib.hid ht
    clear hm hg ht
    obtain ⟨f18_0, f18_1, f18_2, f18_3, f18_4, f18_5⟩ := BoxAt.all (x := b) Bb.out
    have HC : Hid (Calls Try.prog 20 #[.pointer (some ⟨pu, 0, none⟩), prV b] m17 (Does (t2, 0) pu Bu_ m17)) := by
      have := apply_any b pu Bu_ 81 (8000 + r1.new.length) u1 m17 Tu.out Ob.out HU3.out (by omega) (by omega)
      rw [Vb.out, HU2.out] at this
      exact this
    unfold prV at HC
    go_wp2_with fail
    refine HC.out.mono ?_
    rintro e m19 ⟨rfl, ht, hg⟩
    clear HC
    dsimp only at ht ⊢
    clear f18_0 f18_1 f18_2 f18_3 f18_4 f18_5
    obtain ⟨es, cc, hm⟩ := Tu.out.files.map
    replace Bx := Lib.hid (Bx.out.turnS hg hm)
    replace By := Lib.hid (By.out.turnS hg hm)
    replace Ba := Lib.hid (Ba.out.turnS hg hm)
    replace Bb := Lib.hid (Bb.out.turnS hg hm)
    replace Ox := Lib.hid (Ox.out.turnS hg hm)
    replace Oy := Lib.hid (Oy.out.turnS hg hm)
    replace Oa := Lib.hid (Oa.out.turnS hg hm)
    replace Ob := Lib.hid (Ob.out.turnS hg hm)
    replace Tt := Lib.hid (Tt.out.other hg hne hm)
    replace L0 := Lib.hid (L0.out.turn hg hBu)
    replace Tu := Lib.hid ht
    clear hm hg ht
    have HC : Hid (Calls Try.prog 21 #[.pointer (some ⟨pt, 0, none⟩), .pointer (some ⟨pu, 0, none⟩)] m19 (Says true m19)) := by
      have := sameTree_any pt Bt_ pu Bu_ t2 t2 _ Tt.out Tu.out (HS2.out.lines (by omega)) (HS2.out.lines (by omega))
      rw [sameT_self] at this
      exact this
    unfold prV at HC
    go_wp2_with fail
    refine HC.out.mono ?_
    rintro e m20 ⟨rfl, hl⟩
    clear HC
    replace Tt := Lib.hid (Tt.out.later hl)
    replace Tu := Lib.hid (Tu.out.later hl)
    replace Bx := Lib.hid (Bx.out.later hl)
    replace By := Lib.hid (By.out.later hl)
    replace Ba := Lib.hid (Ba.out.later hl)
    replace Bb := Lib.hid (Bb.out.later hl)
    replace Ox := Lib.hid (Ox.out.later hl)
    replace Oy := Lib.hid (Oy.out.later hl)
    replace Oa := Lib.hid (Oa.out.later hl)
    replace Ob := Lib.hid (Ob.out.later hl)
    replace L0 := Lib.hid (L0.out.trans hl)
    clear hl
    go_wp2
    go_ret
    exact ⟨rfl, L0.out⟩

end Go.Proofs.Ytalgapoigkbiaaa
