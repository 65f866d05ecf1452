/-
  What swap's Needs and Apart come to, as calls.
-/
import Derived.Test.YtalgapoigkbiaaaSwSwap
import Derived.Test.YtalgapoigkbiaaaLpMany
namespace Go.Proofs.Ytalgapoigkbiaaa
open Go.RowKit Go.Maps

def apartP (p q : Pr) : Bool := (swapR (swapP p q)).2.2 && sameP (swapR (swapP p q)).1 q && sameP (swapR (swapP p q)).2.1 p

set_option maxRecDepth 100000 in
set_option maxHeartbeats 800000 in
theorem needs_any (x y : PrC) (w : World) (hx : PrOk w x) (hy : PrOk w y) :
    Calls Try.prog 16 #[prV x, prV y] w (Says (!(swapR (swapP x.v y.v)).2.2) w) := by
  obtain ⟨b0, b1, hl⟩ := two_boxes w (prL x).toArray (prL y).toArray 27
  have HS := Lib.hid (fun (w' : World) (h : Later w w') => swap_any x y w' (hx.later h) (hy.later h))
  have HL := Lib.hid hl
  clear b0 b1 hx hy
  generalize swapR (swapP x.v y.v) = rr at HS ⊢
  obtain ⟨r1, r2, t⟩ := rr
  dsimp only at HS ⊢
  unfold prV at HS ⊢
  go_enter Try.func16, Try.ntmps16
  go_wp2_with fail
  refine (HS.out _ hl).mono ?_
  rintro e w1 ⟨a, b, rfl, -, -, -, -, hl1⟩
  have HL1 := Lib.hid (HL.out.trans hl1)
  clear hl hl1
  unfold prV
  dsimp only
  go_wp2
  go_ret
  exact ⟨rfl, (HL1.out.alloc _).alloc _⟩

set_option maxRecDepth 100000 in
set_option maxHeartbeats 800000 in
theorem apart_any (x y : PrC) (w : World) (hx : PrOk w x) (hy : PrOk w y) :
    Calls Try.prog 15 #[prV x, prV y] w (Says (apartP x.v y.v) w) := by
  obtain ⟨b0, b1, hl⟩ := two_boxes w (prL x).toArray (prL y).toArray 27
  have HS := Lib.hid (fun (w' : World) (h : Later w w') => swap_any x y w' (hx.later h) (hy.later h))
  have HX := Lib.hid hx; have HY := Lib.hid hy
  have HB0 := Lib.hid b0; have HB1 := Lib.hid b1
  clear b0 b1 hx hy
  generalize hr : apartP x.v y.v = R
  have HR := Lib.hid hr
  unfold apartP at HR
  generalize swapR (swapP x.v y.v) = rr at HS HR
  obtain ⟨r1, r2, t⟩ := rr
  dsimp only at HR
  clear hr
  have HL := Lib.hid hl
  unfold prV at HS ⊢
  go_enter Try.func15, Try.ntmps15
  go_wp2_with fail
  refine (HS.out _ hl).mono ?_
  rintro e w1 ⟨a, b, rfl, ha, hb, hao, hbo, hl1⟩
  dsimp only at ha hb ⊢
  subst ha hb
  obtain ⟨d0, d1, hl2⟩ := two_boxes w1 #[.int .i64 a.v.kind, .string a.v.name, .string a.v.to, .int .i64 a.v.place, .slice a.A a.n a.c, .slice a.B a.m a.d] #[.int .i64 b.v.kind, .string b.v.name, .string b.v.to, .int .i64 b.v.place, .slice b.A b.n b.c, .slice b.B b.m b.d] 27
  unfold prV
  go_upto_region 2 with fail
  generalize (w1.alloc (.cells #[.int .i64 a.v.kind, .string a.v.name, .string a.v.to, .int .i64 a.v.place, .slice a.A a.n a.c, .slice a.B a.m a.d] 27)).alloc (.cells #[.int .i64 b.v.kind, .string b.v.name, .string b.v.to, .int .i64 b.v.place, .slice b.A b.n b.c, .slice b.B b.m b.d] 27) = w2 at d0 d1 hl2 ⊢
  have l2 := hl1.trans hl2
  obtain ⟨p0, p1, p2, p3, p4, p5⟩ := BoxAt.all (x := a) d0
  obtain ⟨q0, q1, q2, q3, q4, q5⟩ := BoxAt.all (x := y) (HB1.out.later l2)
  have HB2 := Lib.hid (HB0.out.later l2); have HD1 := Lib.hid d1
  have HL2 := Lib.hid (HL.out.trans l2)
  have HS1 := Lib.hid (primSame_any a y w2 (hao.later hl2) (HY.out.later HL2.out))
  have HS2 := Lib.hid (fun (w' : World) (h : Later w2 w') => primSame_any b x w' ((hbo.later hl2).later h) ((HX.out.later HL2.out).later h))
  clear hl1 hl2 l2 hao hbo d0 d1 hl
  unfold prV at HS1 HS2
  cases t
  · obtain rfl : false = R := by rw [← HR.out]; rfl
    go_wp2
    go_ret
    exact ⟨rfl, HL2.out⟩
  · have hR : R = (sameP a.v y.v && sameP b.v x.v) := by rw [← HR.out]; rfl
    clear HR
    cases h1 : sameP a.v y.v
    · rw [h1] at HS1 hR
      obtain rfl : R = false := hR
      clear h1
      go_wp2_with fail
      refine HS1.out.mono ?_
      rintro e w3 ⟨rfl, hl3⟩
      have HL3 := Lib.hid (HL2.out.trans hl3)
      clear hl3
      go_wp2
      go_ret
      exact ⟨rfl, HL3.out⟩
    · rw [h1] at HS1 hR
      rw [Bool.true_and] at hR
      have HRf := Lib.hid hR
      clear h1 hR
      go_wp2_with fail
      refine HS1.out.mono ?_
      rintro e w3 ⟨rfl, hl3⟩
      have HL3 := Lib.hid (HL2.out.trans hl3)
      have HSB := Lib.hid (HS2.out w3 hl3)
      obtain ⟨u0, u1, u2, u3, u4, u5⟩ := BoxAt.all (x := x) (HB2.out.later hl3)
      obtain ⟨v0, v1, v2, v3, v4, v5⟩ := BoxAt.all (x := b) (HD1.out.later hl3)
      generalize sameP b.v x.v = t at HSB HRf
      clear hl3 p0 p1 p2 p3 p4 p5 q0 q1 q2 q3 q4 q5
      go_wp2_with fail
      refine HSB.out.mono ?_
      rintro e w4 ⟨rfl, hl4⟩
      have HL4 := Lib.hid (HL3.out.trans hl4)
      clear hl4
      go_wp2
      go_ret
      exact ⟨ret_bool HRf.out.symm, HL4.out⟩

theorem small_any (A : Option Addr) (n c : Nat) (xs : List PrC) (w : World) (hx : Prims w A n xs) (hn : n ≤ 1048576) (hW : weightPs xs ≤ 4194304) :
    Calls Try.prog 10 #[.slice A n c] w (Says (decide (n + weightPs xs ≤ 5000)) w) := by
  have HM := Lib.hid (manyP_any A n c xs w hx hn hW)
  clear hx
  generalize weightPs xs = k at *
  go_enter Try.func10, Try.ntmps10
  go_wp2_with fail
  refine HM.out.mono ?_
  rintro e w1 ⟨rfl, hl1⟩
  have HL1 := Lib.hid hl1
  clear hl1
  have hd : decide ((n : Int) + (k : Int) ≤ 5000) = decide (n + k ≤ 5000) := decide_eq_decide.2 (by omega)
  have HD := Lib.hid hd
  clear hd
  go_wp2
  go_ret
  exact ⟨ret_bool HD.out, HL1.out⟩

end Go.Proofs.Ytalgapoigkbiaaa
