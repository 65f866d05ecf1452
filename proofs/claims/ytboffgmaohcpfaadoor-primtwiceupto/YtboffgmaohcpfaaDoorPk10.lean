import Derived.Test.YtboffgmaohcpfaaDoorPk9

/-
  What the law PrimTwice comes to, as a call.
-/
namespace Go.Proofs.YtboffgmaohcpfaaDoor
open Go.RowKit Go.Maps

set_option maxRecDepth 100000 in
set_option maxHeartbeats 8000000 in
theorem primTwice_walk (x : PrC) (w : World) (hx : CameP w x) (htab : Tab w) : Calls Tryd.prog 5 #[prV x] w (Says true w) := by
  have hw := hx.weigh
  have HM := Lib.hid (manyP_any (some ⟨w.heap.size + 1, 0, none⟩) 1 1 [x] ((w.alloc (.cells #[.int .i64 x.v.kind, .string x.v.name, .string x.v.to, .int .i64 x.v.place, .slice x.A x.n x.c, .slice x.B x.m x.d] 24)).alloc (.cells #[.int .i64 x.v.kind, .string x.v.name, .string x.v.to, .int .i64 x.v.place, .slice x.A x.n x.c, .slice x.B x.m x.d] 24)) (by have := prims_one hx ((Later.refl w).alloc (.cells #[.int .i64 x.v.kind, .string x.v.name, .string x.v.to, .int .i64 x.v.place, .slice x.A x.n x.c, .slice x.B x.m x.d] 24)) 24; simpa using this) (by omega) (by rw [weightPs_one]; omega))
  rw [weightPs_one] at HM
  have hlb : Later w ((w.alloc (.cells #[.int .i64 x.v.kind, .string x.v.name, .string x.v.to, .int .i64 x.v.place, .slice x.A x.n x.c, .slice x.B x.m x.d] 24)).alloc (.cells #[.int .i64 x.v.kind, .string x.v.name, .string x.v.to, .int .i64 x.v.place, .slice x.A x.n x.c, .slice x.B x.m x.d] 24)) := ((Later.refl w).alloc _).alloc _
  have hbx : BoxAt ((w.alloc (.cells #[.int .i64 x.v.kind, .string x.v.name, .string x.v.to, .int .i64 x.v.place, .slice x.A x.n x.c, .slice x.B x.m x.d] 24)).alloc (.cells #[.int .i64 x.v.kind, .string x.v.name, .string x.v.to, .int .i64 x.v.place, .slice x.A x.n x.c, .slice x.B x.m x.d] 24)) w.heap.size (prL x).toArray 24 := (BoxAt.made w (prL x).toArray 24).alloc _
  have HLB := Lib.hid hlb; have HBX := Lib.hid hbx; have HTB := Lib.hid htab; have HX := Lib.hid hx
  clear hlb hbx htab hx
  unfold prV
  by_cases hg : 4000 < 1 + weightP x.v
  · go_enter Tryd.func5, Tryd.ntmps5
    go_wp2_with fail
    refine HM.out.mono ?_
    rintro e w1 ⟨rfl, hl1⟩
    have HL1 := Lib.hid (HLB.out.trans hl1); clear hl1
    go_wp2_with fail
    refine (aliveP_any w1 (HTB.out.later HL1.out)).mono ?_
    rintro e w2 ⟨rfl, hl2⟩
    have HL2 := Lib.hid (HL1.out.trans hl2); clear hl2
    go_wp2
    go_ret
    exact ⟨rfl, HL2.out⟩
  · have HOK := Lib.hid (HX.out.ok (by omega))
    go_enter Tryd.func5, Tryd.ntmps5
    go_wp2_with fail
    refine HM.out.mono ?_
    rintro e w1 ⟨rfl, hl1⟩
    have hb1 := HBX.out.later hl1
    obtain ⟨y0, y1, y2, y3, y4, y5⟩ := hb1.six
    have HL1 := Lib.hid (HLB.out.trans hl1)
    have HB1 := Lib.hid (hb1.alloc (.cells #[.int .i64 x.v.kind, .string x.v.name, .string x.v.to, .int .i64 x.v.place, .slice x.A x.n x.c, .slice x.B x.m x.d] 28))
    have HB2 := Lib.hid (BoxAt.made w1 (prL x).toArray 28)
    have HI := Lib.hid (primInvert_any x (w1.alloc (.cells #[.int .i64 x.v.kind, .string x.v.name, .string x.v.to, .int .i64 x.v.place, .slice x.A x.n x.c, .slice x.B x.m x.d] 28)) (HOK.out.later (HL1.out.alloc _)))
    unfold prV at HI
    clear hl1 hb1
    go_wp2_with fail
    refine HI.out.mono ?_
    rintro e w2 ⟨u, v, rfl, hpr⟩
    obtain ⟨A1, c1, hv1, hc1, hr1⟩ := hpr.old.row
    obtain ⟨A2, c2, hv2, hc2, hr2⟩ := hpr.new.row
    subst hv1 hv2
    have hm := HOK.out.mild.invert
    obtain ⟨z, hz⟩ : ∃ z : PrC, z = ⟨invertP x.v, A1, (invertP x.v).old.length, c1, A2, (invertP x.v).new.length, c2⟩ := ⟨_, rfl⟩
    have hzv : z.v = invertP x.v := by rw [hz]
    have hzo : PrOk w2 z := by rw [hz]; exact ⟨hr1, hr2, hc1, hc2, hm.omost, hm.nmost, hm.name, hm.to, hm.lo, hm.hi, hm.olds, hm.news⟩
    have hzc : (Value.agg #[.int .i64 (invertP x.v).kind, .string (invertP x.v).name, .string (invertP x.v).to, .int .i64 (invertP x.v).place, .slice A1 (invertP x.v).old.length c1, .slice A2 (invertP x.v).new.length c2]) = .agg #[.int .i64 z.v.kind, .string z.v.name, .string z.v.to, .int .i64 z.v.place, .slice z.A z.n z.c, .slice z.B z.m z.d] := by rw [hz]
    rw [hzc]
    clear hzc hz
    have HZV := Lib.hid hzv; have HZO := Lib.hid hzo
    have HL2 := Lib.hid ((HL1.out.alloc (.cells #[.int .i64 x.v.kind, .string x.v.name, .string x.v.to, .int .i64 x.v.place, .slice x.A x.n x.c, .slice x.B x.m x.d] 28)).trans hpr.later)
    have HS : Hid (∀ w', Later (w2.alloc (.cells #[.int .i64 z.v.kind, .string z.v.name, .string z.v.to, .int .i64 z.v.place, .slice z.A z.n z.c, .slice z.B z.m z.d] 28)) w' → w'.cell? ⟨w.heap.size, 0, none⟩ = some (.int .i64 x.v.kind) ∧ w'.cell? ⟨w.heap.size, 1, none⟩ = some (.string x.v.name) ∧ w'.cell? ⟨w.heap.size, 2, none⟩ = some (.string x.v.to) ∧ w'.cell? ⟨w.heap.size, 3, none⟩ = some (.int .i64 x.v.place) ∧ w'.cell? ⟨w.heap.size, 4, none⟩ = some (.slice x.A x.n x.c) ∧ w'.cell? ⟨w.heap.size, 5, none⟩ = some (.slice x.B x.m x.d) ∧ w'.cell? ⟨w1.heap.size, 0, none⟩ = some (.int .i64 x.v.kind) ∧ w'.cell? ⟨w1.heap.size, 1, none⟩ = some (.string x.v.name) ∧ w'.cell? ⟨w1.heap.size, 2, none⟩ = some (.string x.v.to) ∧ w'.cell? ⟨w1.heap.size, 3, none⟩ = some (.int .i64 x.v.place) ∧ w'.cell? ⟨w1.heap.size, 4, none⟩ = some (.slice x.A x.n x.c) ∧ w'.cell? ⟨w1.heap.size, 5, none⟩ = some (.slice x.B x.m x.d) ∧ w'.cell? ⟨w2.heap.size, 0, none⟩ = some (.int .i64 z.v.kind) ∧ w'.cell? ⟨w2.heap.size, 1, none⟩ = some (.string z.v.name) ∧ w'.cell? ⟨w2.heap.size, 2, none⟩ = some (.string z.v.to) ∧ w'.cell? ⟨w2.heap.size, 3, none⟩ = some (.int .i64 z.v.place) ∧ w'.cell? ⟨w2.heap.size, 4, none⟩ = some (.slice z.A z.n z.c) ∧ w'.cell? ⟨w2.heap.size, 5, none⟩ = some (.slice z.B z.m z.d)) := fun w' hl => by
      have h1 := (((HB1.out.later hpr.later).alloc (.cells #[.int .i64 z.v.kind, .string z.v.name, .string z.v.to, .int .i64 z.v.place, .slice z.A z.n z.c, .slice z.B z.m z.d] 28)).later hl).six
      have h2 := (((HB2.out.later hpr.later).alloc (.cells #[.int .i64 z.v.kind, .string z.v.name, .string z.v.to, .int .i64 z.v.place, .slice z.A z.n z.c, .slice z.B z.m z.d] 28)).later hl).six
      have h3 := ((BoxAt.made w2 (prL z).toArray 28).later hl).six
      exact ⟨h1.1, h1.2.1, h1.2.2.1, h1.2.2.2.1, h1.2.2.2.2.1, h1.2.2.2.2.2, h2.1, h2.2.1, h2.2.2.1, h2.2.2.2.1, h2.2.2.2.2.1, h2.2.2.2.2.2, h3⟩
    have HL3 : Hid (Later w (w2.alloc (.cells #[.int .i64 z.v.kind, .string z.v.name, .string z.v.to, .int .i64 z.v.place, .slice z.A z.n z.c, .slice z.B z.m z.d] 28))) := HL2.out.alloc _
    have HZ3 := Lib.hid (hzo.later ((Later.refl w2).alloc (.cells #[.int .i64 z.v.kind, .string z.v.name, .string z.v.to, .int .i64 z.v.place, .slice z.A z.n z.c, .slice z.B z.m z.d] 28)))
    clear hpr hr1 hr2 hc1 hc2 hm hzv hzo y0 y1 y2 y3 y4 y5 HB1 HB2 HI
    go_wp2_with fail
    generalize w1.heap.size = g1 at HS ⊢
    generalize w2.heap.size = g2 at HS ⊢
    generalize w2.alloc (.cells #[.int .i64 z.v.kind, .string z.v.name, .string z.v.to, .int .i64 z.v.place, .slice z.A z.n z.c, .slice z.B z.m z.d] 28) = w3 at HS HL3 HZ3 ⊢
    have s0 := HS.out w3 (Later.refl w3)
    have HI2 : Hid (∀ w', Later w3 w' → Calls Tryd.prog 12 #[prV z] w' (GivesP x.v w')) := fun w' hl => by
      have := invert_v (HZ3.out.later hl).at
      rw [HZV.out, invert_twice] at this
      exact this
    have HSM : Hid (∀ (w' : World) (v : Value), Later w3 w' → PrimAt w' v x.v → Calls Tryd.prog 11 #[v, prV x] w' (Says true w')) := fun w' v hl h1 => by
      have := refSame_v h1 (HOK.out.later (HL3.out.trans hl)).at
      rw [sameP_self] at this
      exact this
    have HR1 : Hid (∀ w', Later w3 w' → Calls Tryd.prog 9 #[prV z] w' (Says (rightP x.v) w')) := fun w' hl => by
      have := right_v (HZ3.out.later hl).at
      rw [HZV.out, right_invert] at this
      exact this
    have HR2 := Lib.hid (fun (w' : World) (hl : Later w3 w') => right_v (HOK.out.later (HL3.out.trans hl)).at)
    generalize rightP x.v = rb at HR1 HR2
    have hbb : (rb == rb) = true := by simp
    unfold prV at HI2 HSM HR1 HR2
    clear HX HOK HL1 HL2 HM HBX HLB HZ3 HZV HZO
    go_region_held3 (fun w' => w'.cell? ⟨w.heap.size, 0, none⟩ = some (.int .i64 x.v.kind) ∧ w'.cell? ⟨w.heap.size, 1, none⟩ = some (.string x.v.name) ∧ w'.cell? ⟨w.heap.size, 2, none⟩ = some (.string x.v.to) ∧ w'.cell? ⟨w.heap.size, 3, none⟩ = some (.int .i64 x.v.place) ∧ w'.cell? ⟨w.heap.size, 4, none⟩ = some (.slice x.A x.n x.c) ∧ w'.cell? ⟨w.heap.size, 5, none⟩ = some (.slice x.B x.m x.d) ∧ w'.cell? ⟨g1, 0, none⟩ = some (.int .i64 x.v.kind) ∧ w'.cell? ⟨g1, 1, none⟩ = some (.string x.v.name) ∧ w'.cell? ⟨g1, 2, none⟩ = some (.string x.v.to) ∧ w'.cell? ⟨g1, 3, none⟩ = some (.int .i64 x.v.place) ∧ w'.cell? ⟨g1, 4, none⟩ = some (.slice x.A x.n x.c) ∧ w'.cell? ⟨g1, 5, none⟩ = some (.slice x.B x.m x.d) ∧ w'.cell? ⟨g2, 0, none⟩ = some (.int .i64 z.v.kind) ∧ w'.cell? ⟨g2, 1, none⟩ = some (.string z.v.name) ∧ w'.cell? ⟨g2, 2, none⟩ = some (.string z.v.to) ∧ w'.cell? ⟨g2, 3, none⟩ = some (.int .i64 z.v.place) ∧ w'.cell? ⟨g2, 4, none⟩ = some (.slice z.A z.n z.c) ∧ w'.cell? ⟨g2, 5, none⟩ = some (.slice z.B z.m z.d))
      (first | exact s5 | exact s4 | exact s3 | exact s2 | exact s1 | exact s0)
      (first
      | (go_at_call 9; have hq := L4; clear hq; refine (HR2.out _ (Later.trans L4.out (by first | exact Later.refl _ | exact (Later.refl _).drew | exact (Later.refl _).drewN _))).mono ?_; rintro e m5 ⟨rfl, hl5⟩; have L5 : Hid (Later w3 m5) := Later.trans (Later.trans L4.out (by first | exact Later.refl _ | exact (Later.refl _).drew | exact (Later.refl _).drewN _)) hl5; have s5 := HS.out m5 L5.out; have Hvz := Lib.hid (Hvz.out.later (Later.trans (by first | exact Later.refl _ | exact (Later.refl _).drew | exact (Later.refl _).drewN _) hl5)); clear hl5)
      | (go_at_call 9; have hq := L3; clear hq; refine (HR1.out _ (Later.trans L3.out (by first | exact Later.refl _ | exact (Later.refl _).drew | exact (Later.refl _).drewN _))).mono ?_; rintro e m4 ⟨rfl, hl4⟩; have L4 : Hid (Later w3 m4) := Later.trans (Later.trans L3.out (by first | exact Later.refl _ | exact (Later.refl _).drew | exact (Later.refl _).drewN _)) hl4; have s4 := HS.out m4 L4.out; have Hvz := Lib.hid (Hvz.out.later (Later.trans (by first | exact Later.refl _ | exact (Later.refl _).drew | exact (Later.refl _).drewN _) hl4)); clear hl4)
      | (go_at_call 11; have hq := L2; clear hq; refine (HSM.out _ vz (Later.trans L2.out (by first | exact Later.refl _ | exact (Later.refl _).drew | exact (Later.refl _).drewN _)) (Hvz.out.later (by first | exact Later.refl _ | exact (Later.refl _).drew | exact (Later.refl _).drewN _))).mono ?_; rintro e m3 ⟨rfl, hl3⟩; have L3 : Hid (Later w3 m3) := Later.trans (Later.trans L2.out (by first | exact Later.refl _ | exact (Later.refl _).drew | exact (Later.refl _).drewN _)) hl3; have s3 := HS.out m3 L3.out; have Hvz := Lib.hid (Hvz.out.later (Later.trans (by first | exact Later.refl _ | exact (Later.refl _).drew | exact (Later.refl _).drewN _) hl3)); clear hl3)
      | (go_at_call 12; have hq := L1; clear hq; refine (HI2.out _ (Later.trans L1.out (by first | exact Later.refl _ | exact (Later.refl _).drew | exact (Later.refl _).drewN _))).mono ?_; rintro e m2 ⟨vz, rfl, hvz, hl2⟩; have L2 : Hid (Later w3 m2) := Later.trans (Later.trans L1.out (by first | exact Later.refl _ | exact (Later.refl _).drew | exact (Later.refl _).drewN _)) hl2; have s2 := HS.out m2 L2.out; have Hvz := Lib.hid hvz; clear hvz; clear hl2)
      | (go_at_call 8; refine (aliveP_any _ (HTB.out.later (HL3.out.trans (by first | exact Later.refl _ | exact (Later.refl _).drew | exact (Later.refl _).drewN _)))).mono ?_; rintro e m1 ⟨rfl, hl1⟩; have L1 : Hid (Later w3 m1) := Later.trans (by first | exact Later.refl _ | exact (Later.refl _).drew | exact (Later.refl _).drewN _) hl1; have s1 := HS.out m1 L1.out; clear hl1))
    go_wp2
    go_ret
    exact ⟨rfl, HL3.out.trans L5.out⟩

end Go.Proofs.YtboffgmaohcpfaaDoor
