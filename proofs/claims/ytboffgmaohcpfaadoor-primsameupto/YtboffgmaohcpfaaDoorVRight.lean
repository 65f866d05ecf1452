/-
  What the law PrimRight comes to, as a call.
-/
import Derived.Test.YtboffgmaohcpfaaDoorLpVal2
import Derived.Test.YtboffgmaohcpfaaDoorLpMany
import Derived.Test.YtboffgmaohcpfaaDoorLpAlive
namespace Go.Proofs.YtboffgmaohcpfaaDoor
open Go.RowKit Go.Maps

theorem BoxAt.six {w : World} {g : Nat} {x : PrC} {t : TypeId} (h : BoxAt w g (prL x).toArray t) : w.cell? ⟨g, 0, none⟩ = some (.int .i64 x.v.kind) ∧ w.cell? ⟨g, 1, none⟩ = some (.string x.v.name) ∧ w.cell? ⟨g, 2, none⟩ = some (.string x.v.to) ∧ w.cell? ⟨g, 3, none⟩ = some (.int .i64 x.v.place) ∧ w.cell? ⟨g, 4, none⟩ = some (.slice x.A x.n x.c) ∧ w.cell? ⟨g, 5, none⟩ = some (.slice x.B x.m x.d) :=
  ⟨h.cell rfl, h.cell rfl, h.cell rfl, h.cell rfl, h.cell rfl, h.cell rfl⟩

set_option maxRecDepth 100000 in
set_option maxHeartbeats 8000000 in
theorem primRight_walk (x : PrC) (w : World) (hx : CameP w x) (htab : Tab w) : Calls Tryd.prog 3 #[prV x] w (Says true w) := by
  have hw := hx.weigh
  have HM := Lib.hid (manyP_any (some ⟨w.heap.size + 1, 0, none⟩) 1 1 [x] ((w.alloc (.cells #[.int .i64 x.v.kind, .string x.v.name, .string x.v.to, .int .i64 x.v.place, .slice x.A x.n x.c, .slice x.B x.m x.d] 24)).alloc (.cells #[.int .i64 x.v.kind, .string x.v.name, .string x.v.to, .int .i64 x.v.place, .slice x.A x.n x.c, .slice x.B x.m x.d] 24)) (by have := prims_one hx ((Later.refl w).alloc (.cells #[.int .i64 x.v.kind, .string x.v.name, .string x.v.to, .int .i64 x.v.place, .slice x.A x.n x.c, .slice x.B x.m x.d] 24)) 24; simpa using this) (by omega) (by rw [weightPs_one]; omega))
  rw [weightPs_one] at HM
  have hlb : Later w ((w.alloc (.cells #[.int .i64 x.v.kind, .string x.v.name, .string x.v.to, .int .i64 x.v.place, .slice x.A x.n x.c, .slice x.B x.m x.d] 24)).alloc (.cells #[.int .i64 x.v.kind, .string x.v.name, .string x.v.to, .int .i64 x.v.place, .slice x.A x.n x.c, .slice x.B x.m x.d] 24)) := ((Later.refl w).alloc _).alloc _
  have hbx : BoxAt ((w.alloc (.cells #[.int .i64 x.v.kind, .string x.v.name, .string x.v.to, .int .i64 x.v.place, .slice x.A x.n x.c, .slice x.B x.m x.d] 24)).alloc (.cells #[.int .i64 x.v.kind, .string x.v.name, .string x.v.to, .int .i64 x.v.place, .slice x.A x.n x.c, .slice x.B x.m x.d] 24)) w.heap.size (prL x).toArray 24 := (BoxAt.made w (prL x).toArray 24).alloc _
  have HLB := Lib.hid hlb; have HBX := Lib.hid hbx; have HTB := Lib.hid htab; have HX := Lib.hid hx
  clear hlb hbx htab hx
  unfold prV
  by_cases hg : 4000 < 1 + weightP x.v
  · go_enter Tryd.func3, Tryd.ntmps3
    go_wp2_with fail
    refine HM.out.mono ?_
    rintro e w1 ⟨rfl, hl1⟩
    have HL1 := Lib.hid (HLB.out.trans hl1); clear hl1
    go_wp2_with fail
    refine (aliveP_any w1 (HTB.out.later HL1.out)).mono ?_
    rintro e w2 ⟨rfl, hl2⟩
    have HL2 := Lib.hid (HL1.out.trans hl2); clear hl2
    go_wp2
    go_ret
    exact ⟨rfl, HL2.out⟩
  · have hok := HX.out.ok (by omega)
    have HOK := Lib.hid hok
    clear hok
    go_enter Tryd.func3, Tryd.ntmps3
    go_wp2_with fail
    refine HM.out.mono ?_
    rintro e w1 ⟨rfl, hl1⟩
    have hb1 := HBX.out.later hl1
    obtain ⟨y0, y1, y2, y3, y4, y5⟩ := hb1.six
    have HL1 := Lib.hid (HLB.out.trans hl1)
    have HB1 := Lib.hid hb1
    clear hl1 hb1
    go_wp2_with fail
    have HS : Hid (∀ w', Later (w1.alloc (.cells #[.int .i64 x.v.kind, .string x.v.name, .string x.v.to, .int .i64 x.v.place, .slice x.A x.n x.c, .slice x.B x.m x.d] 28)) w' → w'.cell? ⟨w.heap.size, 0, none⟩ = some (.int .i64 x.v.kind) ∧ w'.cell? ⟨w.heap.size, 1, none⟩ = some (.string x.v.name) ∧ w'.cell? ⟨w.heap.size, 2, none⟩ = some (.string x.v.to) ∧ w'.cell? ⟨w.heap.size, 3, none⟩ = some (.int .i64 x.v.place) ∧ w'.cell? ⟨w.heap.size, 4, none⟩ = some (.slice x.A x.n x.c) ∧ w'.cell? ⟨w.heap.size, 5, none⟩ = some (.slice x.B x.m x.d) ∧ w'.cell? ⟨w1.heap.size, 0, none⟩ = some (.int .i64 x.v.kind) ∧ w'.cell? ⟨w1.heap.size, 1, none⟩ = some (.string x.v.name) ∧ w'.cell? ⟨w1.heap.size, 2, none⟩ = some (.string x.v.to) ∧ w'.cell? ⟨w1.heap.size, 3, none⟩ = some (.int .i64 x.v.place) ∧ w'.cell? ⟨w1.heap.size, 4, none⟩ = some (.slice x.A x.n x.c) ∧ w'.cell? ⟨w1.heap.size, 5, none⟩ = some (.slice x.B x.m x.d)) := fun w' hl => by
      have h1 := ((HB1.out.alloc (.cells #[.int .i64 x.v.kind, .string x.v.name, .string x.v.to, .int .i64 x.v.place, .slice x.A x.n x.c, .slice x.B x.m x.d] 28)).later hl).six
      have h2 := ((BoxAt.made w1 (prL x).toArray 28).later hl).six
      exact ⟨h1.1, h1.2.1, h1.2.2.1, h1.2.2.2.1, h1.2.2.2.2.1, h1.2.2.2.2.2, h2⟩
    have HL2 : Hid (Later w (w1.alloc (.cells #[.int .i64 x.v.kind, .string x.v.name, .string x.v.to, .int .i64 x.v.place, .slice x.A x.n x.c, .slice x.B x.m x.d] 28))) := HL1.out.alloc _
    generalize w1.heap.size = g1 at HS ⊢
    generalize w1.alloc (.cells #[.int .i64 x.v.kind, .string x.v.name, .string x.v.to, .int .i64 x.v.place, .slice x.A x.n x.c, .slice x.B x.m x.d] 28) = w2 at HS HL2 ⊢
    clear y0 y1 y2 y3 y4 y5 HB1 HM HBX HLB
    have s0 := HS.out w2 (Later.refl w2)
    have HP : Hid (∀ w', Later w2 w' → PrimAt w' (prV x) x.v) := fun w' hl => (HOK.out.later (HL2.out.trans hl)).at
    have HR1 := Lib.hid (fun (w' : World) (hl : Later w2 w') => right_v (HP.out w' hl))
    have HR2 := Lib.hid (fun (w' : World) (hl : Later w2 w') => refRight_v (HP.out w' hl))
    have HSM : Hid (∀ (w' : World) (v u : Value), PrimAt w' v (invertP x.v) → PrimAt w' u (invertP x.v) → Calls Tryd.prog 11 #[v, u] w' (Says true w')) := fun w' v u h1 h2 => by
      have := refSame_v h1 h2
      rw [sameP_self] at this
      exact this
    have HLS : Hid (∀ (w' : World) (v u : Value), Reads w' v (namesP x.v) → Reads w' u (namesP x.v) → Calls Tryd.prog 14 #[v, u] w' (Says true w')) := fun w' v u h1 h2 => by
      have := lineSame_v h1 h2 (namesP_length _) (namesP_length _)
      rw [sameB_self] at this
      exact this
    have HSS : Hid (∀ (w' : World) (u : Value), PrimAt w' (prV x) x.v → PrimAt w' u x.v → Calls Tryd.prog 17 #[prV x, u] w' (Says true w')) := fun w' u h1 h2 => by
      have := same_v h1 h2
      rw [sameP_self] at this
      exact this
    generalize rightP x.v = rb at HR1 HR2
    have hbb : (rb == rb) = true := by simp
    unfold prV at HR1 HR2 HP HSS
    clear HX HOK HL1
    go_region_held3 (fun w' => w'.cell? ⟨w.heap.size, 0, none⟩ = some (.int .i64 x.v.kind) ∧ w'.cell? ⟨w.heap.size, 1, none⟩ = some (.string x.v.name) ∧ w'.cell? ⟨w.heap.size, 2, none⟩ = some (.string x.v.to) ∧ w'.cell? ⟨w.heap.size, 3, none⟩ = some (.int .i64 x.v.place) ∧ w'.cell? ⟨w.heap.size, 4, none⟩ = some (.slice x.A x.n x.c) ∧ w'.cell? ⟨w.heap.size, 5, none⟩ = some (.slice x.B x.m x.d) ∧ w'.cell? ⟨g1, 0, none⟩ = some (.int .i64 x.v.kind) ∧ w'.cell? ⟨g1, 1, none⟩ = some (.string x.v.name) ∧ w'.cell? ⟨g1, 2, none⟩ = some (.string x.v.to) ∧ w'.cell? ⟨g1, 3, none⟩ = some (.int .i64 x.v.place) ∧ w'.cell? ⟨g1, 4, none⟩ = some (.slice x.A x.n x.c) ∧ w'.cell? ⟨g1, 5, none⟩ = some (.slice x.B x.m x.d))
      (first | exact s11 | exact s10 | exact s9 | exact s8 | exact s7 | exact s6 | exact s5 | exact s4 | exact s3 | exact s2 | exact s1 | exact s0)
      (first
      | (go_at_call 8; refine (aliveP_any _ (HTB.out.later (HL2.out.trans (by first | exact Later.refl _ | exact (Later.refl _).drew | exact (Later.refl _).drewN _)))).mono ?_; rintro e m1 ⟨rfl, hl1⟩; have L1 : Hid (Later w2 m1) := Later.trans (by first | exact Later.refl _ | exact (Later.refl _).drew | exact (Later.refl _).drewN _) hl1; have s1 := HS.out m1 L1.out; clear hl1)
      | (go_at_call 9; refine (HR1.out _ (Later.trans L1.out (by first | exact Later.refl _ | exact (Later.refl _).drew | exact (Later.refl _).drewN _))).mono ?_; rintro e m2 ⟨rfl, hl2⟩; have L2 : Hid (Later w2 m2) := Later.trans (Later.trans L1.out (by first | exact Later.refl _ | exact (Later.refl _).drew | exact (Later.refl _).drewN _)) hl2; have s2 := HS.out m2 L2.out; clear hl2)
      | (go_at_call 10; refine (HR2.out _ (Later.trans L2.out (by first | exact Later.refl _ | exact (Later.refl _).drew | exact (Later.refl _).drewN _))).mono ?_; rintro e m3 ⟨rfl, hl3⟩; have L3 : Hid (Later w2 m3) := Later.trans (Later.trans L2.out (by first | exact Later.refl _ | exact (Later.refl _).drew | exact (Later.refl _).drewN _)) hl3; have s3 := HS.out m3 L3.out; clear hl3)
      | (go_at_call 12; refine (invert_v (HP.out _ (Later.trans L3.out (by first | exact Later.refl _ | exact (Later.refl _).drew | exact (Later.refl _).drewN _)))).mono ?_; rintro e m4 ⟨vq, rfl, hvq, hl4⟩; have L4 : Hid (Later w2 m4) := Later.trans (Later.trans L3.out (by first | exact Later.refl _ | exact (Later.refl _).drew | exact (Later.refl _).drewN _)) hl4; have s4 := HS.out m4 L4.out; have Hvq := Lib.hid hvq; clear hvq; clear hl4)
      | (go_at_call 13; refine (refInvert_v (HP.out _ (Later.trans L4.out (by first | exact Later.refl _ | exact (Later.refl _).drew | exact (Later.refl _).drewN _)))).mono ?_; rintro e m5 ⟨vi, rfl, hvi, hl5⟩; have L5 : Hid (Later w2 m5) := Later.trans (Later.trans L4.out (by first | exact Later.refl _ | exact (Later.refl _).drew | exact (Later.refl _).drewN _)) hl5; have s5 := HS.out m5 L5.out; have Hvq := Lib.hid (Hvq.out.later (Later.trans (by first | exact Later.refl _ | exact (Later.refl _).drew | exact (Later.refl _).drewN _) hl5)); have Hvi := Lib.hid hvi; clear hvi; clear hl5)
      | (go_at_call 11; refine (HSM.out _ vq vi (Hvq.out.later (by first | exact Later.refl _ | exact (Later.refl _).drew | exact (Later.refl _).drewN _)) (Hvi.out.later (by first | exact Later.refl _ | exact (Later.refl _).drew | exact (Later.refl _).drewN _))).mono ?_; rintro e m6 ⟨rfl, hl6⟩; have L6 : Hid (Later w2 m6) := Later.trans (Later.trans L5.out (by first | exact Later.refl _ | exact (Later.refl _).drew | exact (Later.refl _).drewN _)) hl6; have s6 := HS.out m6 L6.out; have Hvq := Lib.hid (Hvq.out.later (Later.trans (by first | exact Later.refl _ | exact (Later.refl _).drew | exact (Later.refl _).drewN _) hl6)); have Hvi := Lib.hid (Hvi.out.later (Later.trans (by first | exact Later.refl _ | exact (Later.refl _).drew | exact (Later.refl _).drewN _) hl6)); clear hl6)
      | (go_at_call 15; refine (names_v (HP.out _ (Later.trans L6.out (by first | exact Later.refl _ | exact (Later.refl _).drew | exact (Later.refl _).drewN _)))).mono ?_; rintro e m7 ⟨vn, rfl, hvn, hl7⟩; have L7 : Hid (Later w2 m7) := Later.trans (Later.trans L6.out (by first | exact Later.refl _ | exact (Later.refl _).drew | exact (Later.refl _).drewN _)) hl7; have s7 := HS.out m7 L7.out; have Hvq := Lib.hid (Hvq.out.later (Later.trans (by first | exact Later.refl _ | exact (Later.refl _).drew | exact (Later.refl _).drewN _) hl7)); have Hvi := Lib.hid (Hvi.out.later (Later.trans (by first | exact Later.refl _ | exact (Later.refl _).drew | exact (Later.refl _).drewN _) hl7)); have Hvn := Lib.hid hvn; clear hvn; clear hl7)
      | (go_at_call 16; refine (refNames_v (HP.out _ (Later.trans L7.out (by first | exact Later.refl _ | exact (Later.refl _).drew | exact (Later.refl _).drewN _)))).mono ?_; rintro e m8 ⟨vm, rfl, hvm, hl8⟩; have L8 : Hid (Later w2 m8) := Later.trans (Later.trans L7.out (by first | exact Later.refl _ | exact (Later.refl _).drew | exact (Later.refl _).drewN _)) hl8; have s8 := HS.out m8 L8.out; have Hvq := Lib.hid (Hvq.out.later (Later.trans (by first | exact Later.refl _ | exact (Later.refl _).drew | exact (Later.refl _).drewN _) hl8)); have Hvi := Lib.hid (Hvi.out.later (Later.trans (by first | exact Later.refl _ | exact (Later.refl _).drew | exact (Later.refl _).drewN _) hl8)); have Hvn := Lib.hid (Hvn.out.later (Later.trans (by first | exact Later.refl _ | exact (Later.refl _).drew | exact (Later.refl _).drewN _) hl8)); have Hvm := Lib.hid hvm; clear hvm; clear hl8)
      | (go_at_call 14; refine (HLS.out _ vn vm (Hvn.out.later (by first | exact Later.refl _ | exact (Later.refl _).drew | exact (Later.refl _).drewN _)) (Hvm.out.later (by first | exact Later.refl _ | exact (Later.refl _).drew | exact (Later.refl _).drewN _))).mono ?_; rintro e m9 ⟨rfl, hl9⟩; have L9 : Hid (Later w2 m9) := Later.trans (Later.trans L8.out (by first | exact Later.refl _ | exact (Later.refl _).drew | exact (Later.refl _).drewN _)) hl9; have s9 := HS.out m9 L9.out; have Hvq := Lib.hid (Hvq.out.later (Later.trans (by first | exact Later.refl _ | exact (Later.refl _).drew | exact (Later.refl _).drewN _) hl9)); have Hvi := Lib.hid (Hvi.out.later (Later.trans (by first | exact Later.refl _ | exact (Later.refl _).drew | exact (Later.refl _).drewN _) hl9)); have Hvn := Lib.hid (Hvn.out.later (Later.trans (by first | exact Later.refl _ | exact (Later.refl _).drew | exact (Later.refl _).drewN _) hl9)); have Hvm := Lib.hid (Hvm.out.later (Later.trans (by first | exact Later.refl _ | exact (Later.refl _).drew | exact (Later.refl _).drewN _) hl9)); clear hl9)
      | (go_at_call 18; refine (clone_v (HP.out _ (Later.trans L9.out (by first | exact Later.refl _ | exact (Later.refl _).drew | exact (Later.refl _).drewN _)))).mono ?_; rintro e m10 ⟨vc, rfl, hvc, hl10⟩; have L10 : Hid (Later w2 m10) := Later.trans (Later.trans L9.out (by first | exact Later.refl _ | exact (Later.refl _).drew | exact (Later.refl _).drewN _)) hl10; have s10 := HS.out m10 L10.out; have Hvq := Lib.hid (Hvq.out.later (Later.trans (by first | exact Later.refl _ | exact (Later.refl _).drew | exact (Later.refl _).drewN _) hl10)); have Hvi := Lib.hid (Hvi.out.later (Later.trans (by first | exact Later.refl _ | exact (Later.refl _).drew | exact (Later.refl _).drewN _) hl10)); have Hvn := Lib.hid (Hvn.out.later (Later.trans (by first | exact Later.refl _ | exact (Later.refl _).drew | exact (Later.refl _).drewN _) hl10)); have Hvm := Lib.hid (Hvm.out.later (Later.trans (by first | exact Later.refl _ | exact (Later.refl _).drew | exact (Later.refl _).drewN _) hl10)); have Hvc := Lib.hid hvc; clear hvc; clear hl10)
      | (go_at_call 17; refine (HSS.out _ vc (HP.out _ (Later.trans L10.out (by first | exact Later.refl _ | exact (Later.refl _).drew | exact (Later.refl _).drewN _))) (Hvc.out.later (by first | exact Later.refl _ | exact (Later.refl _).drew | exact (Later.refl _).drewN _))).mono ?_; rintro e m11 ⟨rfl, hl11⟩; have L11 : Hid (Later w2 m11) := Later.trans (Later.trans L10.out (by first | exact Later.refl _ | exact (Later.refl _).drew | exact (Later.refl _).drewN _)) hl11; have s11 := HS.out m11 L11.out; have Hvq := Lib.hid (Hvq.out.later (Later.trans (by first | exact Later.refl _ | exact (Later.refl _).drew | exact (Later.refl _).drewN _) hl11)); have Hvi := Lib.hid (Hvi.out.later (Later.trans (by first | exact Later.refl _ | exact (Later.refl _).drew | exact (Later.refl _).drewN _) hl11)); have Hvn := Lib.hid (Hvn.out.later (Later.trans (by first | exact Later.refl _ | exact (Later.refl _).drew | exact (Later.refl _).drewN _) hl11)); have Hvm := Lib.hid (Hvm.out.later (Later.trans (by first | exact Later.refl _ | exact (Later.refl _).drew | exact (Later.refl _).drewN _) hl11)); have Hvc := Lib.hid (Hvc.out.later (Later.trans (by first | exact Later.refl _ | exact (Later.refl _).drew | exact (Later.refl _).drewN _) hl11)); clear hl11))
    go_wp2
    go_ret
    exact ⟨rfl, HL2.out.trans L11.out⟩

end Go.Proofs.YtboffgmaohcpfaaDoor
