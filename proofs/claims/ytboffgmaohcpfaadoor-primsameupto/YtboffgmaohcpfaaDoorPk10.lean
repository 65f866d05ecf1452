import Derived.Test.YtboffgmaohcpfaaDoorPk9

/-
  What the law PrimSame comes to, as a call.
-/
namespace Go.Proofs.YtboffgmaohcpfaaDoor
open Go.RowKit Go.Maps

theorem prims_two {w w0 : World} {x y : PrC} (hx : CameP w x) (hy : CameP w y) (hl : Later w w0) (t : TypeId) : Prims (w0.alloc (.cells #[.int .i64 x.v.kind, .string x.v.name, .string x.v.to, .int .i64 x.v.place, .slice x.A x.n x.c, .slice x.B x.m x.d, .int .i64 y.v.kind, .string y.v.name, .string y.v.to, .int .i64 y.v.place, .slice y.A y.n y.c, .slice y.B y.m y.d] t)) (some ⟨w0.heap.size, 0, none⟩) 2 [x, y] := by
  refine ⟨⟨rfl, fun cs hcs => ?_, fun _ => ⟨_, _, rfl, fun j i cs v hj hi => ?_⟩⟩, fun z hz => ?_⟩
  · simp at hcs
    rcases hcs with rfl | rfl <;> rfl
  · have hb : (w0.alloc (.cells #[.int .i64 x.v.kind, .string x.v.name, .string x.v.to, .int .i64 x.v.place, .slice x.A x.n x.c, .slice x.B x.m x.d, .int .i64 y.v.kind, .string y.v.name, .string y.v.to, .int .i64 y.v.place, .slice y.A y.n y.c, .slice y.B y.m y.d] t)).heap[w0.heap.size]? = some (.cells #[.int .i64 x.v.kind, .string x.v.name, .string x.v.to, .int .i64 x.v.place, .slice x.A x.n x.c, .slice x.B x.m x.d, .int .i64 y.v.kind, .string y.v.name, .string y.v.to, .int .i64 y.v.place, .slice y.A y.n y.c, .slice y.B y.m y.d] t (0, 0)) := heap_alloc_new w0 _
    have key : ∀ (k : Nat) v, (prL x ++ prL y)[k]? = some v → (w0.alloc (.cells #[.int .i64 x.v.kind, .string x.v.name, .string x.v.to, .int .i64 x.v.place, .slice x.A x.n x.c, .slice x.B x.m x.d, .int .i64 y.v.kind, .string y.v.name, .string y.v.to, .int .i64 y.v.place, .slice y.A y.n y.c, .slice y.B y.m y.d] t)).cell? ⟨w0.heap.size, k, none⟩ = some v := fun k v hk => by
      simp only [World.cell?, hb]
      show (prL x ++ prL y).toArray[k]? = some v
      rw [List.getElem?_toArray]
      exact hk
    match j, hj with
    | 0, hj =>
      simp at hj; subst hj
      have hil : i < (prL x).length := (List.getElem?_eq_some_iff.1 hi).1
      rw [Nat.zero_mul, Nat.zero_add]
      exact key i v (by rw [List.getElem?_append_left hil]; exact hi)
    | 1, hj =>
      simp at hj; subst hj
      rw [Nat.one_mul, Nat.zero_add]
      exact key (6 + i) v (by rw [List.getElem?_append_right (by show 6 ≤ 6 + i; omega), show 6 + i - (prL x).length = i from by show 6 + i - 6 = i; omega]; exact hi)
  · simp at hz
    rcases hz with rfl | rfl
    · exact hx.later (hl.alloc _)
    · exact hy.later (hl.alloc _)

set_option maxRecDepth 100000 in
set_option maxHeartbeats 8000000 in
theorem primSame_walk (x y : PrC) (w : World) (hx : CameP w x) (hy : CameP w y) (htab : Tab w) : Calls Tryd.prog 4 #[prV x, prV y] w (Says true w) := by
  have hw := hx.weigh
  have hw2 := hy.weigh
  have hlb : Later w (((w.alloc (.cells #[.int .i64 x.v.kind, .string x.v.name, .string x.v.to, .int .i64 x.v.place, .slice x.A x.n x.c, .slice x.B x.m x.d] 24)).alloc (.cells #[.int .i64 y.v.kind, .string y.v.name, .string y.v.to, .int .i64 y.v.place, .slice y.A y.n y.c, .slice y.B y.m y.d] 24)).alloc (.cells #[.int .i64 x.v.kind, .string x.v.name, .string x.v.to, .int .i64 x.v.place, .slice x.A x.n x.c, .slice x.B x.m x.d, .int .i64 y.v.kind, .string y.v.name, .string y.v.to, .int .i64 y.v.place, .slice y.A y.n y.c, .slice y.B y.m y.d] 24)) := (((Later.refl w).alloc _).alloc _).alloc _
  have HM : Hid (Calls Tryd.prog 7 #[.slice (some ⟨w.heap.size + 1 + 1, 0, none⟩) 2 2] (((w.alloc (.cells #[.int .i64 x.v.kind, .string x.v.name, .string x.v.to, .int .i64 x.v.place, .slice x.A x.n x.c, .slice x.B x.m x.d] 24)).alloc (.cells #[.int .i64 y.v.kind, .string y.v.name, .string y.v.to, .int .i64 y.v.place, .slice y.A y.n y.c, .slice y.B y.m y.d] 24)).alloc (.cells #[.int .i64 x.v.kind, .string x.v.name, .string x.v.to, .int .i64 x.v.place, .slice x.A x.n x.c, .slice x.B x.m x.d, .int .i64 y.v.kind, .string y.v.name, .string y.v.to, .int .i64 y.v.place, .slice y.A y.n y.c, .slice y.B y.m y.d] 24)) fun e w' => e = .returned (.int .i64 (2 + (weightP x.v + weightP y.v) : Nat)) ∧ Later (((w.alloc (.cells #[.int .i64 x.v.kind, .string x.v.name, .string x.v.to, .int .i64 x.v.place, .slice x.A x.n x.c, .slice x.B x.m x.d] 24)).alloc (.cells #[.int .i64 y.v.kind, .string y.v.name, .string y.v.to, .int .i64 y.v.place, .slice y.A y.n y.c, .slice y.B y.m y.d] 24)).alloc (.cells #[.int .i64 x.v.kind, .string x.v.name, .string x.v.to, .int .i64 x.v.place, .slice x.A x.n x.c, .slice x.B x.m x.d, .int .i64 y.v.kind, .string y.v.name, .string y.v.to, .int .i64 y.v.place, .slice y.A y.n y.c, .slice y.B y.m y.d] 24)) w') := by
    have h2 := prims_two hx hy (((Later.refl w).alloc (.cells #[.int .i64 x.v.kind, .string x.v.name, .string x.v.to, .int .i64 x.v.place, .slice x.A x.n x.c, .slice x.B x.m x.d] 24)).alloc (.cells #[.int .i64 y.v.kind, .string y.v.name, .string y.v.to, .int .i64 y.v.place, .slice y.A y.n y.c, .slice y.B y.m y.d] 24)) 24
    rw [show ((w.alloc (.cells #[.int .i64 x.v.kind, .string x.v.name, .string x.v.to, .int .i64 x.v.place, .slice x.A x.n x.c, .slice x.B x.m x.d] 24)).alloc (.cells #[.int .i64 y.v.kind, .string y.v.name, .string y.v.to, .int .i64 y.v.place, .slice y.A y.n y.c, .slice y.B y.m y.d] 24)).heap.size = w.heap.size + 1 + 1 from by simp] at h2
    have e : weightPs [x, y] = weightP x.v + weightP y.v := by simp [weightPs]
    have := manyP_any _ 2 2 [x, y] _ h2 (by omega) (by rw [e]; omega)
    rw [e] at this
    exact this
  have hbx : BoxAt (((w.alloc (.cells #[.int .i64 x.v.kind, .string x.v.name, .string x.v.to, .int .i64 x.v.place, .slice x.A x.n x.c, .slice x.B x.m x.d] 24)).alloc (.cells #[.int .i64 y.v.kind, .string y.v.name, .string y.v.to, .int .i64 y.v.place, .slice y.A y.n y.c, .slice y.B y.m y.d] 24)).alloc (.cells #[.int .i64 x.v.kind, .string x.v.name, .string x.v.to, .int .i64 x.v.place, .slice x.A x.n x.c, .slice x.B x.m x.d, .int .i64 y.v.kind, .string y.v.name, .string y.v.to, .int .i64 y.v.place, .slice y.A y.n y.c, .slice y.B y.m y.d] 24)) w.heap.size (prL x).toArray 24 := ((BoxAt.made w (prL x).toArray 24).alloc _).alloc _
  have hby : BoxAt (((w.alloc (.cells #[.int .i64 x.v.kind, .string x.v.name, .string x.v.to, .int .i64 x.v.place, .slice x.A x.n x.c, .slice x.B x.m x.d] 24)).alloc (.cells #[.int .i64 y.v.kind, .string y.v.name, .string y.v.to, .int .i64 y.v.place, .slice y.A y.n y.c, .slice y.B y.m y.d] 24)).alloc (.cells #[.int .i64 x.v.kind, .string x.v.name, .string x.v.to, .int .i64 x.v.place, .slice x.A x.n x.c, .slice x.B x.m x.d, .int .i64 y.v.kind, .string y.v.name, .string y.v.to, .int .i64 y.v.place, .slice y.A y.n y.c, .slice y.B y.m y.d] 24)) (w.heap.size + 1) (prL y).toArray 24 := by
    have := (BoxAt.made (w.alloc (.cells #[.int .i64 x.v.kind, .string x.v.name, .string x.v.to, .int .i64 x.v.place, .slice x.A x.n x.c, .slice x.B x.m x.d] 24)) (prL y).toArray 24).alloc (.cells #[.int .i64 x.v.kind, .string x.v.name, .string x.v.to, .int .i64 x.v.place, .slice x.A x.n x.c, .slice x.B x.m x.d, .int .i64 y.v.kind, .string y.v.name, .string y.v.to, .int .i64 y.v.place, .slice y.A y.n y.c, .slice y.B y.m y.d] 24)
    rw [show (w.alloc (.cells #[.int .i64 x.v.kind, .string x.v.name, .string x.v.to, .int .i64 x.v.place, .slice x.A x.n x.c, .slice x.B x.m x.d] 24)).heap.size = w.heap.size + 1 from by simp] at this
    exact this
  have HLB := Lib.hid hlb; have HBX := Lib.hid hbx; have HBY := Lib.hid hby; have HTB := Lib.hid htab; have HX := Lib.hid hx; have HY := Lib.hid hy
  clear hlb hbx hby htab hx hy
  unfold prV
  by_cases hg : 4000 < 2 + (weightP x.v + weightP y.v)
  · go_enter Tryd.func4, Tryd.ntmps4
    go_wp2_with fail
    refine HM.out.mono ?_
    rintro e w1 ⟨rfl, hl1⟩
    have HL1 := Lib.hid (HLB.out.trans hl1); clear hl1
    go_wp2_with fail
    refine (aliveP_any w1 (HTB.out.later HL1.out)).mono ?_
    rintro e w2 ⟨rfl, hl2⟩
    have HL2 := Lib.hid (HL1.out.trans hl2); clear hl2
    go_wp2
    go_ret
    exact ⟨rfl, HL2.out⟩
  · have HOX := Lib.hid (HX.out.ok (by omega)); have HOY := Lib.hid (HY.out.ok (by omega))
    go_enter Tryd.func4, Tryd.ntmps4
    go_wp2_with fail
    refine HM.out.mono ?_
    rintro e w1 ⟨rfl, hl1⟩
    have HL1 := Lib.hid (HLB.out.trans hl1)
    have HS : Hid (∀ w', Later w1 w' → w'.cell? ⟨w.heap.size, 0, none⟩ = some (.int .i64 x.v.kind) ∧ w'.cell? ⟨w.heap.size, 1, none⟩ = some (.string x.v.name) ∧ w'.cell? ⟨w.heap.size, 2, none⟩ = some (.string x.v.to) ∧ w'.cell? ⟨w.heap.size, 3, none⟩ = some (.int .i64 x.v.place) ∧ w'.cell? ⟨w.heap.size, 4, none⟩ = some (.slice x.A x.n x.c) ∧ w'.cell? ⟨w.heap.size, 5, none⟩ = some (.slice x.B x.m x.d) ∧ w'.cell? ⟨w.heap.size + 1, 0, none⟩ = some (.int .i64 y.v.kind) ∧ w'.cell? ⟨w.heap.size + 1, 1, none⟩ = some (.string y.v.name) ∧ w'.cell? ⟨w.heap.size + 1, 2, none⟩ = some (.string y.v.to) ∧ w'.cell? ⟨w.heap.size + 1, 3, none⟩ = some (.int .i64 y.v.place) ∧ w'.cell? ⟨w.heap.size + 1, 4, none⟩ = some (.slice y.A y.n y.c) ∧ w'.cell? ⟨w.heap.size + 1, 5, none⟩ = some (.slice y.B y.m y.d)) := fun w' hl => by
      have h1 := (HBX.out.later (hl1.trans hl)).six
      have h2 := (HBY.out.later (hl1.trans hl)).six
      exact ⟨h1.1, h1.2.1, h1.2.2.1, h1.2.2.2.1, h1.2.2.2.2.1, h1.2.2.2.2.2, h2⟩
    clear hl1
    have s0 := HS.out w1 (Later.refl w1)
    have HS1 := Lib.hid (fun (w' : World) (hl : Later w1 w') => same_v (HOX.out.later (HL1.out.trans hl)).at (HOY.out.later (HL1.out.trans hl)).at)
    have HS2 := Lib.hid (fun (w' : World) (hl : Later w1 w') => refSame_v (HOX.out.later (HL1.out.trans hl)).at (HOY.out.later (HL1.out.trans hl)).at)
    generalize sameP x.v y.v = rb at HS1 HS2
    have hbb : (rb == rb) = true := by simp
    unfold prV at HS1 HS2
    clear HX HY HOX HOY HM HBX HBY HLB
    go_wp2_with fail
    go_region_held3 (fun w' => w'.cell? ⟨w.heap.size, 0, none⟩ = some (.int .i64 x.v.kind) ∧ w'.cell? ⟨w.heap.size, 1, none⟩ = some (.string x.v.name) ∧ w'.cell? ⟨w.heap.size, 2, none⟩ = some (.string x.v.to) ∧ w'.cell? ⟨w.heap.size, 3, none⟩ = some (.int .i64 x.v.place) ∧ w'.cell? ⟨w.heap.size, 4, none⟩ = some (.slice x.A x.n x.c) ∧ w'.cell? ⟨w.heap.size, 5, none⟩ = some (.slice x.B x.m x.d) ∧ w'.cell? ⟨w.heap.size + 1, 0, none⟩ = some (.int .i64 y.v.kind) ∧ w'.cell? ⟨w.heap.size + 1, 1, none⟩ = some (.string y.v.name) ∧ w'.cell? ⟨w.heap.size + 1, 2, none⟩ = some (.string y.v.to) ∧ w'.cell? ⟨w.heap.size + 1, 3, none⟩ = some (.int .i64 y.v.place) ∧ w'.cell? ⟨w.heap.size + 1, 4, none⟩ = some (.slice y.A y.n y.c) ∧ w'.cell? ⟨w.heap.size + 1, 5, none⟩ = some (.slice y.B y.m y.d))
      (first | exact s3 | exact s2 | exact s1 | exact s0)
      (first
      | (go_at_call 11; have hq := L2; clear hq; refine (HS2.out _ (Later.trans L2.out (by first | exact Later.refl _ | exact (Later.refl _).drew | exact (Later.refl _).drewN _))).mono ?_; rintro e m3 ⟨rfl, hl3⟩; have L3 : Hid (Later w1 m3) := Later.trans (Later.trans L2.out (by first | exact Later.refl _ | exact (Later.refl _).drew | exact (Later.refl _).drewN _)) hl3; have s3 := HS.out m3 L3.out; clear hl3)
      | (go_at_call 17; have hq := L1; clear hq; refine (HS1.out _ (Later.trans L1.out (by first | exact Later.refl _ | exact (Later.refl _).drew | exact (Later.refl _).drewN _))).mono ?_; rintro e m2 ⟨rfl, hl2⟩; have L2 : Hid (Later w1 m2) := Later.trans (Later.trans L1.out (by first | exact Later.refl _ | exact (Later.refl _).drew | exact (Later.refl _).drewN _)) hl2; have s2 := HS.out m2 L2.out; clear hl2)
      | (go_at_call 8; refine (aliveP_any _ (HTB.out.later (HL1.out.trans (by first | exact Later.refl _ | exact (Later.refl _).drew | exact (Later.refl _).drewN _)))).mono ?_; rintro e m1 ⟨rfl, hl1⟩; have L1 : Hid (Later w1 m1) := Later.trans (by first | exact Later.refl _ | exact (Later.refl _).drew | exact (Later.refl _).drewN _) hl1; have s1 := HS.out m1 L1.out; clear hl1))
    go_wp2
    go_ret
    exact ⟨rfl, HL1.out.trans L3.out⟩

end Go.Proofs.YtboffgmaohcpfaaDoor
