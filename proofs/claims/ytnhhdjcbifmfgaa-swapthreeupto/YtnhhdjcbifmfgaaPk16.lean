import Derived.Test.YtnhhdjcbifmfgaaPk13
import Derived.Test.YtnhhdjcbifmfgaaPk14
import Derived.Test.YtnhhdjcbifmfgaaPk15
import Derived.BigQuiet

/-
  What the law SwapThree comes to, as a call.
-/
namespace Go.Proofs.Ytnhhdjcbifmfgaa
open Go.RowKit Go.Maps

theorem rowK_lit {k : Nat} (w : World) (css : List (List Value)) (hk : ∀ cs ∈ css, cs.length = k) (t : TypeId) : RowK k (w.alloc (.cells css.flatten.toArray t)) (some ⟨w.heap.size, 0, .none⟩) css.length css := by
  refine ⟨rfl, hk, fun _ => ⟨_, _, rfl, fun j i cs v hj hi => ?_⟩⟩
  have hik : i < k := by rw [← hk cs (List.mem_of_getElem? hj)]; exact (List.getElem?_eq_some_iff.1 hi).1
  have hb : (w.alloc (.cells css.flatten.toArray t)).heap[w.heap.size]? = some (.cells css.flatten.toArray t (0, 0)) := heap_alloc_new w _
  simp only [World.cell?, hb, Nat.zero_add]
  have := flat_at hk hj hik
  rw [hi] at this
  simpa using this
theorem prims_three {w w0 : World} {x y z : PrC} (hx : CameP w x) (hy : CameP w y) (hz : CameP w z) (hl : Later w w0) (t : TypeId) : Prims (w0.alloc (.cells #[.int .i64 x.v.kind, .string x.v.name, .string x.v.to, .int .i64 x.v.place, .slice x.A x.n x.c, .slice x.B x.m x.d, .int .i64 y.v.kind, .string y.v.name, .string y.v.to, .int .i64 y.v.place, .slice y.A y.n y.c, .slice y.B y.m y.d, .int .i64 z.v.kind, .string z.v.name, .string z.v.to, .int .i64 z.v.place, .slice z.A z.n z.c, .slice z.B z.m z.d] t)) (some ⟨w0.heap.size, 0, none⟩) 3 [x, y, z] := by
  refine ⟨rowK_lit (k := 6) w0 ([x, y, z].map prL) (fun cs hcs => ?_) t, fun q hq => ?_⟩
  · obtain ⟨q, _, rfl⟩ := List.mem_map.1 hcs
    rfl
  · simp only [List.mem_cons, List.not_mem_nil, or_false] at hq
    rcases hq with rfl | rfl | rfl
    · exact hx.later (hl.alloc _)
    · exact hy.later (hl.alloc _)
    · exact hz.later (hl.alloc _)
theorem weightPs_three (x y z : PrC) : weightPs [x, y, z] = weightP x.v + (weightP y.v + weightP z.v) := by simp [weightPs]
set_option maxRecDepth 100000 in
set_option maxHeartbeats 6400000 in
theorem swapThree_walk (x y z : PrC) (w : World) (hx : CameP w x) (hy : CameP w y) (hz : CameP w z) : Calls Try.prog 3 #[.agg (prL3 x y z).toArray] w (Says true w) := by
  have hwx := hx.weigh; have hwy := hy.weigh; have hwz := hz.weigh
  have HX := Lib.hid hx; have HY := Lib.hid hy; have HZ := Lib.hid hz
  have HB0 := Lib.hid (BoxAt.made w (prL3 x y z).toArray 25)
  have HL0 : Hid (Later w (w.alloc (.cells (prL3 x y z).toArray 25))) := (Later.refl w).alloc _
  clear hx hy hz
  go_enter Try.func3, Try.ntmps3
  go_upto_region 1 with fail
  generalize w.alloc (.cells (prL3 x y z).toArray 25) = w1 at HB0 HL0 ⊢
  generalize hg1 : w.heap.size = g1 at HB0 ⊢
  clear hg1
  have HM := Lib.hid (small_any (some ⟨w1.heap.size, 0, none⟩) 3 3 [x, y, z] (w1.alloc (.cells #[.int .i64 x.v.kind, .string x.v.name, .string x.v.to, .int .i64 x.v.place, .slice x.A x.n x.c, .slice x.B x.m x.d, .int .i64 y.v.kind, .string y.v.name, .string y.v.to, .int .i64 y.v.place, .slice y.A y.n y.c, .slice y.B y.m y.d, .int .i64 z.v.kind, .string z.v.name, .string z.v.to, .int .i64 z.v.place, .slice z.A z.n z.c, .slice z.B z.m z.d] 24)) (prims_three HX.out HY.out HZ.out HL0.out 24) (by decide) (by rw [weightPs_three]; omega))
  rw [weightPs_three] at HM
  have HLA : Hid (Later w (w1.alloc (.cells #[.int .i64 x.v.kind, .string x.v.name, .string x.v.to, .int .i64 x.v.place, .slice x.A x.n x.c, .slice x.B x.m x.d, .int .i64 y.v.kind, .string y.v.name, .string y.v.to, .int .i64 y.v.place, .slice y.A y.n y.c, .slice y.B y.m y.d, .int .i64 z.v.kind, .string z.v.name, .string z.v.to, .int .i64 z.v.place, .slice z.A z.n z.c, .slice z.B z.m z.d] 24))) := HL0.out.alloc _
  have HBA : Hid (BoxAt (w1.alloc (.cells #[.int .i64 x.v.kind, .string x.v.name, .string x.v.to, .int .i64 x.v.place, .slice x.A x.n x.c, .slice x.B x.m x.d, .int .i64 y.v.kind, .string y.v.name, .string y.v.to, .int .i64 y.v.place, .slice y.A y.n y.c, .slice y.B y.m y.d, .int .i64 z.v.kind, .string z.v.name, .string z.v.to, .int .i64 z.v.place, .slice z.A z.n z.c, .slice z.B z.m z.d] 24)) g1 (prL3 x y z).toArray 25) := HB0.out.alloc _
  have f0 : w1.cell? ⟨g1, 0, none⟩ = some (.int .i64 x.v.kind) := HB0.out.cell rfl
  have f1 : w1.cell? ⟨g1, 1, none⟩ = some (.string x.v.name) := HB0.out.cell rfl
  have f2 : w1.cell? ⟨g1, 2, none⟩ = some (.string x.v.to) := HB0.out.cell rfl
  have f3 : w1.cell? ⟨g1, 3, none⟩ = some (.int .i64 x.v.place) := HB0.out.cell rfl
  have f4 : w1.cell? ⟨g1, 4, none⟩ = some (.slice x.A x.n x.c) := HB0.out.cell rfl
  have f5 : w1.cell? ⟨g1, 5, none⟩ = some (.slice x.B x.m x.d) := HB0.out.cell rfl
  have f6 : w1.cell? ⟨g1, 6, none⟩ = some (.int .i64 y.v.kind) := HB0.out.cell rfl
  have f7 : w1.cell? ⟨g1, 7, none⟩ = some (.string y.v.name) := HB0.out.cell rfl
  have f8 : w1.cell? ⟨g1, 8, none⟩ = some (.string y.v.to) := HB0.out.cell rfl
  have f9 : w1.cell? ⟨g1, 9, none⟩ = some (.int .i64 y.v.place) := HB0.out.cell rfl
  have f10 : w1.cell? ⟨g1, 10, none⟩ = some (.slice y.A y.n y.c) := HB0.out.cell rfl
  have f11 : w1.cell? ⟨g1, 11, none⟩ = some (.slice y.B y.m y.d) := HB0.out.cell rfl
  have f12 : w1.cell? ⟨g1, 12, none⟩ = some (.int .i64 z.v.kind) := HB0.out.cell rfl
  have f13 : w1.cell? ⟨g1, 13, none⟩ = some (.string z.v.name) := HB0.out.cell rfl
  have f14 : w1.cell? ⟨g1, 14, none⟩ = some (.string z.v.to) := HB0.out.cell rfl
  have f15 : w1.cell? ⟨g1, 15, none⟩ = some (.int .i64 z.v.place) := HB0.out.cell rfl
  have f16 : w1.cell? ⟨g1, 16, none⟩ = some (.slice z.A z.n z.c) := HB0.out.cell rfl
  have f17 : w1.cell? ⟨g1, 17, none⟩ = some (.slice z.B z.m z.d) := HB0.out.cell rfl
  go_wp2_with fail
  refine HM.out.mono ?_
  rintro e w2 ⟨rfl, hl⟩
  clear f0 f1 f2 f3 f4 f5 f6 f7 f8 f9 f10 f11 f12 f13 f14 f15 f16 f17
  have HB := Lib.hid (HBA.out.later hl); have HL := Lib.hid (HLA.out.trans hl)
  clear HB0 HL0 HBA HLA HM hl
  have f0 : w2.cell? ⟨g1, 0, none⟩ = some (.int .i64 x.v.kind) := HB.out.cell rfl
  have f1 : w2.cell? ⟨g1, 1, none⟩ = some (.string x.v.name) := HB.out.cell rfl
  have f2 : w2.cell? ⟨g1, 2, none⟩ = some (.string x.v.to) := HB.out.cell rfl
  have f3 : w2.cell? ⟨g1, 3, none⟩ = some (.int .i64 x.v.place) := HB.out.cell rfl
  have f4 : w2.cell? ⟨g1, 4, none⟩ = some (.slice x.A x.n x.c) := HB.out.cell rfl
  have f5 : w2.cell? ⟨g1, 5, none⟩ = some (.slice x.B x.m x.d) := HB.out.cell rfl
  have f6 : w2.cell? ⟨g1, 6, none⟩ = some (.int .i64 y.v.kind) := HB.out.cell rfl
  have f7 : w2.cell? ⟨g1, 7, none⟩ = some (.string y.v.name) := HB.out.cell rfl
  have f8 : w2.cell? ⟨g1, 8, none⟩ = some (.string y.v.to) := HB.out.cell rfl
  have f9 : w2.cell? ⟨g1, 9, none⟩ = some (.int .i64 y.v.place) := HB.out.cell rfl
  have f10 : w2.cell? ⟨g1, 10, none⟩ = some (.slice y.A y.n y.c) := HB.out.cell rfl
  have f11 : w2.cell? ⟨g1, 11, none⟩ = some (.slice y.B y.m y.d) := HB.out.cell rfl
  have f12 : w2.cell? ⟨g1, 12, none⟩ = some (.int .i64 z.v.kind) := HB.out.cell rfl
  have f13 : w2.cell? ⟨g1, 13, none⟩ = some (.string z.v.name) := HB.out.cell rfl
  have f14 : w2.cell? ⟨g1, 14, none⟩ = some (.string z.v.to) := HB.out.cell rfl
  have f15 : w2.cell? ⟨g1, 15, none⟩ = some (.int .i64 z.v.place) := HB.out.cell rfl
  have f16 : w2.cell? ⟨g1, 16, none⟩ = some (.slice z.A z.n z.c) := HB.out.cell rfl
  have f17 : w2.cell? ⟨g1, 17, none⟩ = some (.slice z.B z.m z.d) := HB.out.cell rfl
  by_cases hg : 3 + (weightP x.v + (weightP y.v + weightP z.v)) ≤ 5000
  case neg =>
    rw [decide_eq_false hg]
    go_wp2_with fail
    refine (aliveS_any w2).mono ?_
    rintro e m2 ⟨rfl, hl⟩
    have HLE := Lib.hid (HL.out.trans hl)
    clear hl
    go_wp2
    go_ret
    exact ⟨rfl, HLE.out⟩
  rw [decide_eq_true hg]
  by_cases hpx : 10000 < x.v.place
  · go_wp2_with fail
    refine (aliveS_any w2).mono ?_
    rintro e m2 ⟨rfl, hl⟩
    have HLE := Lib.hid (HL.out.trans hl)
    clear hl
    go_wp2
    go_ret
    exact ⟨rfl, HLE.out⟩
  by_cases hpy : 10000 < y.v.place
  · go_wp2_with fail
    refine (aliveS_any w2).mono ?_
    rintro e m2 ⟨rfl, hl⟩
    have HLE := Lib.hid (HL.out.trans hl)
    clear hl
    go_wp2
    go_ret
    exact ⟨rfl, HLE.out⟩
  by_cases hpz : 10000 < z.v.place
  · go_wp2_with fail
    refine (aliveS_any w2).mono ?_
    rintro e m2 ⟨rfl, hl⟩
    have HLE := Lib.hid (HL.out.trans hl)
    clear hl
    go_wp2
    go_ret
    exact ⟨rfl, HLE.out⟩
  have OX := Lib.hid (HX.out.ok (by omega)); have OY := Lib.hid (HY.out.ok (by omega)); have OZ := Lib.hid (HZ.out.ok (by omega))
  have HSAME : Hid (runT (stepsT true) (x.v, y.v, z.v) = runT (stepsT false) (x.v, y.v, z.v)) := by
    show runT [1, 0, 1] _ = runT [0, 1, 0] _
    rw [run_early, run_late]
    refine (three_same (by omega) (by omega) (by omega) ?_).symm
    unfold weightP at hg
    omega
  obtain ⟨rR, hrR⟩ : ∃ r, r = runT (stepsT false) (x.v, y.v, z.v) := ⟨_, rfl⟩
  have H3A := Lib.hid (fun (w' : World) (hl : Later w w') => three_any x y z false w' (OX.out.later hl) (OY.out.later hl) (OZ.out.later hl))
  have H3B := Lib.hid (fun (w' : World) (hl : Later w w') => three_any x y z true w' (OX.out.later hl) (OY.out.later hl) (OZ.out.later hl))
  rw [HSAME.out] at H3B
  rw [← hrR] at H3A H3B
  clear hrR HSAME OX OY OZ HX HY HZ hwx hwy hwz
  go_upto_region 4 with fail
  have HB3 : Hid (BoxAt (w2.alloc (.cells #[.int .i64 x.v.kind, .string x.v.name, .string x.v.to, .int .i64 x.v.place, .slice x.A x.n x.c, .slice x.B x.m x.d, .int .i64 y.v.kind, .string y.v.name, .string y.v.to, .int .i64 y.v.place, .slice y.A y.n y.c, .slice y.B y.m y.d, .int .i64 z.v.kind, .string z.v.name, .string z.v.to, .int .i64 z.v.place, .slice z.A z.n z.c, .slice z.B z.m z.d] 29)) w2.heap.size (prL3 x y z).toArray 29) := BoxAt.made w2 _ _
  have HL3 : Hid (Later w (w2.alloc (.cells #[.int .i64 x.v.kind, .string x.v.name, .string x.v.to, .int .i64 x.v.place, .slice x.A x.n x.c, .slice x.B x.m x.d, .int .i64 y.v.kind, .string y.v.name, .string y.v.to, .int .i64 y.v.place, .slice y.A y.n y.c, .slice y.B y.m y.d, .int .i64 z.v.kind, .string z.v.name, .string z.v.to, .int .i64 z.v.place, .slice z.A z.n z.c, .slice z.B z.m z.d] 29))) := HL.out.alloc _
  clear f0 f1 f2 f3 f4 f5 f6 f7 f8 f9 f10 f11 f12 f13 f14 f15 f16 f17 HB HL
  generalize w2.alloc (.cells #[.int .i64 x.v.kind, .string x.v.name, .string x.v.to, .int .i64 x.v.place, .slice x.A x.n x.c, .slice x.B x.m x.d, .int .i64 y.v.kind, .string y.v.name, .string y.v.to, .int .i64 y.v.place, .slice y.A y.n y.c, .slice y.B y.m y.d, .int .i64 z.v.kind, .string z.v.name, .string z.v.to, .int .i64 z.v.place, .slice z.A z.n z.c, .slice z.B z.m z.d] 29) = w3 at HB3 HL3 ⊢
  generalize hg3 : w2.heap.size = g3 at HB3 ⊢
  clear hg3
  generalize (Value.agg #[.int .i64 x.v.kind, .string x.v.name, .string x.v.to, .int .i64 x.v.place, .slice x.A x.n x.c, .slice x.B x.m x.d, .int .i64 y.v.kind, .string y.v.name, .string y.v.to, .int .i64 y.v.place, .slice y.A y.n y.c, .slice y.B y.m y.d, .int .i64 z.v.kind, .string z.v.name, .string z.v.to, .int .i64 z.v.place, .slice z.A z.n z.c, .slice z.B z.m z.d]) = v43
  generalize (Value.agg #[.int .i64 x.v.kind, .string x.v.name, .string x.v.to, .int .i64 x.v.place, .slice x.A x.n x.c, .slice x.B x.m x.d]) = vx
  generalize (Value.agg #[.int .i64 y.v.kind, .string y.v.name, .string y.v.to, .int .i64 y.v.place, .slice y.A y.n y.c, .slice y.B y.m y.d]) = vy
  generalize (Value.agg #[.int .i64 z.v.kind, .string z.v.name, .string z.v.to, .int .i64 z.v.place, .slice z.A z.n z.c, .slice z.B z.m z.d]) = vz
  go_wp2_with (with_reducible show wpList _ _ _ ({ dst := some 45, op := Op.load _ _, type := _, pos := _, after := _, guard := _ } :: _) _ _; refine Hid.out ?_)
  refine Lib.hid (wpList_load_mid rfl _ _ rfl g3 0 rfl (prL3 x y z) _ (HB3.out.range (o := 0) (fun j u hj => by rw [Nat.zero_add, List.getElem?_toArray]; exact hj)) Try.underlying29 rfl Try.arrSize3 ?_)
  go_wp2_with fail
  refine (H3A.out _ HL3.out).mono ?_
  rintro e w4 ⟨a, b, c, rfl, hv, oa, ob, oc, hl4⟩
  have HP := Lib.hid (And.intro hv (And.intro oa (And.intro ob oc)))
  clear hv oa ob oc
  go_wp2_with (with_reducible show wpList _ _ _ ({ dst := none, op := Op.store _ (Operand.tmp 4) _, type := _, pos := _, after := _, guard := _ } :: _) _ _; refine Hid.out ?_)
  have hz : BoxAt (w4.alloc (.cells #[.int .i64 0, .string ⟨#[]⟩, .string ⟨#[]⟩, .int .i64 0, .slice none 0 0, .slice none 0 0, .int .i64 0, .string ⟨#[]⟩, .string ⟨#[]⟩, .int .i64 0, .slice none 0 0, .slice none 0 0, .int .i64 0, .string ⟨#[]⟩, .string ⟨#[]⟩, .int .i64 0, .slice none 0 0, .slice none 0 0] 29)) w4.heap.size (prL3 zeroC zeroC zeroC).toArray 29 := BoxAt.made w4 _ _
  refine Lib.hid (wpList_store_sets rfl rfl _ _ _ rfl w4.heap.size 0 (prL3 a b c) rfl rfl (hz.there (Nat.le_refl _)) Try.arrSize3 (prL3_one _ _ _) ?_)
  intro w5 hw5
  have hbn : BoxAt w5 w4.heap.size (prL3 a b c).toArray 29 := by
    have := hz.sets (prL3 a b c) (o := 0)
    rw [set_three] at this
    rw [hw5]
    exact this
  have hl5 : Later w4 w5 := by
    rw [hw5]
    exact ((Later.refl w4).alloc _).turn (turned_sets _ _ _) (Nat.le_refl _)
  have HBNP := Lib.hid hbn
  replace HL3 := Lib.hid ((HL3.out.trans hl4).trans hl5); replace HB3 := Lib.hid ((HB3.out.later hl4).later hl5)
  replace HP : Hid ((∀ p, rR = some p → p = (a.v, b.v, c.v)) ∧ PrOk w5 a ∧ PrOk w5 b ∧ PrOk w5 c) := ⟨HP.out.1, HP.out.2.1.later hl5, HP.out.2.2.1.later hl5, HP.out.2.2.2.later hl5⟩
  obtain ⟨gp, hgp⟩ : ∃ g, g = w4.heap.size := ⟨_, rfl⟩
  rw [← hgp] at HBNP ⊢
  clear hw5 hbn hz hgp hl4 hl5
  go_wp2_with (with_reducible show wpList _ _ _ ({ dst := some 50, op := Op.load _ _, type := _, pos := _, after := _, guard := _ } :: _) _ _; refine Hid.out ?_)
  refine Lib.hid (wpList_load_mid rfl _ _ rfl g3 0 rfl (prL3 x y z) _ (HB3.out.range (o := 0) (fun j u hj => by rw [Nat.zero_add, List.getElem?_toArray]; exact hj)) Try.underlying29 rfl Try.arrSize3 ?_)
  go_wp2_with fail
  refine (H3B.out _ HL3.out).mono ?_
  rintro e w6 ⟨a2, b2, c2, rfl, hv, oa, ob, oc, hl6⟩
  have HQ := Lib.hid (And.intro hv (And.intro oa (And.intro ob oc)))
  clear hv oa ob oc
  go_wp2_with (with_reducible show wpList _ _ _ ({ dst := none, op := Op.store _ (Operand.tmp 6) _, type := _, pos := _, after := _, guard := _ } :: _) _ _; refine Hid.out ?_)
  have hz : BoxAt (w6.alloc (.cells #[.int .i64 0, .string ⟨#[]⟩, .string ⟨#[]⟩, .int .i64 0, .slice none 0 0, .slice none 0 0, .int .i64 0, .string ⟨#[]⟩, .string ⟨#[]⟩, .int .i64 0, .slice none 0 0, .slice none 0 0, .int .i64 0, .string ⟨#[]⟩, .string ⟨#[]⟩, .int .i64 0, .slice none 0 0, .slice none 0 0] 29)) w6.heap.size (prL3 zeroC zeroC zeroC).toArray 29 := BoxAt.made w6 _ _
  refine Lib.hid (wpList_store_sets rfl rfl _ _ _ rfl w6.heap.size 0 (prL3 a2 b2 c2) rfl rfl (hz.there (Nat.le_refl _)) Try.arrSize3 (prL3_one _ _ _) ?_)
  intro w7 hw7
  have hbn : BoxAt w7 w6.heap.size (prL3 a2 b2 c2).toArray 29 := by
    have := hz.sets (prL3 a2 b2 c2) (o := 0)
    rw [set_three] at this
    rw [hw7]
    exact this
  have hl7 : Later w6 w7 := by
    rw [hw7]
    exact ((Later.refl w6).alloc _).turn (turned_sets _ _ _) (Nat.le_refl _)
  have HBNQ := Lib.hid hbn
  replace HBNP := Lib.hid ((HBNP.out.later hl6).later hl7)
  replace HP : Hid ((∀ p, rR = some p → p = (a.v, b.v, c.v)) ∧ PrOk w7 a ∧ PrOk w7 b ∧ PrOk w7 c) := ⟨HP.out.1, (HP.out.2.1.later hl6).later hl7, (HP.out.2.2.1.later hl6).later hl7, (HP.out.2.2.2.later hl6).later hl7⟩
  replace HL3 := Lib.hid ((HL3.out.trans hl6).trans hl7); replace HB3 := Lib.hid ((HB3.out.later hl6).later hl7)
  replace HQ : Hid ((∀ p, rR = some p → p = (a2.v, b2.v, c2.v)) ∧ PrOk w7 a2 ∧ PrOk w7 b2 ∧ PrOk w7 c2) := ⟨HQ.out.1, HQ.out.2.1.later hl7, HQ.out.2.2.1.later hl7, HQ.out.2.2.2.later hl7⟩
  obtain ⟨gq, hgq⟩ : ∃ g, g = w6.heap.size := ⟨_, rfl⟩
  rw [← hgq] at HBNQ ⊢
  clear hw7 hbn hz hgq hl6 hl7 H3A H3B HB3
  cases rR with
  | none =>
    simp only [Option.isSome_none]
    go_wp2
    go_loopg [57] 4 (fun g0 s57 wr => ∃ k : Nat, k ≤ 3 ∧ 3 - k ≤ g0 ∧ s57 = .int .i64 (k : Nat) ∧ Hid (Later w wr))
    case atStart => exact ⟨0, by omega, by omega, rfl, HL3.out⟩
    case round =>
      clear HL3
      obtain ⟨k, hk3, hgk, rfl, hlw⟩ := hrel
      by_cases hk : k < 3
      · go_wp2_with fail
        go_quiet (fail)
        go_wp2

        go_roundg (3 - (k + 1))
        case measure => omega
        case rel => exact ⟨k + 1, by omega, by omega, by go_num, hlw.out.drewN _⟩
      · obtain rfl : k = 3 := by omega
        go_wp2_with fail
        refine (aliveS_any _).mono ?_
        rintro e m2 ⟨rfl, hl⟩
        have HLE := Lib.hid (hlw.out.trans hl)
        clear hl
        go_wp2
        go_ret
        exact ⟨rfl, HLE.out⟩
  | some p =>
    have e1 := HP.out.1 p rfl
    have e2 := HQ.out.1 p rfl
    rw [e1] at e2
    simp only [Prod.mk.injEq] at e2
    have HEQ := Lib.hid e2
    have OP := Lib.hid HP.out.2; have OQ := Lib.hid HQ.out.2
    clear e1 e2 HP HQ
    simp only [Option.isSome_some]
    go_wp2
    go_loopg [57] 4 (fun g0 s57 wr => ∃ k : Nat, k ≤ 3 ∧ 3 - k ≤ g0 ∧ s57 = .int .i64 (k : Nat) ∧ Hid (Later w wr) ∧ Hid (Later w7 wr))
    case atStart => exact ⟨0, by omega, by omega, rfl, HL3.out, Later.refl _⟩
    case round =>
      clear HL3
      obtain ⟨k, hk3, hgk, rfl, hlw, hl7⟩ := hrel
      rcases (by omega : k = 0 ∨ k = 1 ∨ k = 2 ∨ k = 3) with rfl | rfl | rfl | rfl
      · go_upto_region 11 with fail
        refine sw3_same rfl (by kernel_rfl) ⟨_, rfl, rfl, rfl, rfl, by kernel_rfl⟩ ⟨_, rfl, rfl, rfl, rfl, by kernel_rfl⟩ ⟨_, rfl, rfl, rfl, rfl, by kernel_rfl, by kernel_rfl⟩ ⟨_, rfl, rfl, rfl, rfl, by kernel_rfl, by kernel_rfl⟩ ⟨_, rfl, rfl, rfl, rfl, by kernel_rfl, by kernel_rfl⟩ ⟨_, rfl, rfl, rfl, rfl, by kernel_rfl, by kernel_rfl⟩ ⟨_, rfl, rfl, rfl, rfl, by kernel_rfl, by kernel_rfl⟩ ⟨_, rfl, rfl, rfl, rfl, by kernel_rfl, by kernel_rfl⟩ ⟨_, rfl, rfl, rfl, rfl, by kernel_rfl, by kernel_rfl⟩ ⟨_, rfl, rfl, rfl, rfl, by kernel_rfl, by kernel_rfl⟩ ⟨_, rfl, rfl, rfl, rfl, by kernel_rfl⟩ (of_decide_eq_true rfl) (m := 0) (x := a) (y := a2) (g4 := gp) (g6 := gq) (by decide) rfl rfl rfl rfl (HBNP.out.later hl7.out) (HBNQ.out.later hl7.out) (fun j u hj => prL3_at0 _ _ _ hj) (fun j u hj => prL3_at0 _ _ _ hj) (OP.out.1.later hl7.out) (OQ.out.1.later hl7.out) HEQ.out.1 (fun D a' w8 so e70 hw => ?_)
        have hw8 : Later wr w8 := hw
        have HL8 := Lib.hid (hlw.out.trans hw8); have HM8 := Lib.hid (hl7.out.trans hw8)
        have ha := so.is
        simp only [List.foldl_cons, List.foldl_nil] at ha
        rw [e70] at ha
        generalize a'.eval (.tmp 60) = v60 at ha
        generalize a'.eval (.tmp 61) = v61 at ha
        generalize a'.eval (.tmp 62) = v62 at ha
        generalize a'.eval (.tmp 63) = v63 at ha
        generalize a'.eval (.tmp 64) = v64 at ha
        generalize a'.eval (.tmp 65) = v65 at ha
        generalize a'.eval (.tmp 66) = v66 at ha
        generalize a'.eval (.tmp 67) = v67 at ha
        generalize a'.eval (.tmp 68) = v68 at ha
        generalize a'.eval (.tmp 69) = v69 at ha
        clear so e70 hw hw8
        subst ha
        simp only [Act.put, List.setIfInBounds_toArray, List.set_cons_zero, List.set_cons_succ]
        go_wp2
        go_roundg (3 - (0 + 1))
        case measure => omega
        case rel => exact ⟨0 + 1, by omega, by omega, by go_num, HL8.out, HM8.out⟩
      · go_upto_region 11 with fail
        refine sw3_same rfl (by kernel_rfl) ⟨_, rfl, rfl, rfl, rfl, by kernel_rfl⟩ ⟨_, rfl, rfl, rfl, rfl, by kernel_rfl⟩ ⟨_, rfl, rfl, rfl, rfl, by kernel_rfl, by kernel_rfl⟩ ⟨_, rfl, rfl, rfl, rfl, by kernel_rfl, by kernel_rfl⟩ ⟨_, rfl, rfl, rfl, rfl, by kernel_rfl, by kernel_rfl⟩ ⟨_, rfl, rfl, rfl, rfl, by kernel_rfl, by kernel_rfl⟩ ⟨_, rfl, rfl, rfl, rfl, by kernel_rfl, by kernel_rfl⟩ ⟨_, rfl, rfl, rfl, rfl, by kernel_rfl, by kernel_rfl⟩ ⟨_, rfl, rfl, rfl, rfl, by kernel_rfl, by kernel_rfl⟩ ⟨_, rfl, rfl, rfl, rfl, by kernel_rfl, by kernel_rfl⟩ ⟨_, rfl, rfl, rfl, rfl, by kernel_rfl⟩ (of_decide_eq_true rfl) (m := 1) (x := b) (y := b2) (g4 := gp) (g6 := gq) (by decide) rfl rfl rfl rfl (HBNP.out.later hl7.out) (HBNQ.out.later hl7.out) (fun j u hj => prL3_at1 _ _ _ hj) (fun j u hj => prL3_at1 _ _ _ hj) (OP.out.2.1.later hl7.out) (OQ.out.2.1.later hl7.out) HEQ.out.2.1 (fun D a' w8 so e70 hw => ?_)
        have hw8 : Later wr w8 := hw
        have HL8 := Lib.hid (hlw.out.trans hw8); have HM8 := Lib.hid (hl7.out.trans hw8)
        have ha := so.is
        simp only [List.foldl_cons, List.foldl_nil] at ha
        rw [e70] at ha
        generalize a'.eval (.tmp 60) = v60 at ha
        generalize a'.eval (.tmp 61) = v61 at ha
        generalize a'.eval (.tmp 62) = v62 at ha
        generalize a'.eval (.tmp 63) = v63 at ha
        generalize a'.eval (.tmp 64) = v64 at ha
        generalize a'.eval (.tmp 65) = v65 at ha
        generalize a'.eval (.tmp 66) = v66 at ha
        generalize a'.eval (.tmp 67) = v67 at ha
        generalize a'.eval (.tmp 68) = v68 at ha
        generalize a'.eval (.tmp 69) = v69 at ha
        clear so e70 hw hw8
        subst ha
        simp only [Act.put, List.setIfInBounds_toArray, List.set_cons_zero, List.set_cons_succ]
        go_wp2
        go_roundg (3 - (1 + 1))
        case measure => omega
        case rel => exact ⟨1 + 1, by omega, by omega, by go_num, HL8.out, HM8.out⟩
      · go_upto_region 11 with fail
        refine sw3_same rfl (by kernel_rfl) ⟨_, rfl, rfl, rfl, rfl, by kernel_rfl⟩ ⟨_, rfl, rfl, rfl, rfl, by kernel_rfl⟩ ⟨_, rfl, rfl, rfl, rfl, by kernel_rfl, by kernel_rfl⟩ ⟨_, rfl, rfl, rfl, rfl, by kernel_rfl, by kernel_rfl⟩ ⟨_, rfl, rfl, rfl, rfl, by kernel_rfl, by kernel_rfl⟩ ⟨_, rfl, rfl, rfl, rfl, by kernel_rfl, by kernel_rfl⟩ ⟨_, rfl, rfl, rfl, rfl, by kernel_rfl, by kernel_rfl⟩ ⟨_, rfl, rfl, rfl, rfl, by kernel_rfl, by kernel_rfl⟩ ⟨_, rfl, rfl, rfl, rfl, by kernel_rfl, by kernel_rfl⟩ ⟨_, rfl, rfl, rfl, rfl, by kernel_rfl, by kernel_rfl⟩ ⟨_, rfl, rfl, rfl, rfl, by kernel_rfl⟩ (of_decide_eq_true rfl) (m := 2) (x := c) (y := c2) (g4 := gp) (g6 := gq) (by decide) rfl rfl rfl rfl (HBNP.out.later hl7.out) (HBNQ.out.later hl7.out) (fun j u hj => prL3_at2 _ _ _ hj) (fun j u hj => prL3_at2 _ _ _ hj) (OP.out.2.2.later hl7.out) (OQ.out.2.2.later hl7.out) HEQ.out.2.2 (fun D a' w8 so e70 hw => ?_)
        have hw8 : Later wr w8 := hw
        have HL8 := Lib.hid (hlw.out.trans hw8); have HM8 := Lib.hid (hl7.out.trans hw8)
        have ha := so.is
        simp only [List.foldl_cons, List.foldl_nil] at ha
        rw [e70] at ha
        generalize a'.eval (.tmp 60) = v60 at ha
        generalize a'.eval (.tmp 61) = v61 at ha
        generalize a'.eval (.tmp 62) = v62 at ha
        generalize a'.eval (.tmp 63) = v63 at ha
        generalize a'.eval (.tmp 64) = v64 at ha
        generalize a'.eval (.tmp 65) = v65 at ha
        generalize a'.eval (.tmp 66) = v66 at ha
        generalize a'.eval (.tmp 67) = v67 at ha
        generalize a'.eval (.tmp 68) = v68 at ha
        generalize a'.eval (.tmp 69) = v69 at ha
        clear so e70 hw hw8
        subst ha
        simp only [Act.put, List.setIfInBounds_toArray, List.set_cons_zero, List.set_cons_succ]
        go_wp2
        go_roundg (3 - (2 + 1))
        case measure => omega
        case rel => exact ⟨2 + 1, by omega, by omega, by go_num, HL8.out, HM8.out⟩
      · go_wp2_with fail
        refine (aliveS_any _).mono ?_
        rintro e m2 ⟨rfl, hl⟩
        have HLE := Lib.hid (hlw.out.trans hl)
        clear hl
        go_wp2
        go_ret
        exact ⟨rfl, HLE.out⟩

end Go.Proofs.Ytnhhdjcbifmfgaa
