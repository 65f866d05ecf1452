import Derived.Test.YtnhhdjcbifmfgaaDoorPk7
import Derived.Test.YtnhhdjcbifmfgaaDoorPk8
import Derived.Test.YtnhhdjcbifmfgaaDoorPk9
import Derived.Test.YtnhhdjcbifmfgaaDoorPk10
import Derived.Test.YtnhhdjcbifmfgaaDoorPk11
import Derived.Test.YtnhhdjcbifmfgaaDoorPk12
import Derived.Deep.Cut

/-
  What the law PrimOwn comes to, as a call: the tree, where the guard lets it be.
-/
namespace Go.Proofs.YtnhhdjcbifmfgaaDoor
open Go.RowKit Go.Maps

theorem FA.offO {w w' : World} {B g : Nat} {z : Fl Held} (h : FA w B z) (hg : Turned g w w') (hB : B ≠ g) (ho : ∀ f ∈ z, f.2.1.ownBlock ≠ some g) : FA w' B z :=
  ⟨h.own.kept hg (by simpa using hB), h.rise, (fun f hf => by
    obtain ⟨A, n, c, e, h1, h2⟩ := h.reads f hf
    refine ⟨A, n, c, e, h1, h2.1, fun hn => ?_⟩
    obtain ⟨b, o, e', hc⟩ := h2.2 hn
    refine ⟨b, o, e', fun j s hs => hg.cell (hc j s hs) (fun e2 => ho f hf ?_)⟩
    rw [e, e']
    exact congrArg some e2), fun f hf k hk => by
    obtain ⟨cur, hc⟩ := h.typed f hf k hk
    refine ⟨cur, (hg.block k (Array.getElem?_eq_some_iff.1 hc).1 (fun e => ?_)).trans hc⟩
    cases e
    exact ho f hf hk⟩
/-- A block of lines whose first one may be written. -/
def Can (w : World) (b : Nat) : Prop := ∃ cur, w.heap[b]? = some (.cells cur 9 (0, 0)) ∧ 0 < cur.size
theorem Can.cell {w : World} {b : Nat} (h : Can w b) : (∃ t, w.cell? ⟨b, 0, none⟩ = some t) ∧ w.frozen? ⟨b, 0, none⟩ = false := by
  obtain ⟨cur, h1, h2⟩ := h
  refine ⟨⟨cur[0], ?_⟩, frozen_no h1 0⟩
  simp only [World.cell?, h1]
  exact Array.getElem?_eq_getElem h2
theorem Can.set {w : World} {b : Nat} (h : Can w b) (g : Nat) (u : Value) : Can (w.setCell ⟨g, 0, none⟩ u) b := by
  obtain ⟨cur, h1, h2⟩ := h
  by_cases e : b = g
  · subst e
    exact ⟨_, heap_setCell_same w b 0 cur 9 u h1, by simpa using h2⟩
  · exact ⟨cur, (heap_setCell_other w _ b u e).trans h1, h2⟩
theorem Own.can {w0 w : World} {b k : Nat} {n : Nat} {cur : Array Value} {l : List ByteArray} (h : Own 9 w0 w (.slice (some ⟨b, 0, none⟩) n k) l) (hh : w.heap[b]? = some (.cells cur 9 (0, 0))) (hl : 1 ≤ l.length) : Can w b := by
  refine ⟨cur, hh, ?_⟩
  rcases h.1.2 with ⟨e, _⟩ | ⟨g, cap, cur', hv, _, hh', hnc, _, hs, _⟩
  · cases e
  · simp only [Value.slice.injEq, Option.some.injEq, Addr.mk.injEq] at hv
    obtain ⟨⟨rfl, _⟩, _, _⟩ := hv
    rw [hh] at hh'
    simp only [Option.some.injEq, Obj.cells.injEq] at hh'
    rw [hh'.1, hs]
    omega

set_option maxRecDepth 100000 in
set_option maxHeartbeats 8000000 in
theorem primOwn_main (x : PrC) (w : World) (hx : CameP w x) (htab : Tab w) (hg : ¬ 4000 < 1 + weightP x.v) (hk : x.v.kind = 0) (h1 : ¬ x.n = 0) (h2 : ¬ x.m = 0) (hr : rightP x.v = true) (h3 : ¬ 100 < x.v.place) : Calls Tryd.prog 3 #[prV x] w (Says true w) := by
  have hw := hx.weigh
  have HM := Lib.hid (manyP_any (some ⟨w.heap.size + 1, 0, none⟩) 1 1 [x] ((w.alloc (.cells #[.int .i64 x.v.kind, .string x.v.name, .string x.v.to, .int .i64 x.v.place, .slice x.A x.n x.c, .slice x.B x.m x.d] 24)).alloc (.cells #[.int .i64 x.v.kind, .string x.v.name, .string x.v.to, .int .i64 x.v.place, .slice x.A x.n x.c, .slice x.B x.m x.d] 24)) (by have := prims_one hx ((Later.refl w).alloc (.cells #[.int .i64 x.v.kind, .string x.v.name, .string x.v.to, .int .i64 x.v.place, .slice x.A x.n x.c, .slice x.B x.m x.d] 24)) 24; simpa using this) (by omega) (by rw [weightPs_one]; omega))
  rw [weightPs_one] at HM
  have hlb : Later w ((w.alloc (.cells #[.int .i64 x.v.kind, .string x.v.name, .string x.v.to, .int .i64 x.v.place, .slice x.A x.n x.c, .slice x.B x.m x.d] 24)).alloc (.cells #[.int .i64 x.v.kind, .string x.v.name, .string x.v.to, .int .i64 x.v.place, .slice x.A x.n x.c, .slice x.B x.m x.d] 24)) := ((Later.refl w).alloc _).alloc _
  have hbx : BoxAt ((w.alloc (.cells #[.int .i64 x.v.kind, .string x.v.name, .string x.v.to, .int .i64 x.v.place, .slice x.A x.n x.c, .slice x.B x.m x.d] 24)).alloc (.cells #[.int .i64 x.v.kind, .string x.v.name, .string x.v.to, .int .i64 x.v.place, .slice x.A x.n x.c, .slice x.B x.m x.d] 24)) w.heap.size (prL x).toArray 24 := (BoxAt.made w (prL x).toArray 24).alloc _
  have hol := hx.old.len
  have hnl := hx.new.len
  have HLB := Lib.hid hlb; have HBX := Lib.hid hbx; have HTB := Lib.hid htab; have HX := Lib.hid hx
  have hlo := hx.lo; have hhi := hx.hi
  clear hlb hbx htab hx
  unfold prV
  have hd0 : decide ((4000 : Int) < 1 + (weightP x.v : Int)) = false := decide_eq_false (by omega)
  have hno : x.n ≤ 4000 ∧ x.m ≤ 4000 := by unfold weightP at hg; omega
  have HOK := Lib.hid (HX.out.ok (by omega))
  have hkd : (x.v.kind != 0) = false := by rw [hk]; rfl
  have HK := Lib.hid hk
  clear hk
  have hd1 : ((x.n : Int) == 0) = false := by rw [beq_eq_false_iff_ne]; omega
  have hd2 : ((x.m : Int) == 0) = false := by rw [beq_eq_false_iff_ne]; omega
  have HR := Lib.hid (fun (w1 : World) (hl : Later w w1) => refRight_v (HOK.out.later hl).at)
  unfold prV at HR
  have HRT := Lib.hid hr
  rw [hr] at HR
  have hd3 : decide ((100 : Int) < x.v.place) = false := decide_eq_false (by omega)
  go_enter Tryd.func3, Tryd.ntmps3
  go_wp2_with fail
  refine HM.out.mono ?_
  rintro e w1 ⟨rfl, hl1⟩
  have hb1 := HBX.out.later hl1
  obtain ⟨y0, y1, y2, y3, y4, y5⟩ := hb1.six
  have HB1 := Lib.hid hb1
  have HL1 := Lib.hid (HLB.out.trans hl1)
  clear hl1 hb1
  go_wp2_with fail
  refine (HR.out w1 HL1.out).mono ?_
  rintro e w2 ⟨rfl, hl2⟩
  obtain ⟨q0, q1, q2, q3, q4, q5⟩ := (HB1.out.later hl2).six
  have HB2 := Lib.hid (HB1.out.later hl2)
  have HL2 := Lib.hid (HL1.out.trans hl2)
  clear hl2 y0 y1 y2 y3 y4 y5
  have HC := Lib.hid (primClone_any x w2 (HOK.out.later HL2.out))
  unfold prV at HC
  go_wp2_with fail
  refine HC.out.mono ?_
  rintro e w3 ⟨u, v, rfl, hpr⟩
  obtain ⟨A1, c1, hv1, hc1, hr1⟩ := hpr.old.row
  obtain ⟨A2, c2, hv2, hc2, hr2⟩ := hpr.new.row
  subst hv1 hv2
  have hm := HOK.out.mild
  obtain ⟨z, hz⟩ : ∃ z : PrC, z = ⟨x.v, A1, x.v.old.length, c1, A2, x.v.new.length, c2⟩ := ⟨_, rfl⟩
  have hzv : z.v = x.v := by rw [hz]
  have hzo : PrOk w3 z := by rw [hz]; exact ⟨hr1, hr2, hc1, hc2, hm.omost, hm.nmost, hm.name, hm.to, hm.lo, hm.hi, hm.olds, hm.news⟩
  have hzc : (Value.agg #[.int .i64 x.v.kind, .string x.v.name, .string x.v.to, .int .i64 x.v.place, .slice A1 x.v.old.length c1, .slice A2 x.v.new.length c2]) = .agg #[.int .i64 z.v.kind, .string z.v.name, .string z.v.to, .int .i64 z.v.place, .slice z.A z.n z.c, .slice z.B z.m z.d] := by rw [hz]
  have hzp : IsPr z.v w2 w3 (.slice z.A z.n z.c) (.slice z.B z.m z.d) := by rw [hz]; exact hpr
  rw [hzc]
  clear hzc hz
  have HLX : Hid (Later w (w3.alloc (.cells #[.int .i64 z.v.kind, .string z.v.name, .string z.v.to, .int .i64 z.v.place, .slice z.A z.n z.c, .slice z.B z.m z.d] 29))) := (HL2.out.trans hpr.later).alloc _
  have HBX1 := Lib.hid (((HB2.out.later hpr.later)).alloc (.cells #[.int .i64 z.v.kind, .string z.v.name, .string z.v.to, .int .i64 z.v.place, .slice z.A z.n z.c, .slice z.B z.m z.d] 29))
  have HBZ : Hid (BoxAt (w3.alloc (.cells #[.int .i64 z.v.kind, .string z.v.name, .string z.v.to, .int .i64 z.v.place, .slice z.A z.n z.c, .slice z.B z.m z.d] 29)) w3.heap.size (prL z).toArray 29) := BoxAt.made w3 (prL z).toArray 29
  have HZO := Lib.hid (hzo.later ((Later.refl w3).alloc (.cells #[.int .i64 z.v.kind, .string z.v.name, .string z.v.to, .int .i64 z.v.place, .slice z.A z.n z.c, .slice z.B z.m z.d] 29)))
  have HZP := Lib.hid ((hzp.base HL2.out).on ((Later.refl w3).alloc (.cells #[.int .i64 z.v.kind, .string z.v.name, .string z.v.to, .int .i64 z.v.place, .slice z.A z.n z.c, .slice z.B z.m z.d] 29)))
  have HZV := Lib.hid hzv
  clear hpr hr1 hr2 hc1 hc2 hm hzv hzo hzp q0 q1 q2 q3 q4 q5 HC HB1 HB2 HL1 HM HLB HBX HR
  go_upto_region 4 with fail
  generalize w3.heap.size = gz at HBZ ⊢
  generalize w3.alloc (.cells #[.int .i64 z.v.kind, .string z.v.name, .string z.v.to, .int .i64 z.v.place, .slice z.A z.n z.c, .slice z.B z.m z.d] 29) = wx at HLX HBX1 HBZ HZO HZP ⊢
  obtain ⟨hzn, hzm⟩ : 1 ≤ z.v.old.length ∧ 1 ≤ z.v.new.length := by rw [HZV.out, hol, hnl]; omega
  have hiv : invertP z.v = { z.v with old := z.v.new, new := z.v.old } := by
    have : z.v.kind = 0 := by rw [HZV.out]; exact HK.out
    simp [invertP, this]
  have HIV := Lib.hid hiv
  clear hiv
  go_cut [4, 5] from 42 (fun s4 s5 wr => ∃ (g4 g5 : Nat) (r1 r2 r3 r4 : Value), s4 = .pointer (some ⟨g4, 0, none⟩) ∧ s5 = .pointer (some ⟨g5, 0, none⟩) ∧ Hid (wr.cell? ⟨g4, 4, none⟩ = some r1 ∧ wr.cell? ⟨g4, 5, none⟩ = some r2 ∧ wr.cell? ⟨g5, 4, none⟩ = some r3 ∧ wr.cell? ⟨g5, 5, none⟩ = some r4) ∧ Hid (Own 9 wx wr r1 z.v.new ∧ Own 9 wx wr r2 z.v.old ∧ Own 9 wx wr r3 z.v.old ∧ Own 9 wx wr r4 z.v.new) ∧ Hid ((r1.ownBlock ≠ some g4 ∧ r2.ownBlock ≠ some g4 ∧ r3.ownBlock ≠ some g4 ∧ r4.ownBlock ≠ some g4) ∧ (r1.ownBlock ≠ some g5 ∧ r2.ownBlock ≠ some g5 ∧ r3.ownBlock ≠ some g5 ∧ r4.ownBlock ≠ some g5)))
  case first =>
    refine two_start ⟨rfl, ⟨_, rfl, rfl, rfl, rfl⟩, ⟨_, rfl, rfl, rfl, rfl⟩, ⟨_, rfl, rfl, rfl, rfl⟩, ⟨_, rfl, rfl, rfl, rfl⟩, ⟨_, rfl, rfl, rfl, rfl⟩, ⟨_, rfl, rfl, rfl, rfl⟩, ⟨_, rfl, rfl, rfl, rfl⟩, ⟨_, rfl, rfl, rfl, rfl⟩, by kernel_rfl⟩ (of_decide_eq_true rfl) rfl rfl HBZ.out HZO.out (fun d a w' h => ?_)
    have hact := h.act
    subst hact
    obtain ⟨p1, _, _, _, _, _, _, _, p3, p4⟩ := h.a4 rfl
    obtain ⟨p4a, p4b⟩ := p4 rfl
    subst p4a p4b
    obtain ⟨q1, _, _, _, _, _, _, _, q3, q4⟩ := h.a5 rfl
    obtain ⟨q4a, q4b⟩ := q4 rfl
    subst q4a q4b
    have hc1 := h.c1 rfl
    rw [HIV.out] at hc1
    have HFIN : Hid (∃ (g4 g5 : Nat) (r1 r2 r3 r4 : Value), d.u4 = .pointer (some ⟨g4, 0, none⟩) ∧ d.u5 = .pointer (some ⟨g5, 0, none⟩) ∧ Hid (w'.cell? ⟨g4, 4, none⟩ = some r1 ∧ w'.cell? ⟨g4, 5, none⟩ = some r2 ∧ w'.cell? ⟨g5, 4, none⟩ = some r3 ∧ w'.cell? ⟨g5, 5, none⟩ = some r4) ∧ Hid (Own 9 wx w' r1 z.v.new ∧ Own 9 wx w' r2 z.v.old ∧ Own 9 wx w' r3 z.v.old ∧ Own 9 wx w' r4 z.v.new) ∧ Hid ((r1.ownBlock ≠ some g4 ∧ r2.ownBlock ≠ some g4 ∧ r3.ownBlock ≠ some g4 ∧ r4.ownBlock ≠ some g4) ∧ (r1.ownBlock ≠ some g5 ∧ r2.ownBlock ≠ some g5 ∧ r3.ownBlock ≠ some g5 ∧ r4.ownBlock ≠ some g5))) :=
      ⟨d.g4, d.g5, d.r1, d.r2, d.r3, d.r4, p1, q1, ⟨p3.cell rfl, p3.cell rfl, q3.cell rfl, q3.cell rfl⟩, ⟨hc1.2.1, hc1.2.2, (h.c3 rfl).2.1, (h.c3 rfl).2.2⟩, ⟨⟨(h.n14 rfl rfl).1, (h.n14 rfl rfl).2, (h.n34 rfl rfl).1, (h.n34 rfl rfl).2⟩, ⟨(h.n15 rfl rfl).1, (h.n15 rfl rfl).2, (h.n35 rfl rfl).1, (h.n35 rfl rfl).2⟩⟩⟩
    clear h hc1 p1 p3 q1 q3 p4 q4
    unfold twoF
    generalize d.u42 = e42; generalize d.u43 = e43; generalize d.u44 = e44; generalize d.u45 = e45
    generalize d.u4 = e4 at HFIN ⊢
    generalize d.u5 = e5 at HFIN ⊢
    simp only [Act.put, List.setIfInBounds_toArray, List.set_cons_zero, List.set_cons_succ]
    go_wp2_with fail
    go_meet
    exact HFIN.out
  case rest =>
  obtain ⟨g4, g5, r1, r2, r3, r4, rfl, rfl, HCE, HOW, HNE⟩ := hcut
  obtain ⟨f1, f2, f3, f4⟩ := HOW.out
  obtain ⟨v1, k1, cur1, hv1, hk1, hb1, hh1, hc1⟩ := f1.first hzm
  obtain ⟨v2, k2, cur2, hv2, hk2, hb2, hh2, hc2⟩ := f2.first hzn
  obtain ⟨v3, k3, cur3, hv3, hk3, hb3, hh3, hc3⟩ := f3.first hzn
  obtain ⟨v4, k4, cur4, hv4, hk4, hb4, hh4, hc4⟩ := f4.first hzm
  have HLC := Lib.hid f1.later
  subst hv1 hv2 hv3 hv4
  have m1 := f1.can hh1 hzm; have m2 := f2.can hh2 hzn; have m3 := f3.can hh3 hzn; have m4 := f4.can hh4 hzm
  obtain ⟨e1, e2, e3, e4⟩ := HCE.out
  have hm0 : ((z.v.new.length : Int) == 0) = false := by rw [beq_eq_false_iff_ne]; omega
  have hn0 : ((z.v.old.length : Int) == 0) = false := by rw [beq_eq_false_iff_ne]; omega
  have hm9 : (0 : Int) < z.v.new.length := by omega
  have hn9 : (0 : Int) < z.v.old.length := by omega
  clear f1 f2 f3 f4 HOW hh1 hh2 hh3 hh4 HCE hc1 hc2 hc3 hc4
  go_upto_region 7 with fail
  have hm8 : 0 < z.v.new.length := hzm
  have hn8 : 0 < z.v.old.length := hzn
  generalize z.v.new.length = lm at e1 e4 hm0 hm9 hm8 hk1 hk4 ⊢
  generalize z.v.old.length = ln at e2 e3 hn0 hn9 hn8 hk2 hk3 ⊢
  have keepS : ∀ (w' : World) (b : Nat), b ≠ g4 → b ≠ g5 → (w'.cell? ⟨g4, 4, none⟩ = some (.slice (some ⟨v1, 0, none⟩) lm k1) ∧ w'.cell? ⟨g4, 5, none⟩ = some (.slice (some ⟨v2, 0, none⟩) ln k2) ∧ w'.cell? ⟨g5, 4, none⟩ = some (.slice (some ⟨v3, 0, none⟩) ln k3) ∧ w'.cell? ⟨g5, 5, none⟩ = some (.slice (some ⟨v4, 0, none⟩) lm k4)) → (fun w' : World => w'.cell? ⟨g4, 4, none⟩ = some (.slice (some ⟨v1, 0, none⟩) lm k1) ∧ w'.cell? ⟨g4, 5, none⟩ = some (.slice (some ⟨v2, 0, none⟩) ln k2) ∧ w'.cell? ⟨g5, 4, none⟩ = some (.slice (some ⟨v3, 0, none⟩) ln k3) ∧ w'.cell? ⟨g5, 5, none⟩ = some (.slice (some ⟨v4, 0, none⟩) lm k4)) (w'.setCell ⟨b, 0, none⟩ (.string ⟨#[63]⟩)) := fun w' b n4 n5 h => by
    refine ⟨?_, ?_, ?_, ?_⟩
    · rw [World.cell?_setCell_far _ _ _ _ n4]; exact h.1
    · rw [World.cell?_setCell_far _ _ _ _ n4]; exact h.2.1
    · rw [World.cell?_setCell_far _ _ _ _ n5]; exact h.2.2.1
    · rw [World.cell?_setCell_far _ _ _ _ n5]; exact h.2.2.2
  have q0 : (fun w' : World => w'.cell? ⟨g4, 4, none⟩ = some (.slice (some ⟨v1, 0, none⟩) lm k1) ∧ w'.cell? ⟨g4, 5, none⟩ = some (.slice (some ⟨v2, 0, none⟩) ln k2) ∧ w'.cell? ⟨g5, 4, none⟩ = some (.slice (some ⟨v3, 0, none⟩) ln k3) ∧ w'.cell? ⟨g5, 5, none⟩ = some (.slice (some ⟨v4, 0, none⟩) lm k4)) wc.drew := ⟨e1, e2, e3, e4⟩
  have hne := HNE.out
  simp only [Value.ownBlock, ne_eq, Option.some.injEq] at hne
  have q1 := keepS _ v1 hne.1.1 hne.2.1 q0
  have q2 := keepS _ v2 hne.1.2.1 hne.2.2.1 q1
  have q3 := keepS _ v3 hne.1.2.2.1 hne.2.2.2.1 q2
  have q4 := keepS _ v4 hne.1.2.2.2 hne.2.2.2.2 q3
  have m1' : Can wc.drew v1 := m1
  have m2' : Can (wc.drew.setCell ⟨v1, 0, none⟩ (.string ⟨#[63]⟩)) v2 := Can.set (w := wc.drew) m2 v1 _
  have m3' : Can ((wc.drew.setCell ⟨v1, 0, none⟩ (.string ⟨#[63]⟩)).setCell ⟨v2, 0, none⟩ (.string ⟨#[63]⟩)) v3 := Can.set (Can.set (w := wc.drew) m3 v1 _) v2 _
  have m4' : Can (((wc.drew.setCell ⟨v1, 0, none⟩ (.string ⟨#[63]⟩)).setCell ⟨v2, 0, none⟩ (.string ⟨#[63]⟩)).setCell ⟨v3, 0, none⟩ (.string ⟨#[63]⟩)) v4 := Can.set (Can.set (Can.set (w := wc.drew) m4 v1 _) v2 _) v3 _
  obtain ⟨⟨t1, j1⟩, i1⟩ := m1'.cell
  obtain ⟨⟨t2, j2⟩, i2⟩ := m2'.cell
  obtain ⟨⟨t3, j3⟩, i3⟩ := m3'.cell
  obtain ⟨⟨t4, j4⟩, i4⟩ := m4'.cell
  have j1' : wc.cell? ⟨v1, 0, none⟩ = some t1 := j1
  have i1' : wc.frozen? ⟨v1, 0, none⟩ = false := i1
  have j2' : (wc.setCell ⟨v1, 0, none⟩ (.string ⟨#[63]⟩)).cell? ⟨v2, 0, none⟩ = some t2 := j2
  have i2' : (wc.setCell ⟨v1, 0, none⟩ (.string ⟨#[63]⟩)).frozen? ⟨v2, 0, none⟩ = false := i2
  have j3' : ((wc.setCell ⟨v1, 0, none⟩ (.string ⟨#[63]⟩)).setCell ⟨v2, 0, none⟩ (.string ⟨#[63]⟩)).cell? ⟨v3, 0, none⟩ = some t3 := j3
  have i3' : ((wc.setCell ⟨v1, 0, none⟩ (.string ⟨#[63]⟩)).setCell ⟨v2, 0, none⟩ (.string ⟨#[63]⟩)).frozen? ⟨v3, 0, none⟩ = false := i3
  have j4' : (((wc.setCell ⟨v1, 0, none⟩ (.string ⟨#[63]⟩)).setCell ⟨v2, 0, none⟩ (.string ⟨#[63]⟩)).setCell ⟨v3, 0, none⟩ (.string ⟨#[63]⟩)).cell? ⟨v4, 0, none⟩ = some t4 := j4
  have i4' : (((wc.setCell ⟨v1, 0, none⟩ (.string ⟨#[63]⟩)).setCell ⟨v2, 0, none⟩ (.string ⟨#[63]⟩)).setCell ⟨v3, 0, none⟩ (.string ⟨#[63]⟩)).frozen? ⟨v4, 0, none⟩ = false := i4
  have HL7 : Hid (Later wx ((((wc.drew.setCell ⟨v1, 0, none⟩ (.string ⟨#[63]⟩)).setCell ⟨v2, 0, none⟩ (.string ⟨#[63]⟩)).setCell ⟨v3, 0, none⟩ (.string ⟨#[63]⟩)).setCell ⟨v4, 0, none⟩ (.string ⟨#[63]⟩))) := (((HLC.out.drew.turn (turned_set _ v1 0 _) hb1).turn (turned_set _ v2 0 _) hb2).turn (turned_set _ v3 0 _) hb3).turn (turned_set _ v4 0 _) hb4
  clear m1 m2 m3 m4 m1' m2' m3' m4' keepS hne HNE
  go_cut [] from 68 (fun wr => Later wx wr)
  case first =>
    have d1 : (fun w' : World => w'.cell? ⟨g4, 4, none⟩ = some (.slice (some ⟨v1, 0, none⟩) lm k1) ∧ w'.cell? ⟨g4, 5, none⟩ = some (.slice (some ⟨v2, 0, none⟩) ln k2) ∧ w'.cell? ⟨g5, 4, none⟩ = some (.slice (some ⟨v3, 0, none⟩) ln k3) ∧ w'.cell? ⟨g5, 5, none⟩ = some (.slice (some ⟨v4, 0, none⟩) lm k4)) (wc.setCell ⟨v1, 0, none⟩ (.string ⟨#[63]⟩)).drew := q1
    have d2 : (fun w' : World => w'.cell? ⟨g4, 4, none⟩ = some (.slice (some ⟨v1, 0, none⟩) lm k1) ∧ w'.cell? ⟨g4, 5, none⟩ = some (.slice (some ⟨v2, 0, none⟩) ln k2) ∧ w'.cell? ⟨g5, 4, none⟩ = some (.slice (some ⟨v3, 0, none⟩) ln k3) ∧ w'.cell? ⟨g5, 5, none⟩ = some (.slice (some ⟨v4, 0, none⟩) lm k4)) ((wc.setCell ⟨v1, 0, none⟩ (.string ⟨#[63]⟩)).setCell ⟨v2, 0, none⟩ (.string ⟨#[63]⟩)).drew := q2
    have d3 : (fun w' : World => w'.cell? ⟨g4, 4, none⟩ = some (.slice (some ⟨v1, 0, none⟩) lm k1) ∧ w'.cell? ⟨g4, 5, none⟩ = some (.slice (some ⟨v2, 0, none⟩) ln k2) ∧ w'.cell? ⟨g5, 4, none⟩ = some (.slice (some ⟨v3, 0, none⟩) ln k3) ∧ w'.cell? ⟨g5, 5, none⟩ = some (.slice (some ⟨v4, 0, none⟩) lm k4)) (((wc.setCell ⟨v1, 0, none⟩ (.string ⟨#[63]⟩)).setCell ⟨v2, 0, none⟩ (.string ⟨#[63]⟩)).setCell ⟨v3, 0, none⟩ (.string ⟨#[63]⟩)).drew := q3
    have d4 : (fun w' : World => w'.cell? ⟨g4, 4, none⟩ = some (.slice (some ⟨v1, 0, none⟩) lm k1) ∧ w'.cell? ⟨g4, 5, none⟩ = some (.slice (some ⟨v2, 0, none⟩) ln k2) ∧ w'.cell? ⟨g5, 4, none⟩ = some (.slice (some ⟨v3, 0, none⟩) ln k3) ∧ w'.cell? ⟨g5, 5, none⟩ = some (.slice (some ⟨v4, 0, none⟩) lm k4)) ((((wc.setCell ⟨v1, 0, none⟩ (.string ⟨#[63]⟩)).setCell ⟨v2, 0, none⟩ (.string ⟨#[63]⟩)).setCell ⟨v3, 0, none⟩ (.string ⟨#[63]⟩)).setCell ⟨v4, 0, none⟩ (.string ⟨#[63]⟩)).drew := q4
    dsimp only at q0 q1 q2 q3 q4 d1 d2 d3 d4
    go_region_held3 (fun w' => w'.cell? ⟨g4, 4, none⟩ = some (.slice (some ⟨v1, 0, none⟩) lm k1) ∧ w'.cell? ⟨g4, 5, none⟩ = some (.slice (some ⟨v2, 0, none⟩) ln k2) ∧ w'.cell? ⟨g5, 4, none⟩ = some (.slice (some ⟨v3, 0, none⟩) ln k3) ∧ w'.cell? ⟨g5, 5, none⟩ = some (.slice (some ⟨v4, 0, none⟩) lm k4))
      (first | with_reducible exact d4 | with_reducible exact d3 | with_reducible exact d2 | with_reducible exact d1 | with_reducible exact q0 | exact q0)
      (first | fail)
    go_wp2_with fail
    go_meet
    exact HL7.out
  case rest =>
  have HLD := Lib.hid hcut
  clear hcut HL7 q0 q1 q2 q3 q4 j1 j2 j3 j4 i1 i2 i3 i4 j1' j2' j3' j4' i1' i2' i3' i4' e1 e2 e3 e4
  obtain ⟨y0, y1, y2, y3, y4, y5⟩ := (HBZ.out.later HLD.out).six
  obtain ⟨x0, x1, x2, x3, x4, x5⟩ := (HBX1.out.later HLD.out).six
  have hsm := refSame_v (HZO.out.later HLD.out).at (HOK.out.later (HLX.out.trans HLD.out)).at
  rw [HZV.out, sameP_self] at hsm
  have HSM := Lib.hid hsm
  unfold prV at HSM
  clear hsm
  go_wp2_with fail
  refine HSM.out.mono ?_
  rintro e w8 ⟨rfl, hl8⟩
  have HL8 := Lib.hid (HLD.out.trans hl8); clear hl8 y0 y1 y2 y3 y4 y5 x0 x1 x2 x3 x4 x5
  go_wp2_with fail
  refine (new_any w8).mono ?_
  rintro e w9 ⟨p, B, rfl, ht9, hp, hB, hl9⟩
  have HT9 := Lib.hid ht9; have HL9 := Lib.hid (HL8.out.trans hl9); clear ht9 hl9
  obtain ⟨gB, capB, cur, hvB, hcB, hgB, hhB, hceB⟩ := (HZP.out.new).first hzm
  obtain ⟨hzB, hzmm, hzd⟩ : z.B = some ⟨gB, 0, none⟩ ∧ z.m = z.v.new.length ∧ z.d = capB := by
    simp only [Value.slice.injEq] at hvB
    exact hvB
  have HZB := Lib.hid hzB
  have hgx : gB < wx.heap.size := (Array.getElem?_eq_some_iff.1 hhB).1
  have hBx : wx.heap.size ≤ B := Nat.le_trans HL8.out.le hB
  have hBw : w.heap.size ≤ B := Nat.le_trans HLX.out.le hBx
  have hpx : wx.heap.size ≤ p := Nat.le_trans HL8.out.le hp
  have hrp := right_parts HRT.out
  have hpl := hrp.2.2.2.2.1 HK.out
  obtain ⟨k, hk⟩ := Int.eq_ofNat_of_zero_le hpl.1
  have hk100 : k ≤ 100 := by omega
  have HKP := Lib.hid hk; have HNM := Lib.hid hrp.1; have HAO := Lib.hid hrp.2.2.1; have HAN := Lib.hid hrp.2.2.2.1
  have hs0 : (z.v.new.getD 0 ByteArray.empty).size ≤ 60 := by
    have h := allB_mem.1 HAN.out (x.v.new.getD 0 ByteArray.empty) (by
      have h9 : 0 < x.v.new.length := by rw [← HZV.out]; omega
      simp only [List.getD, List.getElem?_eq_getElem h9, Option.getD_some]
      exact List.getElem_mem h9)
    simp only [rightB, Bool.and_eq_true, decide_eq_true_eq] at h
    rw [HZV.out]; omega
  have K9 : Hid (Keep w wx w9 w.heap.size gz gB cur x z) := ⟨HBX1.out.later HL9.out, HBZ.out.later HL9.out, BoxAt.later (t := 9) hhB HL9.out, HZO.out.later HL9.out, HOK.out.old.later (HLX.out.trans HL9.out), HLX.out.trans HL9.out, HL9.out.le⟩
  obtain ⟨i0, hi, hz0, hz1, hz2⟩ := info_parts Tryd.textInfo
  have hmk : ∀ u : World, (Instr.makeSlice 22 (.int .i64 x.v.place) (.int .i64 x.v.place)).run Tryd.prog u = .ok (.slice (some ⟨u.heap.size, 0, none⟩) k k) (u.alloc (.cells (madeCells #[.string ByteArray.empty] k) 9)) := fun u => by
    rw [HKP.out]
    exact run_make_row' (P := Tryd.prog) 22 9 (.string ByteArray.empty) 16 Tryd.underlying22 Tryd.textInfo rfl .i64 .i64 k (by omega) (by omega) u
  have HADD : Hid (∀ w', Later w9 w' → Calls Tryd.prog 11 #[.pointer (some ⟨p, 0, none⟩), .string x.v.name] w' (Does ([(x.v.name, [])], 0) p B w')) := fun w' hl => by
    have := add_any p B x.v.name [] w' (HT9.out.later hl) HOK.out.name (by simp)
    rw [add_one HNM.out] at this
    exact this
  have hzl : z.v.old.length = x.n := by rw [HZV.out]; exact HOK.out.old.len
  have hzl2 : z.v.new.length = x.m := by rw [HZV.out]; exact HOK.out.new.len
  have hxo : x.v.old.length = x.n := HOK.out.old.len
  have HPF : Hid (∀ (w10 w11 : World) (va : Value), Keep w wx w11 w.heap.size gz gB cur x z → TreeAt w11 p B [(x.v.name, [])] → Own 9 w10 w11 va (List.replicate k ByteArray.empty ++ x.v.old) → Hid (Calls Tryd.prog 12 #[.pointer (some ⟨p, 0, none⟩), .string x.v.name, va] w11 (fun e w12 => ∃ v12, e = .returned (.int .i64 0) ∧ w12.cell? ⟨p, 0, none⟩ = some (.map (some B)) ∧ FA w12 B [(x.v.name, (v12, filled k x.v.old))] ∧ (Keep w wx w11 w.heap.size gz gB cur x z → Keep w wx w12 w.heap.size gz gB cur x z)))) := fun w10 w11 va _ ht hown => by
    obtain ⟨hc, zz, hz, hzm'⟩ := ht
    obtain ⟨v0, rfl⟩ := map_one hzm'
    obtain ⟨A11, c11, rfl, hcc, hr⟩ := hown.row
    have hall : allB (filled k x.v.old) = true := filled_all HAO.out
    refine (put_ok p B x.v.name A11 _ c11 (filled k x.v.old) _ w11 hc hz hr HOK.out.name (by simp) (by show (filled k x.v.old).length ≤ 65536; rw [filled_len]; omega) (fun s hs => right_small (allB_mem.1 hall s hs)) (by simp [hasT, getT]) hall).mono ?_
    rintro e w12 ⟨v12, rfl, h1, h2, _, h4⟩
    rw [with_one] at h2
    exact ⟨v12, rfl, h1, h2, fun hK => keep_files hK hz h4 hBw⟩
  have HAF : Hid (∀ (w12 : World) (v12 : Value), Keep w wx w12 w.heap.size gz gB cur x z → w12.cell? ⟨p, 0, none⟩ = some (.map (some B)) → FA w12 B [(x.v.name, (v12, filled k x.v.old))] → Hid (Calls Tryd.prog 13 #[.pointer (some ⟨p, 0, none⟩), prV z] w12 (fun e w13 => ∃ v13, e = .returned (.int .i64 0) ∧ w13.cell? ⟨p, 0, none⟩ = some (.map (some B)) ∧ FA w13 B [(x.v.name, (v13, spliced (filled k x.v.old) k z.n z.v.new))] ∧ (∀ j, v13.ownBlock = some j → wx.heap.size ≤ j) ∧ (Keep w wx w12 w.heap.size gz gB cur x z → Keep w wx w13 w.heap.size gz gB cur x z)))) := fun w12 v12 hK hc hf => by
    have hall : allB (filled k x.v.old) = true := filled_all HAO.out
    have hzn : z.m ≤ 4000 := by omega
    refine (apply_ok z p B k _ (filled k x.v.old) w12 hc hf hK.oz (by rw [HZV.out]; exact HRT.out) (by
        have := sized_one (h := 65536 - z.m) HNM.out hall (by rw [filled_len]; omega)
        exact this.mono (by omega) (Nat.le_refl _)) (by omega) (by rw [HZV.out]; simp [mapT, getT]) (by rw [HZV.out]; exact HKP.out) (by rw [HZV.out]; exact filled_stands k x.v.old) (by rw [HZV.out]; exact HK.out)).mono ?_
    rintro e w13 ⟨v13, rfl, h1, h2, h3, h4⟩
    rw [show z.v.name = x.v.name from by rw [HZV.out], with_one] at h2
    exact ⟨v13, rfl, h1, h2, fun j hj => Nat.le_trans hK.le (h3 j hj), fun hK => keep_files hK hf h4 hBw⟩
  have hADD : ∀ w', TreeAt w' p B [] → Calls Tryd.prog 11 #[.pointer (some ⟨p, 0, none⟩), .string x.v.name] w' (Does ([(x.v.name, [])], 0) p B w') := fun w' ht => by
    have := add_any p B x.v.name [] w' ht HOK.out.name (by simp)
    rw [add_one HNM.out] at this
    exact this
  have HCE := Lib.hid (show cur[0]? = some (.string (z.v.new.getD 0 ByteArray.empty)) from by
    have h1 := hceB
    simp only [World.cell?, hhB] at h1
    exact h1)
  have HGB : Hid (w.heap.size ≤ gB ∧ gB < wx.heap.size) := ⟨hgB, hgx⟩
  have HSN : Hid ((filled k x.v.old).length ≤ 4100 ∧ z.v.new.length ≤ 4000) := ⟨by show (filled k x.v.old).length ≤ 4100; rw [filled_len]; omega, by omega⟩
  have HALL : Hid (allB (spliced (filled k x.v.old) k z.n z.v.new) = true) := allB_spliced (filled_all HAO.out) (by rw [HZV.out]; exact HAN.out) _ _
  have HZM := Lib.hid (And.intro hzmm hzd)
  clear hk hpl hrp hhB hceB hvB hzB HZP HBX1 HBZ HZO HL8 HADD
  go_upto_region 11 with fail
  refine own_fill rfl (by kernel_rfl) ⟨_, rfl, rfl, rfl, rfl, by kernel_rfl⟩ ⟨_, rfl, rfl, rfl, rfl, by kernel_rfl⟩ ⟨_, rfl, rfl, rfl, rfl, by kernel_rfl⟩ ⟨_, rfl, rfl, rfl, rfl, by kernel_rfl, by kernel_rfl⟩ ⟨_, rfl, rfl, rfl, rfl, by kernel_rfl, by kernel_rfl⟩ ⟨_, rfl, rfl, rfl, rfl, by kernel_rfl, by kernel_rfl⟩ ⟨_, rfl, rfl, rfl, rfl, by kernel_rfl, by kernel_rfl⟩ ⟨_, rfl, rfl, rfl, rfl, by kernel_rfl, by kernel_rfl⟩ ⟨_, rfl, rfl, rfl, rfl, by kernel_rfl⟩ ⟨_, rfl, rfl, rfl, rfl, by kernel_rfl⟩ ⟨_, rfl, rfl, rfl, rfl, by kernel_rfl, by kernel_rfl⟩ ⟨_, rfl, rfl, rfl, rfl, by kernel_rfl, by kernel_rfl⟩ ⟨_, rfl, rfl, rfl, rfl, by kernel_rfl, by kernel_rfl⟩ ⟨_, rfl, rfl, rfl, rfl, by kernel_rfl, by kernel_rfl⟩ ⟨_, rfl, rfl, rfl, rfl, by kernel_rfl, by kernel_rfl⟩ ⟨_, rfl, rfl, rfl, rfl, by kernel_rfl, by kernel_rfl⟩ ⟨_, rfl, rfl, rfl, rfl, by kernel_rfl, by kernel_rfl⟩ ⟨_, rfl, rfl, rfl, rfl, by kernel_rfl, by kernel_rfl⟩ ⟨_, rfl, rfl, rfl, rfl, by kernel_rfl, by kernel_rfl⟩ ⟨_, rfl, rfl, rfl, rfl, by kernel_rfl, by kernel_rfl⟩ ⟨_, rfl, rfl, rfl, rfl, by kernel_rfl, by kernel_rfl⟩ ⟨_, rfl, rfl, rfl, rfl, by kernel_rfl⟩ ⟨_, rfl, rfl, rfl, rfl, by kernel_rfl⟩ ⟨_, rfl, rfl, rfl, rfl, by kernel_rfl, by kernel_rfl⟩ ⟨_, rfl, rfl, rfl, rfl, by kernel_rfl, by kernel_rfl⟩ ⟨_, rfl, rfl, rfl, rfl, by kernel_rfl, by kernel_rfl⟩ ⟨_, rfl, rfl, rfl, rfl, by kernel_rfl, by kernel_rfl⟩ ⟨_, rfl, rfl, rfl, rfl, by kernel_rfl⟩ (of_decide_eq_true rfl) (w0 := w) (wx := wx) (w9 := w9) (gp := w.heap.size) (gz := gz) (gB := gB) (p := p) (B := B) (k := k) (cur := cur) (x := x) (z := z) rfl rfl rfl hBw hk100 (by omega) ⟨K9.out, HT9.out⟩ hADD hmk (fun w10 w11 va h1 h2 h3 => HPF.out w10 w11 va h1 h2 h3) (fun w12 v12 h1 h2 h3 => HAF.out w12 v12 h1 h2 h3) (fun D a13 w13 so e112 hst => ?_)
  obtain ⟨hK, hc, hf, hn⟩ := hst
  have HK13 := Lib.hid hK; have HC13 := Lib.hid hc; have HF13 := Lib.hid hf; have HN13 := Lib.hid hn
  clear hK hc hf hn hADD hmk HPF HAF K9 HT9 HL9
  have ha := so.is
  simp only [List.foldl_cons, List.foldl_nil] at ha
  rw [e112] at ha
  generalize a13.eval (.tmp 85) = y85 at ha
  generalize a13.eval (.tmp 86) = y86 at ha
  generalize a13.eval (.tmp 87) = y87 at ha
  generalize a13.eval (.tmp 88) = y88 at ha
  generalize a13.eval (.tmp 89) = y89 at ha
  generalize a13.eval (.tmp 90) = y90 at ha
  generalize a13.eval (.tmp 91) = y91 at ha
  generalize a13.eval (.tmp 92) = y92 at ha
  generalize a13.eval (.tmp 93) = y93 at ha
  generalize a13.eval (.tmp 94) = y94 at ha
  generalize a13.eval (.tmp 95) = y95 at ha
  generalize a13.eval (.tmp 96) = y96 at ha
  generalize a13.eval (.tmp 97) = y97 at ha
  generalize a13.eval (.tmp 98) = y98 at ha
  generalize a13.eval (.tmp 99) = y99 at ha
  generalize a13.eval (.tmp 100) = y100 at ha
  generalize a13.eval (.tmp 101) = y101 at ha
  generalize a13.eval (.tmp 102) = y102 at ha
  generalize a13.eval (.tmp 103) = y103 at ha
  generalize a13.eval (.tmp 104) = y104 at ha
  generalize a13.eval (.tmp 105) = y105 at ha
  generalize a13.eval (.tmp 106) = y106 at ha
  generalize a13.eval (.tmp 107) = y107 at ha
  generalize a13.eval (.tmp 108) = y108 at ha
  generalize a13.eval (.tmp 109) = y109 at ha
  generalize a13.eval (.tmp 110) = y110 at ha
  generalize a13.eval (.tmp 111) = y111 at ha
  clear so e112
  subst ha
  simp only [Act.put, List.setIfInBounds_toArray, List.set_cons_zero, List.set_cons_succ]
  generalize hS : spliced (filled k x.v.old) k z.n z.v.new = S at HF13 HALL
  have HSL : Hid (S.length ≤ 9000) := by
    show _ ≤ _
    rw [← hS]
    have h1 := spliced_le (filled k x.v.old) z.v.new k z.n
    have h2 := HSN.out
    omega
  clear hS
  have HTX : Hid (∀ w', TreeAt w' p B [(x.v.name, S)] → Tab w' → Calls Tryd.prog 14 #[.pointer (some ⟨p, 0, none⟩)] w' fun e w'' => e = .returned (.string (txt (textT [(x.v.name, S)]))) ∧ Later w' w'') := fun w' ht hb =>
    treeText_any p B _ w' ht hb (by show 1 ≤ 65536; decide) (text_one HNM.out HALL.out HSL.out) (fun f hf => by
      simp only [List.mem_cons, List.not_mem_nil, or_false] at hf
      subst hf
      exact ⟨HOK.out.name, by have := HSL.out; show S.length ≤ 65536; omega⟩)
  have HC := Lib.hid (HTX.out w13 ⟨HC13.out, _, HF13.out, rfl⟩ (HTB.out.later HK13.out.later))
  generalize hTT : txt (textT [(x.v.name, S)]) = TT at HC HTX
  clear hTT
  go_wp2_with fail
  refine HC.out.mono ?_
  rintro e w14 ⟨rfl, hl14⟩
  have HK14 := Lib.hid (HK13.out.on hl14); have HF14 := Lib.hid (HF13.out.later hl14); have HC14 : Hid (w14.cell? ⟨p, 0, none⟩ = some (.map (some B))) := hl14.cell HC13.out
  clear hl14 HC HK13 HF13 HC13
  have z5 : w14.cell? ⟨gz, 5, none⟩ = some (.slice (some ⟨gB, 0, none⟩) z.m z.d) := by
    have := HK14.out.bz.cell (i := 5) (v := .slice z.B z.m z.d) rfl
    rw [HZB.out] at this
    exact this
  have b0 : w14.cell? ⟨gB, 0, none⟩ = some (.string (z.v.new.getD 0 ByteArray.empty)) := HK14.out.bB.cell HCE.out
  have bf : w14.frozen? ⟨gB, 0, none⟩ = false := HK14.out.bB.frozen 0
  have hzm0 : (0 : Int) < z.m := by have := HZM.out.1; omega
  obtain ⟨s0, hs0e⟩ : ∃ s, s = z.v.new.getD 0 ByteArray.empty := ⟨_, rfl⟩
  rw [← hs0e] at b0 hs0
  clear hs0e
  go_upto_region 15 with fail
  have ht15 : Turned gB w14 (w14.setCell ⟨gB, 0, none⟩ (.string (s0 ++ ⟨#[63]⟩))) := turned_set w14 gB 0 _
  have HL15 : Hid (Later w (w14.setCell ⟨gB, 0, none⟩ (.string (s0 ++ ⟨#[63]⟩)))) := HK14.out.later.turn ht15 HGB.out.1
  have HT15 : Hid (TreeAt (w14.setCell ⟨gB, 0, none⟩ (.string (s0 ++ ⟨#[63]⟩))) p B [(x.v.name, S)]) := by
    have h1 := HGB.out.2
    refine ⟨ht15.cell HC14.out (show p ≠ gB by omega), _, FA.offO HF14.out ht15 (by omega) (fun f hf => ?_), rfl⟩
    simp only [List.mem_cons, List.not_mem_nil, or_false] at hf
    subst hf
    exact fun e => by have := HN13.out gB e; omega
  generalize w14.setCell ⟨gB, 0, none⟩ (.string (s0 ++ ⟨#[63]⟩)) = w15 at HL15 HT15 ⊢
  clear ht15 HK14 HF14 HC14 HN13 z5 b0 bf
  go_wp2_with fail
  refine (aliveP_any w15 (HTB.out.later HL15.out)).mono ?_
  rintro e w16 ⟨rfl, hl16⟩
  have HL16 := Lib.hid (HL15.out.trans hl16)
  have HC2 := Lib.hid (HTX.out w16 (HT15.out.later hl16) (HTB.out.later HL16.out))
  clear hl16 HT15 HL15
  go_wp2_with fail
  refine HC2.out.mono ?_
  rintro e w17 ⟨rfl, hl17⟩
  have HL17 := Lib.hid (HL16.out.trans hl17)
  clear hl17 HC2
  go_wp2
  go_ret
  exact ⟨by simp, HL17.out⟩

end Go.Proofs.YtnhhdjcbifmfgaaDoor

/-
  What the law PrimOwn comes to, as a call.
-/
namespace Go.Proofs.YtnhhdjcbifmfgaaDoor
open Go.RowKit Go.Maps

theorem primOwn_walk (x : PrC) (w : World) (hx : CameP w x) (htab : Tab w) : Calls Tryd.prog 3 #[prV x] w (Says true w) := by
  by_cases hg : 4000 < 1 + weightP x.v
  · exact primOwn_guard x w hx htab (.inl hg)
  by_cases hk0 : x.v.kind ≠ 0
  · exact primOwn_guard x w hx htab (.inr (.inl hk0))
  have hk : x.v.kind = 0 := Classical.byContradiction hk0
  by_cases h1 : x.n = 0
  · exact primOwn_guard x w hx htab (.inr (.inr (.inl h1)))
  by_cases h2 : x.m = 0
  · exact primOwn_guard x w hx htab (.inr (.inr (.inr (.inl h2))))
  cases hr : rightP x.v with
  | false => exact primOwn_guard x w hx htab (.inr (.inr (.inr (.inr (.inl hr)))))
  | true =>
    by_cases h3 : 100 < x.v.place
    · exact primOwn_guard x w hx htab (.inr (.inr (.inr (.inr (.inr h3)))))
    exact primOwn_main x w hx htab hg hk h1 h2 hr h3

end Go.Proofs.YtnhhdjcbifmfgaaDoor
