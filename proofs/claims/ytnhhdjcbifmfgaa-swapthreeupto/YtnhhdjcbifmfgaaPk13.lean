import Derived.Test.YtnhhdjcbifmfgaaPk12
import Derived.Deep.Cut

/-
  What the helper of the law SwapThree comes to, as a call.
-/
namespace Go.Proofs.Ytnhhdjcbifmfgaa
open Go.RowKit Go.Maps

/-! ### three -/
/-- What three tells. -/
def GivesA (r : Option (Pr × Pr × Pr)) (w : World) (e : Ending) (w' : World) : Prop :=
  ∃ a b c : PrC, e = .returned (.tuple #[.agg (prL3 a b c).toArray, .bool r.isSome]) ∧ (∀ p, r = some p → p = (a.v, b.v, c.v)) ∧ PrOk w' a ∧ PrOk w' b ∧ PrOk w' c ∧ Later w w'
/-- What its loop keeps. -/
structure T3 (W w : World) (g2 g4 : Nat) (a b c : PrC) (ks : List Nat) (r : Option (Pr × Pr × Pr)) : Prop where
  box : BoxAt w g2 (prL3 a b c).toArray 29
  res : BoxAt w g4 (prL3 zeroC zeroC zeroC).toArray 29
  oa : PrOk w a
  ob : PrOk w b
  oc : PrOk w c
  aa : Away g2 a
  ab : Away g2 b
  ac : Away g2 c
  ra : Away g4 a
  rb : Away g4 b
  rc : Away g4 c
  run : runT ks (a.v, b.v, c.v) = r
  base : Later W w
  g2w : W.heap.size ≤ g2
  g4w : W.heap.size ≤ g4
  ne : g4 ≠ g2
section
variable {W w w' w6 : World} {g2 g4 : Nat} {a b c p q : PrC} {ks : List Nat} {r : Option (Pr × Pr × Pr)}
theorem T3.later (h : T3 W w g2 g4 a b c ks r) (hl : Later w w') : T3 W w' g2 g4 a b c ks r := ⟨h.box.later hl, h.res.later hl, h.oa.later hl, h.ob.later hl, h.oc.later hl, h.aa, h.ab, h.ac, h.ra, h.rb, h.rc, h.run, h.base.trans hl, h.g2w, h.g4w, h.ne⟩
theorem set_first (a b c p q : PrC) : setRun (setRun (prL3 a b c).toArray 0 (prL p)) 6 (prL q) = (prL3 p q c).toArray := by
  simp only [prL3, prL, setRun, List.cons_append, List.nil_append, List.setIfInBounds_toArray, List.set_cons_zero, List.set_cons_succ]
theorem set_last (a b c p q : PrC) : setRun (setRun (prL3 a b c).toArray 6 (prL p)) 12 (prL q) = (prL3 a p q).toArray := by
  simp only [prL3, prL, setRun, List.cons_append, List.nil_append, List.setIfInBounds_toArray, List.set_cons_zero, List.set_cons_succ]
theorem set_three (a b c x y z : PrC) : setRun (prL3 a b c).toArray 0 (prL3 x y z) = (prL3 x y z).toArray := by
  simp only [prL3, prL, setRun, List.cons_append, List.nil_append, List.setIfInBounds_toArray, List.set_cons_zero, List.set_cons_succ]
/-- The first two are swapped, and written. -/
theorem T3.next0 (h : T3 W w g2 g4 a b c (0 :: ks) r) (hs : swapP a.v b.v = some (p.v, q.v)) (hl : Later w w6) (op : PrOk w6 p) (oq : PrOk w6 q) (ap : Away g2 p ∧ Away g4 p) (aq : Away g2 q ∧ Away g4 q) : T3 W ((w6.setCells g2 0 (prL p)).setCells g2 6 (prL q)) g2 g4 p q c ks r := by
  have ht := (turned_sets (g := g2) (prL p) w6 0).trans (turned_sets (g := g2) (prL q) _ 6)
  have hb := ((h.box.later hl).sets (prL p) (o := 0)).sets (prL q) (o := 6)
  rw [set_first] at hb
  refine ⟨hb, (h.res.later hl).other ht h.ne, op.off ht ap.1, oq.off ht aq.1, (h.oc.later hl).off ht h.ac, ap.1, aq.1, h.ac, ap.2, aq.2, h.rc, ?_, (h.base.trans hl).turn ht h.g2w, h.g2w, h.g4w, h.ne⟩
  have hr := h.run
  unfold runT stepT at hr
  simp only [if_true, hs, Option.map_some, Option.bind_some] at hr
  exact hr
/-- The last two are swapped, and written. -/
theorem T3.next1 (h : T3 W w g2 g4 a b c (1 :: ks) r) (hs : swapP b.v c.v = some (p.v, q.v)) (hl : Later w w6) (op : PrOk w6 p) (oq : PrOk w6 q) (ap : Away g2 p ∧ Away g4 p) (aq : Away g2 q ∧ Away g4 q) : T3 W ((w6.setCells g2 6 (prL p)).setCells g2 12 (prL q)) g2 g4 a p q ks r := by
  have ht := (turned_sets (g := g2) (prL p) w6 6).trans (turned_sets (g := g2) (prL q) _ 12)
  have hb := ((h.box.later hl).sets (prL p) (o := 6)).sets (prL q) (o := 12)
  rw [set_last] at hb
  refine ⟨hb, (h.res.later hl).other ht h.ne, (h.oa.later hl).off ht h.aa, op.off ht ap.1, oq.off ht aq.1, h.aa, ap.1, aq.1, h.ra, ap.2, aq.2, ?_, (h.base.trans hl).turn ht h.g2w, h.g2w, h.g4w, h.ne⟩
  have hr := h.run
  unfold runT stepT at hr
  simp only [Nat.one_ne_zero, if_false, hs, Option.map_some, Option.bind_some] at hr
  exact hr
end
theorem prL3_at0 (x y z : PrC) {j : Nat} {u : Value} (h : (prL x)[j]? = some u) : (prL3 x y z).toArray[0 + j]? = some u := by
  have hj := (List.getElem?_eq_some_iff.1 h).1
  rw [List.getElem?_toArray, Nat.zero_add]
  unfold prL3
  rw [List.getElem?_append_left hj]
  exact h
theorem prL3_at1 (x y z : PrC) {j : Nat} {u : Value} (h : (prL y)[j]? = some u) : (prL3 x y z).toArray[6 + j]? = some u := by
  have hj := (List.getElem?_eq_some_iff.1 h).1
  rw [List.getElem?_toArray]
  unfold prL3
  rw [List.getElem?_append_right (by show 6 ≤ 6 + j; omega), show 6 + j - (prL x).length = j by show 6 + j - 6 = j; omega, List.getElem?_append_left hj]
  exact h
theorem prL3_at2 (x y z : PrC) {j : Nat} {u : Value} (h : (prL z)[j]? = some u) : (prL3 x y z).toArray[12 + j]? = some u := by
  rw [List.getElem?_toArray]
  unfold prL3
  rw [List.getElem?_append_right (by show 6 ≤ 12 + j; omega), List.getElem?_append_right (by show 6 ≤ 12 + j - 6; omega)]
  have e : 12 + j - (prL x).length - (prL y).length = j := by show 12 + j - 6 - 6 = j; omega
  rw [e]
  exact h
set_option maxRecDepth 100000 in
set_option maxHeartbeats 16000000 in
theorem three_any (x y z : PrC) (late : Bool) (w : World) (hx : PrOk w x) (hy : PrOk w y) (hz : PrOk w z) :
    Calls Try.prog 6 #[.agg (prL3 x y z).toArray, .bool late] w (GivesA (runT (stepsT late) (x.v, y.v, z.v)) w) := by
  obtain ⟨rR, hrR⟩ : ∃ r, r = runT (stepsT late) (x.v, y.v, z.v) := ⟨_, rfl⟩
  rw [← hrR]
  have HX := Lib.hid hx; have HY := Lib.hid hy; have HZ := Lib.hid hz
  have HRUN : Hid (runT (stepsT late) (x.v, y.v, z.v) = rR) := hrR.symm
  clear hx hy hz hrR
  generalize hRR : GivesA rR w = RR
  have HRR : Hid (∀ e w', GivesA rR w e w' → RR e w') := fun e w' h => by rw [← hRR]; exact h
  clear hRR
  have HB2 : Hid (BoxAt ((w.alloc (.cells (prL3 x y z).toArray 29)).alloc (.cells (prL3 zeroC zeroC zeroC).toArray 29)) w.heap.size (prL3 x y z).toArray 29) := (BoxAt.made w (prL3 x y z).toArray 29).alloc _
  have HB4 : Hid (BoxAt ((w.alloc (.cells (prL3 x y z).toArray 29)).alloc (.cells (prL3 zeroC zeroC zeroC).toArray 29)) (w.heap.size + 1) (prL3 zeroC zeroC zeroC).toArray 29) := by
    have := BoxAt.made (w.alloc (.cells (prL3 x y z).toArray 29)) (prL3 zeroC zeroC zeroC).toArray 29
    rw [World.size_alloc] at this
    exact this
  have HL2 : Hid (Later w ((w.alloc (.cells (prL3 x y z).toArray 29)).alloc (.cells (prL3 zeroC zeroC zeroC).toArray 29))) := ((Later.refl w).alloc _).alloc _
  go_enter Try.func6, Try.ntmps6
  go_upto_region 1 with fail
  generalize hw2 : (w.alloc (.cells (prL3 x y z).toArray 29)).alloc (.cells (prL3 zeroC zeroC zeroC).toArray 29) = w2 at HB2 HB4 HL2
  rw [show ((w.alloc (.cells (prL3 x y z).toArray 29)).alloc (.cells #[.int .i64 0, .string ⟨#[]⟩, .string ⟨#[]⟩, .int .i64 0, .slice none 0 0, .slice none 0 0, .int .i64 0, .string ⟨#[]⟩, .string ⟨#[]⟩, .int .i64 0, .slice none 0 0, .slice none 0 0, .int .i64 0, .string ⟨#[]⟩, .string ⟨#[]⟩, .int .i64 0, .slice none 0 0, .slice none 0 0] 29)) = w2 from hw2]
  have HT : Hid (T3 w w2 w.heap.size (w.heap.size + 1) x y z (stepsT late) rR) := ⟨HB2.out, HB4.out, HX.out.later HL2.out, HY.out.later HL2.out, HZ.out.later HL2.out, HX.out.away (Nat.le_refl _), HY.out.away (Nat.le_refl _), HZ.out.away (Nat.le_refl _), HX.out.away (Nat.le_succ _), HY.out.away (Nat.le_succ _), HZ.out.away (Nat.le_succ _), HRUN.out, HL2.out, Nat.le_refl _, Nat.le_succ _, (by omega)⟩
  clear hw2 HB2 HB4 HL2 HX HY HZ HRUN
  generalize hg2 : w.heap.size = g2 at HT ⊢
  generalize hg4 : g2 + 1 = g4 at HT ⊢
  clear hg2 hg4
  cases late with
  | false =>
    have HT2 : Hid (T3 w (w2.alloc (.cells #[.int .i64 0, .int .i64 1, .int .i64 0] 38)) g2 g4 x y z [0, 1, 0] rR) := HT.out.later ((Later.refl w2).alloc _)
    clear HT
    go_wp2
    go_loopg [16] 4 (fun g0 s16 wr => ∃ (i : Nat), i ≤ 3 ∧ 3 - i ≤ g0 ∧ s16 = .int .i64 (i : Nat) ∧ ∃ A B C, T3 w wr g2 g4 A B C ([0, 1, 0].drop i) rR)
    case atStart => exact ⟨0, by omega, by omega, rfl, x, y, z, HT2.out⟩
    case round =>
      clear HT2
      obtain ⟨i, hi3, hg, rfl, hst⟩ := hrel
      rcases (by omega : i = 0 ∨ i = 1 ∨ i = 2 ∨ i = 3) with rfl | rfl | rfl | rfl
      · -- late False, round 0: k = 0
        obtain ⟨A, B, C, h3⟩ := hst
        replace h3 : T3 w wr g2 g4 A B C [0, 1, 0] rR := h3
        have hix : (Instr.index 38 (.agg #[.int .i64 0, .int .i64 1, .int .i64 0]) (.int .i64 0)).run Try.prog wr = .ok (.int .i64 0) wr := by kernel_rfl
        cases hs : swapP A.v B.v with
        | none =>
          have HNO : Hid (rR = none) := by
            have hr := h3.run
            unfold runT stepT at hr
            simp only [if_true, hs, Option.map_none, Option.bind_none] at hr
            exact hr.symm
          have H3 := Lib.hid h3
          have HB := Lib.hid h3.box
          clear h3
          go_upto_region 7 with fail
          clear hix
          refine sw3_region rfl (by kernel_rfl) ⟨_, rfl, rfl, rfl, rfl, by kernel_rfl⟩ ⟨_, rfl, rfl, rfl, rfl, by kernel_rfl⟩ ⟨_, rfl, rfl, rfl, rfl, by kernel_rfl⟩ ⟨_, rfl, rfl, rfl, rfl, by kernel_rfl⟩ ⟨_, rfl, rfl, rfl, rfl, by kernel_rfl⟩ ⟨_, rfl, rfl, rfl, rfl, by kernel_rfl⟩ ⟨_, rfl, rfl, rfl, rfl, by kernel_rfl⟩ ⟨_, rfl, rfl, rfl, rfl, by kernel_rfl⟩ ⟨_, rfl, rfl, rfl, rfl, by kernel_rfl⟩ ⟨_, rfl, rfl, rfl, rfl, by kernel_rfl⟩ ⟨_, rfl, rfl, rfl, rfl, by kernel_rfl⟩ ⟨_, rfl, rfl, rfl, rfl, by kernel_rfl⟩ ⟨_, rfl, rfl, rfl, rfl, by kernel_rfl⟩ ⟨_, rfl, rfl, rfl, rfl, by kernel_rfl⟩ ⟨_, rfl, rfl, rfl, rfl, by kernel_rfl⟩ ⟨_, rfl, rfl, rfl, rfl, by kernel_rfl⟩ ⟨_, rfl, rfl, rfl, rfl, by kernel_rfl⟩ (of_decide_eq_true rfl) (k := 0) (x := A) (y := B) (g2 := g2) (g4 := g4) H3.out.res.lt (by decide) rfl rfl HB.out (fun j u hj => (show (prL3 A B C).toArray[0 + j]? = some u from prL3_at0 A B C hj)) (fun j u hj => (show (prL3 A B C).toArray[6 + j]? = some u from prL3_at1 A B C hj)) H3.out.oa H3.out.ob (r := zeroPr) (s := zeroPr) (t := false) (by rw [hs]; rfl) (fun D a' w' so e8 e9 e10 haw wd => ?_)
          have hl := wd.later
          have H4 := Lib.hid (H3.out.later hl)
          clear wd haw hl
          have ha := so.is
          simp only [List.foldl_cons, List.foldl_nil] at ha
          rw [e8, e9, e10] at ha
          generalize a'.eval (.tmp 20) = v20 at ha
          generalize a'.eval (.tmp 21) = v21 at ha
          generalize a'.eval (.tmp 22) = v22 at ha
          generalize a'.eval (.tmp 23) = v23 at ha
          generalize a'.eval (.tmp 24) = v24 at ha
          generalize a'.eval (.tmp 25) = v25 at ha
          generalize a'.eval (.tmp 26) = v26 at ha
          generalize a'.eval (.tmp 27) = v27 at ha
          generalize a'.eval (.tmp 19) = v19 at ha
          generalize a'.eval (.tmp 28) = v28 at ha
          generalize a'.eval (.tmp 29) = v29 at ha
          generalize a'.eval (.tmp 30) = v30 at ha
          clear so e8 e9 e10
          subst ha
          simp only [Act.put, List.setIfInBounds_toArray, List.set_cons_zero, List.set_cons_succ]
          go_wp2_with (with_reducible show wpList _ _ _ ({ dst := some 33, op := Op.load _ _, type := _, pos := _, after := _, guard := _ } :: _) _ _; refine Hid.out ?_)
          refine Lib.hid (wpList_load_mid rfl _ _ rfl g4 0 rfl (prL3 zeroC zeroC zeroC) _ (H4.out.res.range (o := 0) (fun j u hj => by rw [Nat.zero_add, List.getElem?_toArray]; exact hj)) Try.underlying29 rfl Try.arrSize3 ?_)
          refine wpList_store_sets rfl rfl _ _ _ rfl g4 0 (prL3 zeroC zeroC zeroC) rfl rfl (H4.out.res.there (Nat.le_refl _)) Try.arrSize3 (prL3_one _ _ _) ?_
          intro w9 hw9
          have hc9 : BoxAt w9 g4 (prL3 zeroC zeroC zeroC).toArray 29 := by
            have := H4.out.res.sets (prL3 zeroC zeroC zeroC) (o := 0)
            rw [set_three] at this
            rw [hw9]
            exact this
          have HL9 : Hid (Later w w9) := by
            rw [hw9]
            exact H4.out.base.turn (turned_sets _ _ _) H4.out.g4w
          have HC9 := Lib.hid hc9
          clear hw9 hc9 H4 H3 HB
          go_wp2
          (try simp only [Exit.inBlock, Exit.then])
          refine bodyPost_ret (results_cell_two rfl _ _ g4 _ _ _ _ rfl HC9.out Try.underlying29 rfl Try.arrSize3) rfl ?_
          exact HRR.out _ _ ⟨zeroC, zeroC, zeroC, by rw [HNO.out]; rfl, (fun p h => by rw [HNO.out] at h; cases h), zeroC_ok _, zeroC_ok _, zeroC_ok _, HL9.out⟩
        | some r2 =>
          obtain ⟨r, s⟩ := r2
          have H3 := Lib.hid h3
          have HB := Lib.hid h3.box
          have HS := Lib.hid hs
          clear h3
          go_upto_region 7 with fail
          clear hix
          refine sw3_region rfl (by kernel_rfl) ⟨_, rfl, rfl, rfl, rfl, by kernel_rfl⟩ ⟨_, rfl, rfl, rfl, rfl, by kernel_rfl⟩ ⟨_, rfl, rfl, rfl, rfl, by kernel_rfl⟩ ⟨_, rfl, rfl, rfl, rfl, by kernel_rfl⟩ ⟨_, rfl, rfl, rfl, rfl, by kernel_rfl⟩ ⟨_, rfl, rfl, rfl, rfl, by kernel_rfl⟩ ⟨_, rfl, rfl, rfl, rfl, by kernel_rfl⟩ ⟨_, rfl, rfl, rfl, rfl, by kernel_rfl⟩ ⟨_, rfl, rfl, rfl, rfl, by kernel_rfl⟩ ⟨_, rfl, rfl, rfl, rfl, by kernel_rfl⟩ ⟨_, rfl, rfl, rfl, rfl, by kernel_rfl⟩ ⟨_, rfl, rfl, rfl, rfl, by kernel_rfl⟩ ⟨_, rfl, rfl, rfl, rfl, by kernel_rfl⟩ ⟨_, rfl, rfl, rfl, rfl, by kernel_rfl⟩ ⟨_, rfl, rfl, rfl, rfl, by kernel_rfl⟩ ⟨_, rfl, rfl, rfl, rfl, by kernel_rfl⟩ ⟨_, rfl, rfl, rfl, rfl, by kernel_rfl⟩ (of_decide_eq_true rfl) (k := 0) (x := A) (y := B) (g2 := g2) (g4 := g4) H3.out.res.lt (by decide) rfl rfl HB.out (fun j u hj => (show (prL3 A B C).toArray[0 + j]? = some u from prL3_at0 A B C hj)) (fun j u hj => (show (prL3 A B C).toArray[6 + j]? = some u from prL3_at1 A B C hj)) H3.out.oa H3.out.ob (r := r) (s := s) (t := true) (by rw [hs]; rfl) (fun D a' w' so e8 e9 e10 haw wd => ?_)
          obtain ⟨hcv, hdv, hco, hdo⟩ := wd.wc rfl
          obtain ⟨hgc, cs8, _, hb8, hc8⟩ := wd.w8 rfl
          obtain ⟨hgd, cs9, _, hb9, hc9⟩ := wd.w9 rfl
          have hcs8 := hc8 rfl
          have hcs9 := hc9 rfl
          subst hcs8 hcs9
          have hl := wd.later
          obtain ⟨Di, Dj, c9, d9, gc, gd⟩ := D
          dsimp only at *
          subst hcv hdv
          have HN : Hid (∀ w6, Later w' w6 → T3 w ((w6.setCells g2 0 (prL c9)).setCells g2 6 (prL d9)) g2 g4 c9 d9 C [1, 0] rR) := fun w6 h6 => H3.out.next0 HS.out (hl.trans h6) (hco.later h6) (hdo.later h6) haw.1 haw.2
          have HB4 := Lib.hid (HB.out.later hl)
          have HB8 := Lib.hid hb8; have HB9 := Lib.hid hb9
          have HNC : Hid (gc ≠ g2) := by have := HB.out.lt; show _ ≠ _; omega
          have HND : Hid (gd ≠ g2) := by have := HB.out.lt; show _ ≠ _; omega
          clear hc8 hc9 wd hgc hgd hl hco hdo hb8 hb9 haw hs HS H3 HB
          have ha := so.is
          simp only [List.foldl_cons, List.foldl_nil] at ha
          rw [e8, e9, e10] at ha
          generalize a'.eval (.tmp 20) = v20 at ha
          generalize a'.eval (.tmp 21) = v21 at ha
          generalize a'.eval (.tmp 22) = v22 at ha
          generalize a'.eval (.tmp 23) = v23 at ha
          generalize a'.eval (.tmp 24) = v24 at ha
          generalize a'.eval (.tmp 25) = v25 at ha
          generalize a'.eval (.tmp 26) = v26 at ha
          generalize a'.eval (.tmp 27) = v27 at ha
          generalize a'.eval (.tmp 19) = v19 at ha
          generalize a'.eval (.tmp 28) = v28 at ha
          generalize a'.eval (.tmp 29) = v29 at ha
          generalize a'.eval (.tmp 30) = v30 at ha
          clear so e8 e9 e10
          subst ha
          simp only [Act.put, List.setIfInBounds_toArray, List.set_cons_zero, List.set_cons_succ]
          go_upto_region 10 with fail
          refine sw3_write rfl (by kernel_rfl) ⟨_, rfl, rfl, rfl, rfl, by kernel_rfl⟩ ⟨_, rfl, rfl, rfl, rfl, by kernel_rfl⟩ ⟨_, rfl, rfl, rfl, rfl, by kernel_rfl⟩ ⟨_, rfl, rfl, rfl, rfl, by kernel_rfl⟩ ⟨_, rfl, rfl, rfl, rfl, by kernel_rfl⟩ ⟨_, rfl, rfl, rfl, rfl, by kernel_rfl⟩ ⟨_, rfl, rfl, rfl, rfl, by kernel_rfl⟩ ⟨_, rfl, rfl, rfl, rfl, by kernel_rfl⟩ ⟨_, rfl, rfl, rfl, rfl, by kernel_rfl⟩ (of_decide_eq_true rfl) (k := 0) (c := c9) (d := d9) (gc := gc) (gd := gd) (g2 := g2) (by decide) rfl rfl rfl rfl HB4.out rfl HB8.out HB9.out HNC.out HND.out (fun D a2 w8 so hw => ?_)
          obtain ⟨w5, hl5, hw8⟩ := hw
          have HFIN : Hid (T3 w w8 g2 g4 c9 d9 C [1, 0] rR) := by
            have h := HN.out w5 hl5
            rw [hw8]
            exact h
          clear hw8 hl5 HN HB4 HB8 HB9 HNC HND
          have ha := so.is
          simp only [List.foldl_cons, List.foldl_nil] at ha
          generalize a2.eval (.tmp 34) = z34 at ha
          generalize a2.eval (.tmp 35) = z35 at ha
          generalize a2.eval (.tmp 36) = z36 at ha
          generalize a2.eval (.tmp 37) = z37 at ha
          generalize a2.eval (.tmp 38) = z38 at ha
          generalize a2.eval (.tmp 39) = z39 at ha
          generalize a2.eval (.tmp 40) = z40 at ha
          clear so
          subst ha
          simp only [Act.put, List.setIfInBounds_toArray, List.set_cons_zero, List.set_cons_succ]
          go_wp2
          go_roundg (3 - (0 + 1))
          case measure => omega
          case rel => exact ⟨0 + 1, by omega, by omega, by go_num, ⟨_, _, _, HFIN.out⟩⟩
      · -- late False, round 1: k = 1
        obtain ⟨A, B, C, h3⟩ := hst
        replace h3 : T3 w wr g2 g4 A B C [1, 0] rR := h3
        have hix : (Instr.index 38 (.agg #[.int .i64 0, .int .i64 1, .int .i64 0]) (.int .i64 1)).run Try.prog wr = .ok (.int .i64 1) wr := by kernel_rfl
        cases hs : swapP B.v C.v with
        | none =>
          have HNO : Hid (rR = none) := by
            have hr := h3.run
            unfold runT stepT at hr
            simp only [Nat.one_ne_zero, if_false, hs, Option.map_none, Option.bind_none] at hr
            exact hr.symm
          have H3 := Lib.hid h3
          have HB := Lib.hid h3.box
          clear h3
          go_upto_region 7 with fail
          clear hix
          refine sw3_region rfl (by kernel_rfl) ⟨_, rfl, rfl, rfl, rfl, by kernel_rfl⟩ ⟨_, rfl, rfl, rfl, rfl, by kernel_rfl⟩ ⟨_, rfl, rfl, rfl, rfl, by kernel_rfl⟩ ⟨_, rfl, rfl, rfl, rfl, by kernel_rfl⟩ ⟨_, rfl, rfl, rfl, rfl, by kernel_rfl⟩ ⟨_, rfl, rfl, rfl, rfl, by kernel_rfl⟩ ⟨_, rfl, rfl, rfl, rfl, by kernel_rfl⟩ ⟨_, rfl, rfl, rfl, rfl, by kernel_rfl⟩ ⟨_, rfl, rfl, rfl, rfl, by kernel_rfl⟩ ⟨_, rfl, rfl, rfl, rfl, by kernel_rfl⟩ ⟨_, rfl, rfl, rfl, rfl, by kernel_rfl⟩ ⟨_, rfl, rfl, rfl, rfl, by kernel_rfl⟩ ⟨_, rfl, rfl, rfl, rfl, by kernel_rfl⟩ ⟨_, rfl, rfl, rfl, rfl, by kernel_rfl⟩ ⟨_, rfl, rfl, rfl, rfl, by kernel_rfl⟩ ⟨_, rfl, rfl, rfl, rfl, by kernel_rfl⟩ ⟨_, rfl, rfl, rfl, rfl, by kernel_rfl⟩ (of_decide_eq_true rfl) (k := 1) (x := B) (y := C) (g2 := g2) (g4 := g4) H3.out.res.lt (by decide) rfl rfl HB.out (fun j u hj => (show (prL3 A B C).toArray[6 + j]? = some u from prL3_at1 A B C hj)) (fun j u hj => (show (prL3 A B C).toArray[12 + j]? = some u from prL3_at2 A B C hj)) H3.out.ob H3.out.oc (r := zeroPr) (s := zeroPr) (t := false) (by rw [hs]; rfl) (fun D a' w' so e8 e9 e10 haw wd => ?_)
          have hl := wd.later
          have H4 := Lib.hid (H3.out.later hl)
          clear wd haw hl
          have ha := so.is
          simp only [List.foldl_cons, List.foldl_nil] at ha
          rw [e8, e9, e10] at ha
          generalize a'.eval (.tmp 20) = v20 at ha
          generalize a'.eval (.tmp 21) = v21 at ha
          generalize a'.eval (.tmp 22) = v22 at ha
          generalize a'.eval (.tmp 23) = v23 at ha
          generalize a'.eval (.tmp 24) = v24 at ha
          generalize a'.eval (.tmp 25) = v25 at ha
          generalize a'.eval (.tmp 26) = v26 at ha
          generalize a'.eval (.tmp 27) = v27 at ha
          generalize a'.eval (.tmp 19) = v19 at ha
          generalize a'.eval (.tmp 28) = v28 at ha
          generalize a'.eval (.tmp 29) = v29 at ha
          generalize a'.eval (.tmp 30) = v30 at ha
          clear so e8 e9 e10
          subst ha
          simp only [Act.put, List.setIfInBounds_toArray, List.set_cons_zero, List.set_cons_succ]
          go_wp2_with (with_reducible show wpList _ _ _ ({ dst := some 33, op := Op.load _ _, type := _, pos := _, after := _, guard := _ } :: _) _ _; refine Hid.out ?_)
          refine Lib.hid (wpList_load_mid rfl _ _ rfl g4 0 rfl (prL3 zeroC zeroC zeroC) _ (H4.out.res.range (o := 0) (fun j u hj => by rw [Nat.zero_add, List.getElem?_toArray]; exact hj)) Try.underlying29 rfl Try.arrSize3 ?_)
          refine wpList_store_sets rfl rfl _ _ _ rfl g4 0 (prL3 zeroC zeroC zeroC) rfl rfl (H4.out.res.there (Nat.le_refl _)) Try.arrSize3 (prL3_one _ _ _) ?_
          intro w9 hw9
          have hc9 : BoxAt w9 g4 (prL3 zeroC zeroC zeroC).toArray 29 := by
            have := H4.out.res.sets (prL3 zeroC zeroC zeroC) (o := 0)
            rw [set_three] at this
            rw [hw9]
            exact this
          have HL9 : Hid (Later w w9) := by
            rw [hw9]
            exact H4.out.base.turn (turned_sets _ _ _) H4.out.g4w
          have HC9 := Lib.hid hc9
          clear hw9 hc9 H4 H3 HB
          go_wp2
          (try simp only [Exit.inBlock, Exit.then])
          refine bodyPost_ret (results_cell_two rfl _ _ g4 _ _ _ _ rfl HC9.out Try.underlying29 rfl Try.arrSize3) rfl ?_
          exact HRR.out _ _ ⟨zeroC, zeroC, zeroC, by rw [HNO.out]; rfl, (fun p h => by rw [HNO.out] at h; cases h), zeroC_ok _, zeroC_ok _, zeroC_ok _, HL9.out⟩
        | some r2 =>
          obtain ⟨r, s⟩ := r2
          have H3 := Lib.hid h3
          have HB := Lib.hid h3.box
          have HS := Lib.hid hs
          clear h3
          go_upto_region 7 with fail
          clear hix
          refine sw3_region rfl (by kernel_rfl) ⟨_, rfl, rfl, rfl, rfl, by kernel_rfl⟩ ⟨_, rfl, rfl, rfl, rfl, by kernel_rfl⟩ ⟨_, rfl, rfl, rfl, rfl, by kernel_rfl⟩ ⟨_, rfl, rfl, rfl, rfl, by kernel_rfl⟩ ⟨_, rfl, rfl, rfl, rfl, by kernel_rfl⟩ ⟨_, rfl, rfl, rfl, rfl, by kernel_rfl⟩ ⟨_, rfl, rfl, rfl, rfl, by kernel_rfl⟩ ⟨_, rfl, rfl, rfl, rfl, by kernel_rfl⟩ ⟨_, rfl, rfl, rfl, rfl, by kernel_rfl⟩ ⟨_, rfl, rfl, rfl, rfl, by kernel_rfl⟩ ⟨_, rfl, rfl, rfl, rfl, by kernel_rfl⟩ ⟨_, rfl, rfl, rfl, rfl, by kernel_rfl⟩ ⟨_, rfl, rfl, rfl, rfl, by kernel_rfl⟩ ⟨_, rfl, rfl, rfl, rfl, by kernel_rfl⟩ ⟨_, rfl, rfl, rfl, rfl, by kernel_rfl⟩ ⟨_, rfl, rfl, rfl, rfl, by kernel_rfl⟩ ⟨_, rfl, rfl, rfl, rfl, by kernel_rfl⟩ (of_decide_eq_true rfl) (k := 1) (x := B) (y := C) (g2 := g2) (g4 := g4) H3.out.res.lt (by decide) rfl rfl HB.out (fun j u hj => (show (prL3 A B C).toArray[6 + j]? = some u from prL3_at1 A B C hj)) (fun j u hj => (show (prL3 A B C).toArray[12 + j]? = some u from prL3_at2 A B C hj)) H3.out.ob H3.out.oc (r := r) (s := s) (t := true) (by rw [hs]; rfl) (fun D a' w' so e8 e9 e10 haw wd => ?_)
          obtain ⟨hcv, hdv, hco, hdo⟩ := wd.wc rfl
          obtain ⟨hgc, cs8, _, hb8, hc8⟩ := wd.w8 rfl
          obtain ⟨hgd, cs9, _, hb9, hc9⟩ := wd.w9 rfl
          have hcs8 := hc8 rfl
          have hcs9 := hc9 rfl
          subst hcs8 hcs9
          have hl := wd.later
          obtain ⟨Di, Dj, c9, d9, gc, gd⟩ := D
          dsimp only at *
          subst hcv hdv
          have HN : Hid (∀ w6, Later w' w6 → T3 w ((w6.setCells g2 6 (prL c9)).setCells g2 12 (prL d9)) g2 g4 A c9 d9 [0] rR) := fun w6 h6 => H3.out.next1 HS.out (hl.trans h6) (hco.later h6) (hdo.later h6) haw.1 haw.2
          have HB4 := Lib.hid (HB.out.later hl)
          have HB8 := Lib.hid hb8; have HB9 := Lib.hid hb9
          have HNC : Hid (gc ≠ g2) := by have := HB.out.lt; show _ ≠ _; omega
          have HND : Hid (gd ≠ g2) := by have := HB.out.lt; show _ ≠ _; omega
          clear hc8 hc9 wd hgc hgd hl hco hdo hb8 hb9 haw hs HS H3 HB
          have ha := so.is
          simp only [List.foldl_cons, List.foldl_nil] at ha
          rw [e8, e9, e10] at ha
          generalize a'.eval (.tmp 20) = v20 at ha
          generalize a'.eval (.tmp 21) = v21 at ha
          generalize a'.eval (.tmp 22) = v22 at ha
          generalize a'.eval (.tmp 23) = v23 at ha
          generalize a'.eval (.tmp 24) = v24 at ha
          generalize a'.eval (.tmp 25) = v25 at ha
          generalize a'.eval (.tmp 26) = v26 at ha
          generalize a'.eval (.tmp 27) = v27 at ha
          generalize a'.eval (.tmp 19) = v19 at ha
          generalize a'.eval (.tmp 28) = v28 at ha
          generalize a'.eval (.tmp 29) = v29 at ha
          generalize a'.eval (.tmp 30) = v30 at ha
          clear so e8 e9 e10
          subst ha
          simp only [Act.put, List.setIfInBounds_toArray, List.set_cons_zero, List.set_cons_succ]
          go_upto_region 10 with fail
          refine sw3_write rfl (by kernel_rfl) ⟨_, rfl, rfl, rfl, rfl, by kernel_rfl⟩ ⟨_, rfl, rfl, rfl, rfl, by kernel_rfl⟩ ⟨_, rfl, rfl, rfl, rfl, by kernel_rfl⟩ ⟨_, rfl, rfl, rfl, rfl, by kernel_rfl⟩ ⟨_, rfl, rfl, rfl, rfl, by kernel_rfl⟩ ⟨_, rfl, rfl, rfl, rfl, by kernel_rfl⟩ ⟨_, rfl, rfl, rfl, rfl, by kernel_rfl⟩ ⟨_, rfl, rfl, rfl, rfl, by kernel_rfl⟩ ⟨_, rfl, rfl, rfl, rfl, by kernel_rfl⟩ (of_decide_eq_true rfl) (k := 1) (c := c9) (d := d9) (gc := gc) (gd := gd) (g2 := g2) (by decide) rfl rfl rfl rfl HB4.out rfl HB8.out HB9.out HNC.out HND.out (fun D a2 w8 so hw => ?_)
          obtain ⟨w5, hl5, hw8⟩ := hw
          have HFIN : Hid (T3 w w8 g2 g4 A c9 d9 [0] rR) := by
            have h := HN.out w5 hl5
            rw [hw8]
            exact h
          clear hw8 hl5 HN HB4 HB8 HB9 HNC HND
          have ha := so.is
          simp only [List.foldl_cons, List.foldl_nil] at ha
          generalize a2.eval (.tmp 34) = z34 at ha
          generalize a2.eval (.tmp 35) = z35 at ha
          generalize a2.eval (.tmp 36) = z36 at ha
          generalize a2.eval (.tmp 37) = z37 at ha
          generalize a2.eval (.tmp 38) = z38 at ha
          generalize a2.eval (.tmp 39) = z39 at ha
          generalize a2.eval (.tmp 40) = z40 at ha
          clear so
          subst ha
          simp only [Act.put, List.setIfInBounds_toArray, List.set_cons_zero, List.set_cons_succ]
          go_wp2
          go_roundg (3 - (1 + 1))
          case measure => omega
          case rel => exact ⟨1 + 1, by omega, by omega, by go_num, ⟨_, _, _, HFIN.out⟩⟩
      · -- late False, round 2: k = 0
        obtain ⟨A, B, C, h3⟩ := hst
        replace h3 : T3 w wr g2 g4 A B C [0] rR := h3
        have hix : (Instr.index 38 (.agg #[.int .i64 0, .int .i64 1, .int .i64 0]) (.int .i64 2)).run Try.prog wr = .ok (.int .i64 0) wr := by kernel_rfl
        cases hs : swapP A.v B.v with
        | none =>
          have HNO : Hid (rR = none) := by
            have hr := h3.run
            unfold runT stepT at hr
            simp only [if_true, hs, Option.map_none, Option.bind_none] at hr
            exact hr.symm
          have H3 := Lib.hid h3
          have HB := Lib.hid h3.box
          clear h3
          go_upto_region 7 with fail
          clear hix
          refine sw3_region rfl (by kernel_rfl) ⟨_, rfl, rfl, rfl, rfl, by kernel_rfl⟩ ⟨_, rfl, rfl, rfl, rfl, by kernel_rfl⟩ ⟨_, rfl, rfl, rfl, rfl, by kernel_rfl⟩ ⟨_, rfl, rfl, rfl, rfl, by kernel_rfl⟩ ⟨_, rfl, rfl, rfl, rfl, by kernel_rfl⟩ ⟨_, rfl, rfl, rfl, rfl, by kernel_rfl⟩ ⟨_, rfl, rfl, rfl, rfl, by kernel_rfl⟩ ⟨_, rfl, rfl, rfl, rfl, by kernel_rfl⟩ ⟨_, rfl, rfl, rfl, rfl, by kernel_rfl⟩ ⟨_, rfl, rfl, rfl, rfl, by kernel_rfl⟩ ⟨_, rfl, rfl, rfl, rfl, by kernel_rfl⟩ ⟨_, rfl, rfl, rfl, rfl, by kernel_rfl⟩ ⟨_, rfl, rfl, rfl, rfl, by kernel_rfl⟩ ⟨_, rfl, rfl, rfl, rfl, by kernel_rfl⟩ ⟨_, rfl, rfl, rfl, rfl, by kernel_rfl⟩ ⟨_, rfl, rfl, rfl, rfl, by kernel_rfl⟩ ⟨_, rfl, rfl, rfl, rfl, by kernel_rfl⟩ (of_decide_eq_true rfl) (k := 0) (x := A) (y := B) (g2 := g2) (g4 := g4) H3.out.res.lt (by decide) rfl rfl HB.out (fun j u hj => (show (prL3 A B C).toArray[0 + j]? = some u from prL3_at0 A B C hj)) (fun j u hj => (show (prL3 A B C).toArray[6 + j]? = some u from prL3_at1 A B C hj)) H3.out.oa H3.out.ob (r := zeroPr) (s := zeroPr) (t := false) (by rw [hs]; rfl) (fun D a' w' so e8 e9 e10 haw wd => ?_)
          have hl := wd.later
          have H4 := Lib.hid (H3.out.later hl)
          clear wd haw hl
          have ha := so.is
          simp only [List.foldl_cons, List.foldl_nil] at ha
          rw [e8, e9, e10] at ha
          generalize a'.eval (.tmp 20) = v20 at ha
          generalize a'.eval (.tmp 21) = v21 at ha
          generalize a'.eval (.tmp 22) = v22 at ha
          generalize a'.eval (.tmp 23) = v23 at ha
          generalize a'.eval (.tmp 24) = v24 at ha
          generalize a'.eval (.tmp 25) = v25 at ha
          generalize a'.eval (.tmp 26) = v26 at ha
          generalize a'.eval (.tmp 27) = v27 at ha
          generalize a'.eval (.tmp 19) = v19 at ha
          generalize a'.eval (.tmp 28) = v28 at ha
          generalize a'.eval (.tmp 29) = v29 at ha
          generalize a'.eval (.tmp 30) = v30 at ha
          clear so e8 e9 e10
          subst ha
          simp only [Act.put, List.setIfInBounds_toArray, List.set_cons_zero, List.set_cons_succ]
          go_wp2_with (with_reducible show wpList _ _ _ ({ dst := some 33, op := Op.load _ _, type := _, pos := _, after := _, guard := _ } :: _) _ _; refine Hid.out ?_)
          refine Lib.hid (wpList_load_mid rfl _ _ rfl g4 0 rfl (prL3 zeroC zeroC zeroC) _ (H4.out.res.range (o := 0) (fun j u hj => by rw [Nat.zero_add, List.getElem?_toArray]; exact hj)) Try.underlying29 rfl Try.arrSize3 ?_)
          refine wpList_store_sets rfl rfl _ _ _ rfl g4 0 (prL3 zeroC zeroC zeroC) rfl rfl (H4.out.res.there (Nat.le_refl _)) Try.arrSize3 (prL3_one _ _ _) ?_
          intro w9 hw9
          have hc9 : BoxAt w9 g4 (prL3 zeroC zeroC zeroC).toArray 29 := by
            have := H4.out.res.sets (prL3 zeroC zeroC zeroC) (o := 0)
            rw [set_three] at this
            rw [hw9]
            exact this
          have HL9 : Hid (Later w w9) := by
            rw [hw9]
            exact H4.out.base.turn (turned_sets _ _ _) H4.out.g4w
          have HC9 := Lib.hid hc9
          clear hw9 hc9 H4 H3 HB
          go_wp2
          (try simp only [Exit.inBlock, Exit.then])
          refine bodyPost_ret (results_cell_two rfl _ _ g4 _ _ _ _ rfl HC9.out Try.underlying29 rfl Try.arrSize3) rfl ?_
          exact HRR.out _ _ ⟨zeroC, zeroC, zeroC, by rw [HNO.out]; rfl, (fun p h => by rw [HNO.out] at h; cases h), zeroC_ok _, zeroC_ok _, zeroC_ok _, HL9.out⟩
        | some r2 =>
          obtain ⟨r, s⟩ := r2
          have H3 := Lib.hid h3
          have HB := Lib.hid h3.box
          have HS := Lib.hid hs
          clear h3
          go_upto_region 7 with fail
          clear hix
          refine sw3_region rfl (by kernel_rfl) ⟨_, rfl, rfl, rfl, rfl, by kernel_rfl⟩ ⟨_, rfl, rfl, rfl, rfl, by kernel_rfl⟩ ⟨_, rfl, rfl, rfl, rfl, by kernel_rfl⟩ ⟨_, rfl, rfl, rfl, rfl, by kernel_rfl⟩ ⟨_, rfl, rfl, rfl, rfl, by kernel_rfl⟩ ⟨_, rfl, rfl, rfl, rfl, by kernel_rfl⟩ ⟨_, rfl, rfl, rfl, rfl, by kernel_rfl⟩ ⟨_, rfl, rfl, rfl, rfl, by kernel_rfl⟩ ⟨_, rfl, rfl, rfl, rfl, by kernel_rfl⟩ ⟨_, rfl, rfl, rfl, rfl, by kernel_rfl⟩ ⟨_, rfl, rfl, rfl, rfl, by kernel_rfl⟩ ⟨_, rfl, rfl, rfl, rfl, by kernel_rfl⟩ ⟨_, rfl, rfl, rfl, rfl, by kernel_rfl⟩ ⟨_, rfl, rfl, rfl, rfl, by kernel_rfl⟩ ⟨_, rfl, rfl, rfl, rfl, by kernel_rfl⟩ ⟨_, rfl, rfl, rfl, rfl, by kernel_rfl⟩ ⟨_, rfl, rfl, rfl, rfl, by kernel_rfl⟩ (of_decide_eq_true rfl) (k := 0) (x := A) (y := B) (g2 := g2) (g4 := g4) H3.out.res.lt (by decide) rfl rfl HB.out (fun j u hj => (show (prL3 A B C).toArray[0 + j]? = some u from prL3_at0 A B C hj)) (fun j u hj => (show (prL3 A B C).toArray[6 + j]? = some u from prL3_at1 A B C hj)) H3.out.oa H3.out.ob (r := r) (s := s) (t := true) (by rw [hs]; rfl) (fun D a' w' so e8 e9 e10 haw wd => ?_)
          obtain ⟨hcv, hdv, hco, hdo⟩ := wd.wc rfl
          obtain ⟨hgc, cs8, _, hb8, hc8⟩ := wd.w8 rfl
          obtain ⟨hgd, cs9, _, hb9, hc9⟩ := wd.w9 rfl
          have hcs8 := hc8 rfl
          have hcs9 := hc9 rfl
          subst hcs8 hcs9
          have hl := wd.later
          obtain ⟨Di, Dj, c9, d9, gc, gd⟩ := D
          dsimp only at *
          subst hcv hdv
          have HN : Hid (∀ w6, Later w' w6 → T3 w ((w6.setCells g2 0 (prL c9)).setCells g2 6 (prL d9)) g2 g4 c9 d9 C [] rR) := fun w6 h6 => H3.out.next0 HS.out (hl.trans h6) (hco.later h6) (hdo.later h6) haw.1 haw.2
          have HB4 := Lib.hid (HB.out.later hl)
          have HB8 := Lib.hid hb8; have HB9 := Lib.hid hb9
          have HNC : Hid (gc ≠ g2) := by have := HB.out.lt; show _ ≠ _; omega
          have HND : Hid (gd ≠ g2) := by have := HB.out.lt; show _ ≠ _; omega
          clear hc8 hc9 wd hgc hgd hl hco hdo hb8 hb9 haw hs HS H3 HB
          have ha := so.is
          simp only [List.foldl_cons, List.foldl_nil] at ha
          rw [e8, e9, e10] at ha
          generalize a'.eval (.tmp 20) = v20 at ha
          generalize a'.eval (.tmp 21) = v21 at ha
          generalize a'.eval (.tmp 22) = v22 at ha
          generalize a'.eval (.tmp 23) = v23 at ha
          generalize a'.eval (.tmp 24) = v24 at ha
          generalize a'.eval (.tmp 25) = v25 at ha
          generalize a'.eval (.tmp 26) = v26 at ha
          generalize a'.eval (.tmp 27) = v27 at ha
          generalize a'.eval (.tmp 19) = v19 at ha
          generalize a'.eval (.tmp 28) = v28 at ha
          generalize a'.eval (.tmp 29) = v29 at ha
          generalize a'.eval (.tmp 30) = v30 at ha
          clear so e8 e9 e10
          subst ha
          simp only [Act.put, List.setIfInBounds_toArray, List.set_cons_zero, List.set_cons_succ]
          go_upto_region 10 with fail
          refine sw3_write rfl (by kernel_rfl) ⟨_, rfl, rfl, rfl, rfl, by kernel_rfl⟩ ⟨_, rfl, rfl, rfl, rfl, by kernel_rfl⟩ ⟨_, rfl, rfl, rfl, rfl, by kernel_rfl⟩ ⟨_, rfl, rfl, rfl, rfl, by kernel_rfl⟩ ⟨_, rfl, rfl, rfl, rfl, by kernel_rfl⟩ ⟨_, rfl, rfl, rfl, rfl, by kernel_rfl⟩ ⟨_, rfl, rfl, rfl, rfl, by kernel_rfl⟩ ⟨_, rfl, rfl, rfl, rfl, by kernel_rfl⟩ ⟨_, rfl, rfl, rfl, rfl, by kernel_rfl⟩ (of_decide_eq_true rfl) (k := 0) (c := c9) (d := d9) (gc := gc) (gd := gd) (g2 := g2) (by decide) rfl rfl rfl rfl HB4.out rfl HB8.out HB9.out HNC.out HND.out (fun D a2 w8 so hw => ?_)
          obtain ⟨w5, hl5, hw8⟩ := hw
          have HFIN : Hid (T3 w w8 g2 g4 c9 d9 C [] rR) := by
            have h := HN.out w5 hl5
            rw [hw8]
            exact h
          clear hw8 hl5 HN HB4 HB8 HB9 HNC HND
          have ha := so.is
          simp only [List.foldl_cons, List.foldl_nil] at ha
          generalize a2.eval (.tmp 34) = z34 at ha
          generalize a2.eval (.tmp 35) = z35 at ha
          generalize a2.eval (.tmp 36) = z36 at ha
          generalize a2.eval (.tmp 37) = z37 at ha
          generalize a2.eval (.tmp 38) = z38 at ha
          generalize a2.eval (.tmp 39) = z39 at ha
          generalize a2.eval (.tmp 40) = z40 at ha
          clear so
          subst ha
          simp only [Act.put, List.setIfInBounds_toArray, List.set_cons_zero, List.set_cons_succ]
          go_wp2
          go_roundg (3 - (2 + 1))
          case measure => omega
          case rel => exact ⟨2 + 1, by omega, by omega, by go_num, ⟨_, _, _, HFIN.out⟩⟩
      · obtain ⟨A, B, C, h3⟩ := hst
        have HYES : Hid (rR = some (A.v, B.v, C.v)) := h3.run.symm
        have H3 := Lib.hid h3
        clear h3
        go_wp2_with (with_reducible show wpList _ _ _ ({ dst := some 42, op := Op.load _ _, type := _, pos := _, after := _, guard := _ } :: _) _ _; refine Hid.out ?_)
        refine Lib.hid (wpList_load_mid rfl _ _ rfl g2 0 rfl (prL3 A B C) _ (H3.out.box.range (o := 0) (fun j u hj => by rw [Nat.zero_add, List.getElem?_toArray]; exact hj)) Try.underlying29 rfl Try.arrSize3 ?_)
        refine wpList_store_sets rfl rfl _ _ _ rfl g4 0 (prL3 A B C) rfl rfl (H3.out.res.there (Nat.le_refl _)) Try.arrSize3 (prL3_one _ _ _) ?_
        intro w9 hw9
        have hc9 : BoxAt w9 g4 (prL3 A B C).toArray 29 := by
          have := H3.out.res.sets (prL3 A B C) (o := 0)
          rw [set_three] at this
          rw [hw9]
          exact this
        have ht9 : Turned g4 wr w9 := by rw [hw9]; exact turned_sets _ _ _
        have HEND : Hid (PrOk w9 A ∧ PrOk w9 B ∧ PrOk w9 C ∧ Later w w9) := ⟨H3.out.oa.off ht9 H3.out.ra, H3.out.ob.off ht9 H3.out.rb, H3.out.oc.off ht9 H3.out.rc, H3.out.base.turn ht9 H3.out.g4w⟩
        have HC9 := Lib.hid hc9
        clear hw9 hc9 H3 ht9
        go_wp2
        (try simp only [Exit.inBlock, Exit.then])
        refine bodyPost_ret (results_cell_two rfl _ _ g4 _ _ _ _ rfl HC9.out Try.underlying29 rfl Try.arrSize3) rfl ?_
        exact HRR.out _ _ ⟨A, B, C, by rw [HYES.out]; rfl, (fun p h => by rw [HYES.out] at h; cases h; rfl), HEND.out.1, HEND.out.2.1, HEND.out.2.2.1, HEND.out.2.2.2⟩
  | true =>
    have HT2 : Hid (T3 w (w2.alloc (.cells #[.int .i64 1, .int .i64 0, .int .i64 1] 38)) g2 g4 x y z [1, 0, 1] rR) := HT.out.later ((Later.refl w2).alloc _)
    clear HT
    go_wp2
    go_loopg [16] 4 (fun g0 s16 wr => ∃ (i : Nat), i ≤ 3 ∧ 3 - i ≤ g0 ∧ s16 = .int .i64 (i : Nat) ∧ ∃ A B C, T3 w wr g2 g4 A B C ([1, 0, 1].drop i) rR)
    case atStart => exact ⟨0, by omega, by omega, rfl, x, y, z, HT2.out⟩
    case round =>
      clear HT2
      obtain ⟨i, hi3, hg, rfl, hst⟩ := hrel
      rcases (by omega : i = 0 ∨ i = 1 ∨ i = 2 ∨ i = 3) with rfl | rfl | rfl | rfl
      · -- late True, round 0: k = 1
        obtain ⟨A, B, C, h3⟩ := hst
        replace h3 : T3 w wr g2 g4 A B C [1, 0, 1] rR := h3
        have hix : (Instr.index 38 (.agg #[.int .i64 1, .int .i64 0, .int .i64 1]) (.int .i64 0)).run Try.prog wr = .ok (.int .i64 1) wr := by kernel_rfl
        cases hs : swapP B.v C.v with
        | none =>
          have HNO : Hid (rR = none) := by
            have hr := h3.run
            unfold runT stepT at hr
            simp only [Nat.one_ne_zero, if_false, hs, Option.map_none, Option.bind_none] at hr
            exact hr.symm
          have H3 := Lib.hid h3
          have HB := Lib.hid h3.box
          clear h3
          go_upto_region 7 with fail
          clear hix
          refine sw3_region rfl (by kernel_rfl) ⟨_, rfl, rfl, rfl, rfl, by kernel_rfl⟩ ⟨_, rfl, rfl, rfl, rfl, by kernel_rfl⟩ ⟨_, rfl, rfl, rfl, rfl, by kernel_rfl⟩ ⟨_, rfl, rfl, rfl, rfl, by kernel_rfl⟩ ⟨_, rfl, rfl, rfl, rfl, by kernel_rfl⟩ ⟨_, rfl, rfl, rfl, rfl, by kernel_rfl⟩ ⟨_, rfl, rfl, rfl, rfl, by kernel_rfl⟩ ⟨_, rfl, rfl, rfl, rfl, by kernel_rfl⟩ ⟨_, rfl, rfl, rfl, rfl, by kernel_rfl⟩ ⟨_, rfl, rfl, rfl, rfl, by kernel_rfl⟩ ⟨_, rfl, rfl, rfl, rfl, by kernel_rfl⟩ ⟨_, rfl, rfl, rfl, rfl, by kernel_rfl⟩ ⟨_, rfl, rfl, rfl, rfl, by kernel_rfl⟩ ⟨_, rfl, rfl, rfl, rfl, by kernel_rfl⟩ ⟨_, rfl, rfl, rfl, rfl, by kernel_rfl⟩ ⟨_, rfl, rfl, rfl, rfl, by kernel_rfl⟩ ⟨_, rfl, rfl, rfl, rfl, by kernel_rfl⟩ (of_decide_eq_true rfl) (k := 1) (x := B) (y := C) (g2 := g2) (g4 := g4) H3.out.res.lt (by decide) rfl rfl HB.out (fun j u hj => (show (prL3 A B C).toArray[6 + j]? = some u from prL3_at1 A B C hj)) (fun j u hj => (show (prL3 A B C).toArray[12 + j]? = some u from prL3_at2 A B C hj)) H3.out.ob H3.out.oc (r := zeroPr) (s := zeroPr) (t := false) (by rw [hs]; rfl) (fun D a' w' so e8 e9 e10 haw wd => ?_)
          have hl := wd.later
          have H4 := Lib.hid (H3.out.later hl)
          clear wd haw hl
          have ha := so.is
          simp only [List.foldl_cons, List.foldl_nil] at ha
          rw [e8, e9, e10] at ha
          generalize a'.eval (.tmp 20) = v20 at ha
          generalize a'.eval (.tmp 21) = v21 at ha
          generalize a'.eval (.tmp 22) = v22 at ha
          generalize a'.eval (.tmp 23) = v23 at ha
          generalize a'.eval (.tmp 24) = v24 at ha
          generalize a'.eval (.tmp 25) = v25 at ha
          generalize a'.eval (.tmp 26) = v26 at ha
          generalize a'.eval (.tmp 27) = v27 at ha
          generalize a'.eval (.tmp 19) = v19 at ha
          generalize a'.eval (.tmp 28) = v28 at ha
          generalize a'.eval (.tmp 29) = v29 at ha
          generalize a'.eval (.tmp 30) = v30 at ha
          clear so e8 e9 e10
          subst ha
          simp only [Act.put, List.setIfInBounds_toArray, List.set_cons_zero, List.set_cons_succ]
          go_wp2_with (with_reducible show wpList _ _ _ ({ dst := some 33, op := Op.load _ _, type := _, pos := _, after := _, guard := _ } :: _) _ _; refine Hid.out ?_)
          refine Lib.hid (wpList_load_mid rfl _ _ rfl g4 0 rfl (prL3 zeroC zeroC zeroC) _ (H4.out.res.range (o := 0) (fun j u hj => by rw [Nat.zero_add, List.getElem?_toArray]; exact hj)) Try.underlying29 rfl Try.arrSize3 ?_)
          refine wpList_store_sets rfl rfl _ _ _ rfl g4 0 (prL3 zeroC zeroC zeroC) rfl rfl (H4.out.res.there (Nat.le_refl _)) Try.arrSize3 (prL3_one _ _ _) ?_
          intro w9 hw9
          have hc9 : BoxAt w9 g4 (prL3 zeroC zeroC zeroC).toArray 29 := by
            have := H4.out.res.sets (prL3 zeroC zeroC zeroC) (o := 0)
            rw [set_three] at this
            rw [hw9]
            exact this
          have HL9 : Hid (Later w w9) := by
            rw [hw9]
            exact H4.out.base.turn (turned_sets _ _ _) H4.out.g4w
          have HC9 := Lib.hid hc9
          clear hw9 hc9 H4 H3 HB
          go_wp2
          (try simp only [Exit.inBlock, Exit.then])
          refine bodyPost_ret (results_cell_two rfl _ _ g4 _ _ _ _ rfl HC9.out Try.underlying29 rfl Try.arrSize3) rfl ?_
          exact HRR.out _ _ ⟨zeroC, zeroC, zeroC, by rw [HNO.out]; rfl, (fun p h => by rw [HNO.out] at h; cases h), zeroC_ok _, zeroC_ok _, zeroC_ok _, HL9.out⟩
        | some r2 =>
          obtain ⟨r, s⟩ := r2
          have H3 := Lib.hid h3
          have HB := Lib.hid h3.box
          have HS := Lib.hid hs
          clear h3
          go_upto_region 7 with fail
          clear hix
          refine sw3_region rfl (by kernel_rfl) ⟨_, rfl, rfl, rfl, rfl, by kernel_rfl⟩ ⟨_, rfl, rfl, rfl, rfl, by kernel_rfl⟩ ⟨_, rfl, rfl, rfl, rfl, by kernel_rfl⟩ ⟨_, rfl, rfl, rfl, rfl, by kernel_rfl⟩ ⟨_, rfl, rfl, rfl, rfl, by kernel_rfl⟩ ⟨_, rfl, rfl, rfl, rfl, by kernel_rfl⟩ ⟨_, rfl, rfl, rfl, rfl, by kernel_rfl⟩ ⟨_, rfl, rfl, rfl, rfl, by kernel_rfl⟩ ⟨_, rfl, rfl, rfl, rfl, by kernel_rfl⟩ ⟨_, rfl, rfl, rfl, rfl, by kernel_rfl⟩ ⟨_, rfl, rfl, rfl, rfl, by kernel_rfl⟩ ⟨_, rfl, rfl, rfl, rfl, by kernel_rfl⟩ ⟨_, rfl, rfl, rfl, rfl, by kernel_rfl⟩ ⟨_, rfl, rfl, rfl, rfl, by kernel_rfl⟩ ⟨_, rfl, rfl, rfl, rfl, by kernel_rfl⟩ ⟨_, rfl, rfl, rfl, rfl, by kernel_rfl⟩ ⟨_, rfl, rfl, rfl, rfl, by kernel_rfl⟩ (of_decide_eq_true rfl) (k := 1) (x := B) (y := C) (g2 := g2) (g4 := g4) H3.out.res.lt (by decide) rfl rfl HB.out (fun j u hj => (show (prL3 A B C).toArray[6 + j]? = some u from prL3_at1 A B C hj)) (fun j u hj => (show (prL3 A B C).toArray[12 + j]? = some u from prL3_at2 A B C hj)) H3.out.ob H3.out.oc (r := r) (s := s) (t := true) (by rw [hs]; rfl) (fun D a' w' so e8 e9 e10 haw wd => ?_)
          obtain ⟨hcv, hdv, hco, hdo⟩ := wd.wc rfl
          obtain ⟨hgc, cs8, _, hb8, hc8⟩ := wd.w8 rfl
          obtain ⟨hgd, cs9, _, hb9, hc9⟩ := wd.w9 rfl
          have hcs8 := hc8 rfl
          have hcs9 := hc9 rfl
          subst hcs8 hcs9
          have hl := wd.later
          obtain ⟨Di, Dj, c9, d9, gc, gd⟩ := D
          dsimp only at *
          subst hcv hdv
          have HN : Hid (∀ w6, Later w' w6 → T3 w ((w6.setCells g2 6 (prL c9)).setCells g2 12 (prL d9)) g2 g4 A c9 d9 [0, 1] rR) := fun w6 h6 => H3.out.next1 HS.out (hl.trans h6) (hco.later h6) (hdo.later h6) haw.1 haw.2
          have HB4 := Lib.hid (HB.out.later hl)
          have HB8 := Lib.hid hb8; have HB9 := Lib.hid hb9
          have HNC : Hid (gc ≠ g2) := by have := HB.out.lt; show _ ≠ _; omega
          have HND : Hid (gd ≠ g2) := by have := HB.out.lt; show _ ≠ _; omega
          clear hc8 hc9 wd hgc hgd hl hco hdo hb8 hb9 haw hs HS H3 HB
          have ha := so.is
          simp only [List.foldl_cons, List.foldl_nil] at ha
          rw [e8, e9, e10] at ha
          generalize a'.eval (.tmp 20) = v20 at ha
          generalize a'.eval (.tmp 21) = v21 at ha
          generalize a'.eval (.tmp 22) = v22 at ha
          generalize a'.eval (.tmp 23) = v23 at ha
          generalize a'.eval (.tmp 24) = v24 at ha
          generalize a'.eval (.tmp 25) = v25 at ha
          generalize a'.eval (.tmp 26) = v26 at ha
          generalize a'.eval (.tmp 27) = v27 at ha
          generalize a'.eval (.tmp 19) = v19 at ha
          generalize a'.eval (.tmp 28) = v28 at ha
          generalize a'.eval (.tmp 29) = v29 at ha
          generalize a'.eval (.tmp 30) = v30 at ha
          clear so e8 e9 e10
          subst ha
          simp only [Act.put, List.setIfInBounds_toArray, List.set_cons_zero, List.set_cons_succ]
          go_upto_region 10 with fail
          refine sw3_write rfl (by kernel_rfl) ⟨_, rfl, rfl, rfl, rfl, by kernel_rfl⟩ ⟨_, rfl, rfl, rfl, rfl, by kernel_rfl⟩ ⟨_, rfl, rfl, rfl, rfl, by kernel_rfl⟩ ⟨_, rfl, rfl, rfl, rfl, by kernel_rfl⟩ ⟨_, rfl, rfl, rfl, rfl, by kernel_rfl⟩ ⟨_, rfl, rfl, rfl, rfl, by kernel_rfl⟩ ⟨_, rfl, rfl, rfl, rfl, by kernel_rfl⟩ ⟨_, rfl, rfl, rfl, rfl, by kernel_rfl⟩ ⟨_, rfl, rfl, rfl, rfl, by kernel_rfl⟩ (of_decide_eq_true rfl) (k := 1) (c := c9) (d := d9) (gc := gc) (gd := gd) (g2 := g2) (by decide) rfl rfl rfl rfl HB4.out rfl HB8.out HB9.out HNC.out HND.out (fun D a2 w8 so hw => ?_)
          obtain ⟨w5, hl5, hw8⟩ := hw
          have HFIN : Hid (T3 w w8 g2 g4 A c9 d9 [0, 1] rR) := by
            have h := HN.out w5 hl5
            rw [hw8]
            exact h
          clear hw8 hl5 HN HB4 HB8 HB9 HNC HND
          have ha := so.is
          simp only [List.foldl_cons, List.foldl_nil] at ha
          generalize a2.eval (.tmp 34) = z34 at ha
          generalize a2.eval (.tmp 35) = z35 at ha
          generalize a2.eval (.tmp 36) = z36 at ha
          generalize a2.eval (.tmp 37) = z37 at ha
          generalize a2.eval (.tmp 38) = z38 at ha
          generalize a2.eval (.tmp 39) = z39 at ha
          generalize a2.eval (.tmp 40) = z40 at ha
          clear so
          subst ha
          simp only [Act.put, List.setIfInBounds_toArray, List.set_cons_zero, List.set_cons_succ]
          go_wp2
          go_roundg (3 - (0 + 1))
          case measure => omega
          case rel => exact ⟨0 + 1, by omega, by omega, by go_num, ⟨_, _, _, HFIN.out⟩⟩
      · -- late True, round 1: k = 0
        obtain ⟨A, B, C, h3⟩ := hst
        replace h3 : T3 w wr g2 g4 A B C [0, 1] rR := h3
        have hix : (Instr.index 38 (.agg #[.int .i64 1, .int .i64 0, .int .i64 1]) (.int .i64 1)).run Try.prog wr = .ok (.int .i64 0) wr := by kernel_rfl
        cases hs : swapP A.v B.v with
        | none =>
          have HNO : Hid (rR = none) := by
            have hr := h3.run
            unfold runT stepT at hr
            simp only [if_true, hs, Option.map_none, Option.bind_none] at hr
            exact hr.symm
          have H3 := Lib.hid h3
          have HB := Lib.hid h3.box
          clear h3
          go_upto_region 7 with fail
          clear hix
          refine sw3_region rfl (by kernel_rfl) ⟨_, rfl, rfl, rfl, rfl, by kernel_rfl⟩ ⟨_, rfl, rfl, rfl, rfl, by kernel_rfl⟩ ⟨_, rfl, rfl, rfl, rfl, by kernel_rfl⟩ ⟨_, rfl, rfl, rfl, rfl, by kernel_rfl⟩ ⟨_, rfl, rfl, rfl, rfl, by kernel_rfl⟩ ⟨_, rfl, rfl, rfl, rfl, by kernel_rfl⟩ ⟨_, rfl, rfl, rfl, rfl, by kernel_rfl⟩ ⟨_, rfl, rfl, rfl, rfl, by kernel_rfl⟩ ⟨_, rfl, rfl, rfl, rfl, by kernel_rfl⟩ ⟨_, rfl, rfl, rfl, rfl, by kernel_rfl⟩ ⟨_, rfl, rfl, rfl, rfl, by kernel_rfl⟩ ⟨_, rfl, rfl, rfl, rfl, by kernel_rfl⟩ ⟨_, rfl, rfl, rfl, rfl, by kernel_rfl⟩ ⟨_, rfl, rfl, rfl, rfl, by kernel_rfl⟩ ⟨_, rfl, rfl, rfl, rfl, by kernel_rfl⟩ ⟨_, rfl, rfl, rfl, rfl, by kernel_rfl⟩ ⟨_, rfl, rfl, rfl, rfl, by kernel_rfl⟩ (of_decide_eq_true rfl) (k := 0) (x := A) (y := B) (g2 := g2) (g4 := g4) H3.out.res.lt (by decide) rfl rfl HB.out (fun j u hj => (show (prL3 A B C).toArray[0 + j]? = some u from prL3_at0 A B C hj)) (fun j u hj => (show (prL3 A B C).toArray[6 + j]? = some u from prL3_at1 A B C hj)) H3.out.oa H3.out.ob (r := zeroPr) (s := zeroPr) (t := false) (by rw [hs]; rfl) (fun D a' w' so e8 e9 e10 haw wd => ?_)
          have hl := wd.later
          have H4 := Lib.hid (H3.out.later hl)
          clear wd haw hl
          have ha := so.is
          simp only [List.foldl_cons, List.foldl_nil] at ha
          rw [e8, e9, e10] at ha
          generalize a'.eval (.tmp 20) = v20 at ha
          generalize a'.eval (.tmp 21) = v21 at ha
          generalize a'.eval (.tmp 22) = v22 at ha
          generalize a'.eval (.tmp 23) = v23 at ha
          generalize a'.eval (.tmp 24) = v24 at ha
          generalize a'.eval (.tmp 25) = v25 at ha
          generalize a'.eval (.tmp 26) = v26 at ha
          generalize a'.eval (.tmp 27) = v27 at ha
          generalize a'.eval (.tmp 19) = v19 at ha
          generalize a'.eval (.tmp 28) = v28 at ha
          generalize a'.eval (.tmp 29) = v29 at ha
          generalize a'.eval (.tmp 30) = v30 at ha
          clear so e8 e9 e10
          subst ha
          simp only [Act.put, List.setIfInBounds_toArray, List.set_cons_zero, List.set_cons_succ]
          go_wp2_with (with_reducible show wpList _ _ _ ({ dst := some 33, op := Op.load _ _, type := _, pos := _, after := _, guard := _ } :: _) _ _; refine Hid.out ?_)
          refine Lib.hid (wpList_load_mid rfl _ _ rfl g4 0 rfl (prL3 zeroC zeroC zeroC) _ (H4.out.res.range (o := 0) (fun j u hj => by rw [Nat.zero_add, List.getElem?_toArray]; exact hj)) Try.underlying29 rfl Try.arrSize3 ?_)
          refine wpList_store_sets rfl rfl _ _ _ rfl g4 0 (prL3 zeroC zeroC zeroC) rfl rfl (H4.out.res.there (Nat.le_refl _)) Try.arrSize3 (prL3_one _ _ _) ?_
          intro w9 hw9
          have hc9 : BoxAt w9 g4 (prL3 zeroC zeroC zeroC).toArray 29 := by
            have := H4.out.res.sets (prL3 zeroC zeroC zeroC) (o := 0)
            rw [set_three] at this
            rw [hw9]
            exact this
          have HL9 : Hid (Later w w9) := by
            rw [hw9]
            exact H4.out.base.turn (turned_sets _ _ _) H4.out.g4w
          have HC9 := Lib.hid hc9
          clear hw9 hc9 H4 H3 HB
          go_wp2
          (try simp only [Exit.inBlock, Exit.then])
          refine bodyPost_ret (results_cell_two rfl _ _ g4 _ _ _ _ rfl HC9.out Try.underlying29 rfl Try.arrSize3) rfl ?_
          exact HRR.out _ _ ⟨zeroC, zeroC, zeroC, by rw [HNO.out]; rfl, (fun p h => by rw [HNO.out] at h; cases h), zeroC_ok _, zeroC_ok _, zeroC_ok _, HL9.out⟩
        | some r2 =>
          obtain ⟨r, s⟩ := r2
          have H3 := Lib.hid h3
          have HB := Lib.hid h3.box
          have HS := Lib.hid hs
          clear h3
          go_upto_region 7 with fail
          clear hix
          refine sw3_region rfl (by kernel_rfl) ⟨_, rfl, rfl, rfl, rfl, by kernel_rfl⟩ ⟨_, rfl, rfl, rfl, rfl, by kernel_rfl⟩ ⟨_, rfl, rfl, rfl, rfl, by kernel_rfl⟩ ⟨_, rfl, rfl, rfl, rfl, by kernel_rfl⟩ ⟨_, rfl, rfl, rfl, rfl, by kernel_rfl⟩ ⟨_, rfl, rfl, rfl, rfl, by kernel_rfl⟩ ⟨_, rfl, rfl, rfl, rfl, by kernel_rfl⟩ ⟨_, rfl, rfl, rfl, rfl, by kernel_rfl⟩ ⟨_, rfl, rfl, rfl, rfl, by kernel_rfl⟩ ⟨_, rfl, rfl, rfl, rfl, by kernel_rfl⟩ ⟨_, rfl, rfl, rfl, rfl, by kernel_rfl⟩ ⟨_, rfl, rfl, rfl, rfl, by kernel_rfl⟩ ⟨_, rfl, rfl, rfl, rfl, by kernel_rfl⟩ ⟨_, rfl, rfl, rfl, rfl, by kernel_rfl⟩ ⟨_, rfl, rfl, rfl, rfl, by kernel_rfl⟩ ⟨_, rfl, rfl, rfl, rfl, by kernel_rfl⟩ ⟨_, rfl, rfl, rfl, rfl, by kernel_rfl⟩ (of_decide_eq_true rfl) (k := 0) (x := A) (y := B) (g2 := g2) (g4 := g4) H3.out.res.lt (by decide) rfl rfl HB.out (fun j u hj => (show (prL3 A B C).toArray[0 + j]? = some u from prL3_at0 A B C hj)) (fun j u hj => (show (prL3 A B C).toArray[6 + j]? = some u from prL3_at1 A B C hj)) H3.out.oa H3.out.ob (r := r) (s := s) (t := true) (by rw [hs]; rfl) (fun D a' w' so e8 e9 e10 haw wd => ?_)
          obtain ⟨hcv, hdv, hco, hdo⟩ := wd.wc rfl
          obtain ⟨hgc, cs8, _, hb8, hc8⟩ := wd.w8 rfl
          obtain ⟨hgd, cs9, _, hb9, hc9⟩ := wd.w9 rfl
          have hcs8 := hc8 rfl
          have hcs9 := hc9 rfl
          subst hcs8 hcs9
          have hl := wd.later
          obtain ⟨Di, Dj, c9, d9, gc, gd⟩ := D
          dsimp only at *
          subst hcv hdv
          have HN : Hid (∀ w6, Later w' w6 → T3 w ((w6.setCells g2 0 (prL c9)).setCells g2 6 (prL d9)) g2 g4 c9 d9 C [1] rR) := fun w6 h6 => H3.out.next0 HS.out (hl.trans h6) (hco.later h6) (hdo.later h6) haw.1 haw.2
          have HB4 := Lib.hid (HB.out.later hl)
          have HB8 := Lib.hid hb8; have HB9 := Lib.hid hb9
          have HNC : Hid (gc ≠ g2) := by have := HB.out.lt; show _ ≠ _; omega
          have HND : Hid (gd ≠ g2) := by have := HB.out.lt; show _ ≠ _; omega
          clear hc8 hc9 wd hgc hgd hl hco hdo hb8 hb9 haw hs HS H3 HB
          have ha := so.is
          simp only [List.foldl_cons, List.foldl_nil] at ha
          rw [e8, e9, e10] at ha
          generalize a'.eval (.tmp 20) = v20 at ha
          generalize a'.eval (.tmp 21) = v21 at ha
          generalize a'.eval (.tmp 22) = v22 at ha
          generalize a'.eval (.tmp 23) = v23 at ha
          generalize a'.eval (.tmp 24) = v24 at ha
          generalize a'.eval (.tmp 25) = v25 at ha
          generalize a'.eval (.tmp 26) = v26 at ha
          generalize a'.eval (.tmp 27) = v27 at ha
          generalize a'.eval (.tmp 19) = v19 at ha
          generalize a'.eval (.tmp 28) = v28 at ha
          generalize a'.eval (.tmp 29) = v29 at ha
          generalize a'.eval (.tmp 30) = v30 at ha
          clear so e8 e9 e10
          subst ha
          simp only [Act.put, List.setIfInBounds_toArray, List.set_cons_zero, List.set_cons_succ]
          go_upto_region 10 with fail
          refine sw3_write rfl (by kernel_rfl) ⟨_, rfl, rfl, rfl, rfl, by kernel_rfl⟩ ⟨_, rfl, rfl, rfl, rfl, by kernel_rfl⟩ ⟨_, rfl, rfl, rfl, rfl, by kernel_rfl⟩ ⟨_, rfl, rfl, rfl, rfl, by kernel_rfl⟩ ⟨_, rfl, rfl, rfl, rfl, by kernel_rfl⟩ ⟨_, rfl, rfl, rfl, rfl, by kernel_rfl⟩ ⟨_, rfl, rfl, rfl, rfl, by kernel_rfl⟩ ⟨_, rfl, rfl, rfl, rfl, by kernel_rfl⟩ ⟨_, rfl, rfl, rfl, rfl, by kernel_rfl⟩ (of_decide_eq_true rfl) (k := 0) (c := c9) (d := d9) (gc := gc) (gd := gd) (g2 := g2) (by decide) rfl rfl rfl rfl HB4.out rfl HB8.out HB9.out HNC.out HND.out (fun D a2 w8 so hw => ?_)
          obtain ⟨w5, hl5, hw8⟩ := hw
          have HFIN : Hid (T3 w w8 g2 g4 c9 d9 C [1] rR) := by
            have h := HN.out w5 hl5
            rw [hw8]
            exact h
          clear hw8 hl5 HN HB4 HB8 HB9 HNC HND
          have ha := so.is
          simp only [List.foldl_cons, List.foldl_nil] at ha
          generalize a2.eval (.tmp 34) = z34 at ha
          generalize a2.eval (.tmp 35) = z35 at ha
          generalize a2.eval (.tmp 36) = z36 at ha
          generalize a2.eval (.tmp 37) = z37 at ha
          generalize a2.eval (.tmp 38) = z38 at ha
          generalize a2.eval (.tmp 39) = z39 at ha
          generalize a2.eval (.tmp 40) = z40 at ha
          clear so
          subst ha
          simp only [Act.put, List.setIfInBounds_toArray, List.set_cons_zero, List.set_cons_succ]
          go_wp2
          go_roundg (3 - (1 + 1))
          case measure => omega
          case rel => exact ⟨1 + 1, by omega, by omega, by go_num, ⟨_, _, _, HFIN.out⟩⟩
      · -- late True, round 2: k = 1
        obtain ⟨A, B, C, h3⟩ := hst
        replace h3 : T3 w wr g2 g4 A B C [1] rR := h3
        have hix : (Instr.index 38 (.agg #[.int .i64 1, .int .i64 0, .int .i64 1]) (.int .i64 2)).run Try.prog wr = .ok (.int .i64 1) wr := by kernel_rfl
        cases hs : swapP B.v C.v with
        | none =>
          have HNO : Hid (rR = none) := by
            have hr := h3.run
            unfold runT stepT at hr
            simp only [Nat.one_ne_zero, if_false, hs, Option.map_none, Option.bind_none] at hr
            exact hr.symm
          have H3 := Lib.hid h3
          have HB := Lib.hid h3.box
          clear h3
          go_upto_region 7 with fail
          clear hix
          refine sw3_region rfl (by kernel_rfl) ⟨_, rfl, rfl, rfl, rfl, by kernel_rfl⟩ ⟨_, rfl, rfl, rfl, rfl, by kernel_rfl⟩ ⟨_, rfl, rfl, rfl, rfl, by kernel_rfl⟩ ⟨_, rfl, rfl, rfl, rfl, by kernel_rfl⟩ ⟨_, rfl, rfl, rfl, rfl, by kernel_rfl⟩ ⟨_, rfl, rfl, rfl, rfl, by kernel_rfl⟩ ⟨_, rfl, rfl, rfl, rfl, by kernel_rfl⟩ ⟨_, rfl, rfl, rfl, rfl, by kernel_rfl⟩ ⟨_, rfl, rfl, rfl, rfl, by kernel_rfl⟩ ⟨_, rfl, rfl, rfl, rfl, by kernel_rfl⟩ ⟨_, rfl, rfl, rfl, rfl, by kernel_rfl⟩ ⟨_, rfl, rfl, rfl, rfl, by kernel_rfl⟩ ⟨_, rfl, rfl, rfl, rfl, by kernel_rfl⟩ ⟨_, rfl, rfl, rfl, rfl, by kernel_rfl⟩ ⟨_, rfl, rfl, rfl, rfl, by kernel_rfl⟩ ⟨_, rfl, rfl, rfl, rfl, by kernel_rfl⟩ ⟨_, rfl, rfl, rfl, rfl, by kernel_rfl⟩ (of_decide_eq_true rfl) (k := 1) (x := B) (y := C) (g2 := g2) (g4 := g4) H3.out.res.lt (by decide) rfl rfl HB.out (fun j u hj => (show (prL3 A B C).toArray[6 + j]? = some u from prL3_at1 A B C hj)) (fun j u hj => (show (prL3 A B C).toArray[12 + j]? = some u from prL3_at2 A B C hj)) H3.out.ob H3.out.oc (r := zeroPr) (s := zeroPr) (t := false) (by rw [hs]; rfl) (fun D a' w' so e8 e9 e10 haw wd => ?_)
          have hl := wd.later
          have H4 := Lib.hid (H3.out.later hl)
          clear wd haw hl
          have ha := so.is
          simp only [List.foldl_cons, List.foldl_nil] at ha
          rw [e8, e9, e10] at ha
          generalize a'.eval (.tmp 20) = v20 at ha
          generalize a'.eval (.tmp 21) = v21 at ha
          generalize a'.eval (.tmp 22) = v22 at ha
          generalize a'.eval (.tmp 23) = v23 at ha
          generalize a'.eval (.tmp 24) = v24 at ha
          generalize a'.eval (.tmp 25) = v25 at ha
          generalize a'.eval (.tmp 26) = v26 at ha
          generalize a'.eval (.tmp 27) = v27 at ha
          generalize a'.eval (.tmp 19) = v19 at ha
          generalize a'.eval (.tmp 28) = v28 at ha
          generalize a'.eval (.tmp 29) = v29 at ha
          generalize a'.eval (.tmp 30) = v30 at ha
          clear so e8 e9 e10
          subst ha
          simp only [Act.put, List.setIfInBounds_toArray, List.set_cons_zero, List.set_cons_succ]
          go_wp2_with (with_reducible show wpList _ _ _ ({ dst := some 33, op := Op.load _ _, type := _, pos := _, after := _, guard := _ } :: _) _ _; refine Hid.out ?_)
          refine Lib.hid (wpList_load_mid rfl _ _ rfl g4 0 rfl (prL3 zeroC zeroC zeroC) _ (H4.out.res.range (o := 0) (fun j u hj => by rw [Nat.zero_add, List.getElem?_toArray]; exact hj)) Try.underlying29 rfl Try.arrSize3 ?_)
          refine wpList_store_sets rfl rfl _ _ _ rfl g4 0 (prL3 zeroC zeroC zeroC) rfl rfl (H4.out.res.there (Nat.le_refl _)) Try.arrSize3 (prL3_one _ _ _) ?_
          intro w9 hw9
          have hc9 : BoxAt w9 g4 (prL3 zeroC zeroC zeroC).toArray 29 := by
            have := H4.out.res.sets (prL3 zeroC zeroC zeroC) (o := 0)
            rw [set_three] at this
            rw [hw9]
            exact this
          have HL9 : Hid (Later w w9) := by
            rw [hw9]
            exact H4.out.base.turn (turned_sets _ _ _) H4.out.g4w
          have HC9 := Lib.hid hc9
          clear hw9 hc9 H4 H3 HB
          go_wp2
          (try simp only [Exit.inBlock, Exit.then])
          refine bodyPost_ret (results_cell_two rfl _ _ g4 _ _ _ _ rfl HC9.out Try.underlying29 rfl Try.arrSize3) rfl ?_
          exact HRR.out _ _ ⟨zeroC, zeroC, zeroC, by rw [HNO.out]; rfl, (fun p h => by rw [HNO.out] at h; cases h), zeroC_ok _, zeroC_ok _, zeroC_ok _, HL9.out⟩
        | some r2 =>
          obtain ⟨r, s⟩ := r2
          have H3 := Lib.hid h3
          have HB := Lib.hid h3.box
          have HS := Lib.hid hs
          clear h3
          go_upto_region 7 with fail
          clear hix
          refine sw3_region rfl (by kernel_rfl) ⟨_, rfl, rfl, rfl, rfl, by kernel_rfl⟩ ⟨_, rfl, rfl, rfl, rfl, by kernel_rfl⟩ ⟨_, rfl, rfl, rfl, rfl, by kernel_rfl⟩ ⟨_, rfl, rfl, rfl, rfl, by kernel_rfl⟩ ⟨_, rfl, rfl, rfl, rfl, by kernel_rfl⟩ ⟨_, rfl, rfl, rfl, rfl, by kernel_rfl⟩ ⟨_, rfl, rfl, rfl, rfl, by kernel_rfl⟩ ⟨_, rfl, rfl, rfl, rfl, by kernel_rfl⟩ ⟨_, rfl, rfl, rfl, rfl, by kernel_rfl⟩ ⟨_, rfl, rfl, rfl, rfl, by kernel_rfl⟩ ⟨_, rfl, rfl, rfl, rfl, by kernel_rfl⟩ ⟨_, rfl, rfl, rfl, rfl, by kernel_rfl⟩ ⟨_, rfl, rfl, rfl, rfl, by kernel_rfl⟩ ⟨_, rfl, rfl, rfl, rfl, by kernel_rfl⟩ ⟨_, rfl, rfl, rfl, rfl, by kernel_rfl⟩ ⟨_, rfl, rfl, rfl, rfl, by kernel_rfl⟩ ⟨_, rfl, rfl, rfl, rfl, by kernel_rfl⟩ (of_decide_eq_true rfl) (k := 1) (x := B) (y := C) (g2 := g2) (g4 := g4) H3.out.res.lt (by decide) rfl rfl HB.out (fun j u hj => (show (prL3 A B C).toArray[6 + j]? = some u from prL3_at1 A B C hj)) (fun j u hj => (show (prL3 A B C).toArray[12 + j]? = some u from prL3_at2 A B C hj)) H3.out.ob H3.out.oc (r := r) (s := s) (t := true) (by rw [hs]; rfl) (fun D a' w' so e8 e9 e10 haw wd => ?_)
          obtain ⟨hcv, hdv, hco, hdo⟩ := wd.wc rfl
          obtain ⟨hgc, cs8, _, hb8, hc8⟩ := wd.w8 rfl
          obtain ⟨hgd, cs9, _, hb9, hc9⟩ := wd.w9 rfl
          have hcs8 := hc8 rfl
          have hcs9 := hc9 rfl
          subst hcs8 hcs9
          have hl := wd.later
          obtain ⟨Di, Dj, c9, d9, gc, gd⟩ := D
          dsimp only at *
          subst hcv hdv
          have HN : Hid (∀ w6, Later w' w6 → T3 w ((w6.setCells g2 6 (prL c9)).setCells g2 12 (prL d9)) g2 g4 A c9 d9 [] rR) := fun w6 h6 => H3.out.next1 HS.out (hl.trans h6) (hco.later h6) (hdo.later h6) haw.1 haw.2
          have HB4 := Lib.hid (HB.out.later hl)
          have HB8 := Lib.hid hb8; have HB9 := Lib.hid hb9
          have HNC : Hid (gc ≠ g2) := by have := HB.out.lt; show _ ≠ _; omega
          have HND : Hid (gd ≠ g2) := by have := HB.out.lt; show _ ≠ _; omega
          clear hc8 hc9 wd hgc hgd hl hco hdo hb8 hb9 haw hs HS H3 HB
          have ha := so.is
          simp only [List.foldl_cons, List.foldl_nil] at ha
          rw [e8, e9, e10] at ha
          generalize a'.eval (.tmp 20) = v20 at ha
          generalize a'.eval (.tmp 21) = v21 at ha
          generalize a'.eval (.tmp 22) = v22 at ha
          generalize a'.eval (.tmp 23) = v23 at ha
          generalize a'.eval (.tmp 24) = v24 at ha
          generalize a'.eval (.tmp 25) = v25 at ha
          generalize a'.eval (.tmp 26) = v26 at ha
          generalize a'.eval (.tmp 27) = v27 at ha
          generalize a'.eval (.tmp 19) = v19 at ha
          generalize a'.eval (.tmp 28) = v28 at ha
          generalize a'.eval (.tmp 29) = v29 at ha
          generalize a'.eval (.tmp 30) = v30 at ha
          clear so e8 e9 e10
          subst ha
          simp only [Act.put, List.setIfInBounds_toArray, List.set_cons_zero, List.set_cons_succ]
          go_upto_region 10 with fail
          refine sw3_write rfl (by kernel_rfl) ⟨_, rfl, rfl, rfl, rfl, by kernel_rfl⟩ ⟨_, rfl, rfl, rfl, rfl, by kernel_rfl⟩ ⟨_, rfl, rfl, rfl, rfl, by kernel_rfl⟩ ⟨_, rfl, rfl, rfl, rfl, by kernel_rfl⟩ ⟨_, rfl, rfl, rfl, rfl, by kernel_rfl⟩ ⟨_, rfl, rfl, rfl, rfl, by kernel_rfl⟩ ⟨_, rfl, rfl, rfl, rfl, by kernel_rfl⟩ ⟨_, rfl, rfl, rfl, rfl, by kernel_rfl⟩ ⟨_, rfl, rfl, rfl, rfl, by kernel_rfl⟩ (of_decide_eq_true rfl) (k := 1) (c := c9) (d := d9) (gc := gc) (gd := gd) (g2 := g2) (by decide) rfl rfl rfl rfl HB4.out rfl HB8.out HB9.out HNC.out HND.out (fun D a2 w8 so hw => ?_)
          obtain ⟨w5, hl5, hw8⟩ := hw
          have HFIN : Hid (T3 w w8 g2 g4 A c9 d9 [] rR) := by
            have h := HN.out w5 hl5
            rw [hw8]
            exact h
          clear hw8 hl5 HN HB4 HB8 HB9 HNC HND
          have ha := so.is
          simp only [List.foldl_cons, List.foldl_nil] at ha
          generalize a2.eval (.tmp 34) = z34 at ha
          generalize a2.eval (.tmp 35) = z35 at ha
          generalize a2.eval (.tmp 36) = z36 at ha
          generalize a2.eval (.tmp 37) = z37 at ha
          generalize a2.eval (.tmp 38) = z38 at ha
          generalize a2.eval (.tmp 39) = z39 at ha
          generalize a2.eval (.tmp 40) = z40 at ha
          clear so
          subst ha
          simp only [Act.put, List.setIfInBounds_toArray, List.set_cons_zero, List.set_cons_succ]
          go_wp2
          go_roundg (3 - (2 + 1))
          case measure => omega
          case rel => exact ⟨2 + 1, by omega, by omega, by go_num, ⟨_, _, _, HFIN.out⟩⟩
      · obtain ⟨A, B, C, h3⟩ := hst
        have HYES : Hid (rR = some (A.v, B.v, C.v)) := h3.run.symm
        have H3 := Lib.hid h3
        clear h3
        go_wp2_with (with_reducible show wpList _ _ _ ({ dst := some 42, op := Op.load _ _, type := _, pos := _, after := _, guard := _ } :: _) _ _; refine Hid.out ?_)
        refine Lib.hid (wpList_load_mid rfl _ _ rfl g2 0 rfl (prL3 A B C) _ (H3.out.box.range (o := 0) (fun j u hj => by rw [Nat.zero_add, List.getElem?_toArray]; exact hj)) Try.underlying29 rfl Try.arrSize3 ?_)
        refine wpList_store_sets rfl rfl _ _ _ rfl g4 0 (prL3 A B C) rfl rfl (H3.out.res.there (Nat.le_refl _)) Try.arrSize3 (prL3_one _ _ _) ?_
        intro w9 hw9
        have hc9 : BoxAt w9 g4 (prL3 A B C).toArray 29 := by
          have := H3.out.res.sets (prL3 A B C) (o := 0)
          rw [set_three] at this
          rw [hw9]
          exact this
        have ht9 : Turned g4 wr w9 := by rw [hw9]; exact turned_sets _ _ _
        have HEND : Hid (PrOk w9 A ∧ PrOk w9 B ∧ PrOk w9 C ∧ Later w w9) := ⟨H3.out.oa.off ht9 H3.out.ra, H3.out.ob.off ht9 H3.out.rb, H3.out.oc.off ht9 H3.out.rc, H3.out.base.turn ht9 H3.out.g4w⟩
        have HC9 := Lib.hid hc9
        clear hw9 hc9 H3 ht9
        go_wp2
        (try simp only [Exit.inBlock, Exit.then])
        refine bodyPost_ret (results_cell_two rfl _ _ g4 _ _ _ _ rfl HC9.out Try.underlying29 rfl Try.arrSize3) rfl ?_
        exact HRR.out _ _ ⟨A, B, C, by rw [HYES.out]; rfl, (fun p h => by rw [HYES.out] at h; cases h; rfl), HEND.out.1, HEND.out.2.1, HEND.out.2.2.1, HEND.out.2.2.2⟩

end Go.Proofs.Ytnhhdjcbifmfgaa
