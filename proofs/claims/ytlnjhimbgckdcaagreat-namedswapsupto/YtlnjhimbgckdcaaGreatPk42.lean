import Derived.Test.YtlnjhimbgckdcaaGreatPk40
import Derived.Test.YtlnjhimbgckdcaaGreatPk41
import Derived.Deep.LoopGhost
import Derived.Deep.QuietTactic
import Derived.BigQuiet
import Derived.Lib.Hide

/-
  What the law NamedSwaps comes to, as a call.
-/
namespace Go.Proofs.YtlnjhimbgckdcaaGreat
open Go.RowKit Go.Maps

theorem two_row' (w : World) (x y : PaC) (t : TypeId) : RowK 4 (w.alloc (.cells #[.int .i64 x.v.id, .string x.v.note, .slice x.D x.nd x.cd, .slice x.L x.nl x.cl, .int .i64 y.v.id, .string y.v.note, .slice y.D y.nd y.cd, .slice y.L y.nl y.cl] t)) (some ⟨w.heap.size, 0, none⟩) 2 ([x, y].map paL) :=
  RowK.lit (k := 4) w ([x, y].map paL) (by
    intro cs hcs
    obtain ⟨y, _, rfl⟩ := List.mem_map.1 hcs
    rfl) t

set_option maxRecDepth 100000 in
set_option maxHeartbeats 1600000 in
theorem namedSwaps_walk (x y : PaC) (w : World) (hx : CameN w x) (hy : CameN w y) (hw : weightN x + weightN y + 2 ≤ 1048576) : Calls Tryz.prog 3 #[paV x, paV y] w (Says true w) := by
  have l2 : Later w ((w.alloc (.cells #[.int .i64 x.v.id, .string x.v.note, .slice x.D x.nd x.cd, .slice x.L x.nl x.cl] 25)).alloc (.cells #[.int .i64 y.v.id, .string y.v.note, .slice y.D y.nd y.cd, .slice y.L y.nl y.cl] 25)) := ((Later.refl w).alloc _).alloc _
  have l3 : Later w (((w.alloc (.cells #[.int .i64 x.v.id, .string x.v.note, .slice x.D x.nd x.cd, .slice x.L x.nl x.cl] 25)).alloc (.cells #[.int .i64 y.v.id, .string y.v.note, .slice y.D y.nd y.cd, .slice y.L y.nl y.cl] 25)).alloc (.cells #[.int .i64 x.v.id, .string x.v.note, .slice x.D x.nd x.cd, .slice x.L x.nl x.cl, .int .i64 y.v.id, .string y.v.note, .slice y.D y.nd y.cd, .slice y.L y.nl y.cl] 25)) := l2.alloc _
  have hb2 : BoxAt (((w.alloc (.cells #[.int .i64 x.v.id, .string x.v.note, .slice x.D x.nd x.cd, .slice x.L x.nl x.cl] 25)).alloc (.cells #[.int .i64 y.v.id, .string y.v.note, .slice y.D y.nd y.cd, .slice y.L y.nl y.cl] 25)).alloc (.cells #[.int .i64 x.v.id, .string x.v.note, .slice x.D x.nd x.cd, .slice x.L x.nl x.cl, .int .i64 y.v.id, .string y.v.note, .slice y.D y.nd y.cd, .slice y.L y.nl y.cl] 25)) w.heap.size (paL x).toArray 25 := ((BoxAt.made w (paL x).toArray 25).alloc _).alloc _
  have hb3 : BoxAt (((w.alloc (.cells #[.int .i64 x.v.id, .string x.v.note, .slice x.D x.nd x.cd, .slice x.L x.nl x.cl] 25)).alloc (.cells #[.int .i64 y.v.id, .string y.v.note, .slice y.D y.nd y.cd, .slice y.L y.nl y.cl] 25)).alloc (.cells #[.int .i64 x.v.id, .string x.v.note, .slice x.D x.nd x.cd, .slice x.L x.nl x.cl, .int .i64 y.v.id, .string y.v.note, .slice y.D y.nd y.cd, .slice y.L y.nl y.cl] 25)) (w.heap.size + 1) (paL y).toArray 25 := by
    have := BoxAt.made (w.alloc (.cells #[.int .i64 x.v.id, .string x.v.note, .slice x.D x.nd x.cd, .slice x.L x.nl x.cl] 25)) (paL y).toArray 25
    rw [World.size_alloc] at this
    exact this.alloc _
  have hrow := two_row' ((w.alloc (.cells #[.int .i64 x.v.id, .string x.v.note, .slice x.D x.nd x.cd, .slice x.L x.nl x.cl] 25)).alloc (.cells #[.int .i64 y.v.id, .string y.v.note, .slice y.D y.nd y.cd, .slice y.L y.nl y.cl] 25)) x y 25
  rw [World.size_alloc, World.size_alloc] at hrow
  have HF := Lib.hid (few7_any (some ⟨w.heap.size + 1 + 1, 0, none⟩) 2 2 [x, y] _ ⟨hrow, Nat.le_refl _, (fun z hz => by
    simp only [List.mem_cons, List.not_mem_nil, or_false] at hz
    rcases hz with rfl | rfl
    · exact hx.later l3
    · exact hy.later l3), by simp only [weightNs, List.map_cons, List.map_nil, List.sum_cons, List.sum_nil]; omega⟩)
  have HX := Lib.hid hx; have HY := Lib.hid hy; have HL := Lib.hid l3; have HB2 := Lib.hid hb2; have HB3 := Lib.hid hb3
  clear hx hy l2 l3 hb2 hb3 hrow
  unfold paV
  cases hf : fewNs 2 [x, y] with
  | false =>
    rw [hf] at HF
    clear hf
    go_enter Tryz.func3, Tryz.ntmps3
    go_wp2_with fail
    refine HF.out.mono ?_
    rintro e m1 ⟨rfl, hl⟩
    have HL1 := Lib.hid (HL.out.trans hl)
    clear hl HF
    have HA := Lib.hid (alive7_any m1)
    go_wp2_with fail
    refine HA.out.mono ?_
    rintro e m2 ⟨rfl, hl⟩
    have HL2 := Lib.hid (HL1.out.trans hl)
    clear hl HA
    go_wp2
    go_ret
    exact ⟨rfl, HL2.out⟩
  | true =>
    rw [hf] at HF
    obtain ⟨_, _, hw6⟩ := fewNs_parts hf
    simp only [weightNs, List.map_cons, List.map_nil, List.sum_cons, List.sum_nil] at hw6
    have HOX := Lib.hid (HX.out.ok (by omega)); have HOY := Lib.hid (HY.out.ok (by omega))
    clear hf
    go_enter Tryz.func3, Tryz.ntmps3
    go_wp2_with fail
    refine HF.out.mono ?_
    rintro e m1 ⟨rfl, hl⟩
    have HL1 := Lib.hid (HL.out.trans hl)
    replace HB2 := Lib.hid (HB2.out.later hl); replace HB3 := Lib.hid (HB3.out.later hl)
    clear hl HF HL HX HY hw6
    generalize hr : swapN x.v y.v = r
    have HR := Lib.hid hr
    go_upto_region 3 with fail
    refine nmSs3 rfl (by kernel_rfl) ⟨_, rfl, rfl, rfl, rfl, by kernel_rfl⟩ ⟨_, rfl, rfl, rfl, rfl, by kernel_rfl⟩ ⟨_, rfl, rfl, rfl, rfl, by kernel_rfl⟩ ⟨_, rfl, rfl, rfl, rfl, by kernel_rfl⟩ ⟨_, rfl, rfl, rfl, rfl, by kernel_rfl⟩ ⟨_, rfl, rfl, rfl, rfl, by kernel_rfl⟩ ⟨_, rfl, rfl, rfl, rfl, by kernel_rfl⟩ ⟨_, rfl, rfl, rfl, rfl, by kernel_rfl⟩ ⟨_, rfl, rfl, rfl, rfl, by kernel_rfl⟩ ⟨_, rfl, rfl, rfl, rfl, by kernel_rfl⟩ ⟨_, rfl, rfl, rfl, rfl, by kernel_rfl⟩ ⟨_, rfl, rfl, rfl, rfl, by kernel_rfl⟩ ⟨_, rfl, rfl, rfl, rfl, by kernel_rfl⟩ ⟨_, rfl, rfl, rfl, rfl, by kernel_rfl⟩ (of_decide_eq_true rfl) (x := x) (y := y) (r := r) rfl rfl (HOX.out.later HL1.out) (HOY.out.later HL1.out) HB2.out HB3.out hr (fun G a w1 w5 so l1 hG h13 h6 h7 g5 g6 wm e5 e6 G5 G6 hne t5 t6 b5 b6 => ?_)
    obtain ⟨_, _, _, _, e7, _⟩ := h13
    obtain ⟨q0, ua, ub', ql, ea, oa, -, na, ya, aa⟩ := h6
    obtain ⟨q1, ua', ub, ql', eb, -, ob, nb, yb, ab⟩ := h7
    rw [ea] at b5
    rw [eb] at b6
    have hg5 := hG g5 G5; have hg6 := hG g6 G6
    have HL5 := Lib.hid ((l1.turn t5 hg5.1).turn t6 hg6.1)
    have HOA := Lib.hid (((oa.later ql).off t5 (aa g5 G5).1).off t6 (aa g6 G6).1); have HOB := Lib.hid (((ob.later ql').off t5 (ab g5 G5).2).off t6 (ab g6 G6).2)
    have HB5 : Hid (BoxAt w5 g5 (paL ua).toArray 30) := b5
    have HB6 : Hid (BoxAt w5 g6 (paL ub).toArray 30) := b6
    have HNA : Hid (r = none → ua.v = zeroPa ∧ ub.v = zeroPa) := fun h => ⟨by rw [(na h).1]; rfl, by rw [(nb h).2]; rfl⟩
    have HYA : Hid (∀ c, r = some c → ua.v = c.1 ∧ ub.v = c.2) := fun c h => ⟨(ya c h).1, (yb c h).2⟩
    have ha := so.is
    simp only [List.foldl_cons, List.foldl_nil] at ha
    rw [e5, e6, e7] at ha
    generalize a.eval (.tmp 21) = y21 at ha
    generalize a.eval (.tmp 22) = y22 at ha
    generalize a.eval (.tmp 23) = y23 at ha
    generalize a.eval (.tmp 24) = y24 at ha
    generalize a.eval (.tmp 25) = y25 at ha
    generalize a.eval (.tmp 20) = y20 at ha
    generalize a.eval (.tmp 26) = y26 at ha
    generalize a.eval (.tmp 27) = y27 at ha
    generalize a.eval (.tmp 28) = y28 at ha
    replace HB2 := Lib.hid (HB2.out.later HL5.out); replace HB3 := Lib.hid (HB3.out.later HL5.out)
    replace HL1 := Lib.hid (HL1.out.trans HL5.out)
    clear so l1 hG e7 ql ea oa na ya aa ql' eb ob nb yb ab b5 b6 hg5 hg6 e5 e6 G5 G6 hne t5 t6 HL5 hr
    subst ha
    simp only [Act.put, List.setIfInBounds_toArray, List.set_cons_zero, List.set_cons_succ]
    have HC := Lib.hid (refSwap7_any x y w5 (HOX.out.later HL1.out) (HOY.out.later HL1.out))
    rw [HR.out] at HC
    have q20 : w5.cell? ⟨w.heap.size, 0, none⟩ = some (.int .i64 x.v.id) := HB2.out.cell rfl
    have q21 : w5.cell? ⟨w.heap.size, 1, none⟩ = some (.string x.v.note) := HB2.out.cell rfl
    have q22 : w5.cell? ⟨w.heap.size, 2, none⟩ = some (.slice x.D x.nd x.cd) := HB2.out.cell rfl
    have q23 : w5.cell? ⟨w.heap.size, 3, none⟩ = some (.slice x.L x.nl x.cl) := HB2.out.cell rfl
    have q30 : w5.cell? ⟨w.heap.size + 1, 0, none⟩ = some (.int .i64 y.v.id) := HB3.out.cell rfl
    have q31 : w5.cell? ⟨w.heap.size + 1, 1, none⟩ = some (.string y.v.note) := HB3.out.cell rfl
    have q32 : w5.cell? ⟨w.heap.size + 1, 2, none⟩ = some (.slice y.D y.nd y.cd) := HB3.out.cell rfl
    have q33 : w5.cell? ⟨w.heap.size + 1, 3, none⟩ = some (.slice y.L y.nl y.cl) := HB3.out.cell rfl
    unfold paV at HC
    go_wp2_with fail
    refine HC.out.mono ?_
    rintro e w6 ⟨uc, ud, rfl, oc, od, hl6, nc, yc, -⟩
    clear HC q20 q21 q22 q23 q30 q31 q32 q33
    unfold paV
    have HL7 : Hid (Later w6 ((w6.alloc (.cells #[.int .i64 uc.v.id, .string uc.v.note, .slice uc.D uc.nd uc.cd, .slice uc.L uc.nl uc.cl] 25)).alloc (.cells #[.int .i64 ud.v.id, .string ud.v.note, .slice ud.D ud.nd ud.cd, .slice ud.L ud.nl ud.cl] 25))) := ((Later.refl _).alloc _).alloc _
    have HB8 : Hid (BoxAt ((w6.alloc (.cells #[.int .i64 uc.v.id, .string uc.v.note, .slice uc.D uc.nd uc.cd, .slice uc.L uc.nl uc.cl] 25)).alloc (.cells #[.int .i64 ud.v.id, .string ud.v.note, .slice ud.D ud.nd ud.cd, .slice ud.L ud.nl ud.cl] 25)) w6.heap.size (paL uc).toArray 25) := (BoxAt.made w6 (paL uc).toArray 25).alloc _
    have HB9 : Hid (BoxAt ((w6.alloc (.cells #[.int .i64 uc.v.id, .string uc.v.note, .slice uc.D uc.nd uc.cd, .slice uc.L uc.nl uc.cl] 25)).alloc (.cells #[.int .i64 ud.v.id, .string ud.v.note, .slice ud.D ud.nd ud.cd, .slice ud.L ud.nl ud.cl] 25)) (w6.heap.size + 1) (paL ud).toArray 25) := by
      have := BoxAt.made (w6.alloc (.cells #[.int .i64 uc.v.id, .string uc.v.note, .slice uc.D uc.nd uc.cd, .slice uc.L uc.nl uc.cl] 25)) (paL ud).toArray 25
      rw [World.size_alloc] at this
      exact this
    have HOC := Lib.hid (oc.later HL7.out); have HOD := Lib.hid (od.later HL7.out)
    replace HL7 := Lib.hid (hl6.trans HL7.out)
    have HNC : Hid (r = none → uc.v = zeroPa ∧ ud.v = zeroPa) := fun h => ⟨by rw [(nc h).1]; rfl, by rw [(nc h).2]; rfl⟩
    have HYC := Lib.hid yc
    have HAC : Hid (ua.v = uc.v ∧ ub.v = ud.v) := by
      cases r with
      | none => exact ⟨(HNA.out rfl).1.trans (HNC.out rfl).1.symm, (HNA.out rfl).2.trans (HNC.out rfl).2.symm⟩
      | some c => exact ⟨(HYA.out c rfl).1.trans (yc c rfl).1.symm, (HYA.out c rfl).2.trans (yc c rfl).2.symm⟩
    clear oc od hl6 nc yc
    go_upto_region 5 with fail
    refine nmSs5 rfl (by kernel_rfl) ⟨_, rfl, rfl, rfl, rfl, by kernel_rfl⟩ ⟨_, rfl, rfl, rfl, rfl, by kernel_rfl⟩ ⟨_, rfl, rfl, rfl, rfl, by kernel_rfl⟩ ⟨_, rfl, rfl, rfl, rfl, by kernel_rfl⟩ ⟨_, rfl, rfl, rfl, rfl, by kernel_rfl, by kernel_rfl⟩ ⟨_, rfl, rfl, rfl, rfl, by kernel_rfl, by kernel_rfl⟩ ⟨_, rfl, rfl, rfl, rfl, by kernel_rfl, by kernel_rfl⟩ ⟨_, rfl, rfl, rfl, rfl, by kernel_rfl, by kernel_rfl⟩ ⟨_, rfl, rfl, rfl, rfl, by kernel_rfl, by kernel_rfl⟩ ⟨_, rfl, rfl, rfl, rfl, by kernel_rfl⟩ ⟨_, rfl, rfl, rfl, rfl, by kernel_rfl⟩ ⟨_, rfl, rfl, rfl, rfl, by kernel_rfl, by kernel_rfl⟩ ⟨_, rfl, rfl, rfl, rfl, by kernel_rfl, by kernel_rfl⟩ ⟨_, rfl, rfl, rfl, rfl, by kernel_rfl, by kernel_rfl⟩ ⟨_, rfl, rfl, rfl, rfl, by kernel_rfl, by kernel_rfl⟩ ⟨_, rfl, rfl, rfl, rfl, by kernel_rfl, by kernel_rfl⟩ ⟨_, rfl, rfl, rfl, rfl, by kernel_rfl⟩ ⟨_, rfl, rfl, rfl, rfl, by kernel_rfl⟩ ⟨_, rfl, rfl, rfl, rfl, by kernel_rfl, by kernel_rfl⟩ ⟨_, rfl, rfl, rfl, rfl, by kernel_rfl, by kernel_rfl⟩ ⟨_, rfl, rfl, rfl, rfl, by kernel_rfl, by kernel_rfl⟩ ⟨_, rfl, rfl, rfl, rfl, by kernel_rfl, by kernel_rfl⟩ ⟨_, rfl, rfl, rfl, rfl, by kernel_rfl, by kernel_rfl⟩ ⟨_, rfl, rfl, rfl, rfl, by kernel_rfl, by kernel_rfl⟩ ⟨_, rfl, rfl, rfl, rfl, by kernel_rfl, by kernel_rfl⟩ ⟨_, rfl, rfl, rfl, rfl, by kernel_rfl⟩ (of_decide_eq_true rfl) (x := x) (y := y) (ua := ua) (ub := ub) (uc := uc) (ud := ud) (r := r) rfl rfl (HOX.out.later (HL1.out.trans HL7.out)) (HOY.out.later (HL1.out.trans HL7.out)) (HB2.out.later HL7.out) (HB3.out.later HL7.out) rfl rfl rfl rfl rfl rfl (HOA.out.later HL7.out) (HOB.out.later HL7.out) HOC.out HOD.out (HB5.out.later HL7.out) (HB6.out.later HL7.out) HB8.out HB9.out HAC.out.1 HAC.out.2 HR.out (fun a w8 so hl8 er => ?_)
    have ha := so.is
    simp only [List.foldl_cons, List.foldl_nil] at ha
    rw [er] at ha
    generalize a.eval (.tmp 36) = y36 at ha
    generalize a.eval (.tmp 37) = y37 at ha
    generalize a.eval (.tmp 38) = y38 at ha
    generalize a.eval (.tmp 39) = y39 at ha
    generalize a.eval (.tmp 40) = y40 at ha
    generalize a.eval (.tmp 41) = y41 at ha
    generalize a.eval (.tmp 42) = y42 at ha
    generalize a.eval (.tmp 43) = y43 at ha
    generalize a.eval (.tmp 44) = y44 at ha
    generalize a.eval (.tmp 45) = y45 at ha
    generalize a.eval (.tmp 46) = y46 at ha
    generalize a.eval (.tmp 47) = y47 at ha
    generalize a.eval (.tmp 48) = y48 at ha
    generalize a.eval (.tmp 49) = y49 at ha
    generalize a.eval (.tmp 50) = y50 at ha
    generalize a.eval (.tmp 51) = y51 at ha
    generalize a.eval (.tmp 52) = y52 at ha
    generalize a.eval (.tmp 53) = y53 at ha
    generalize a.eval (.tmp 54) = y54 at ha
    generalize a.eval (.tmp 55) = y55 at ha
    generalize a.eval (.tmp 56) = y56 at ha
    generalize a.eval (.tmp 57) = y57 at ha
    generalize a.eval (.tmp 58) = y58 at ha
    generalize a.eval (.tmp 59) = y59 at ha
    generalize a.eval (.tmp 60) = y60 at ha
    replace HL7 := Lib.hid (HL7.out.trans hl8)
    replace HL1 := Lib.hid (HL1.out.trans HL7.out)
    replace HB2 := Lib.hid (HB2.out.later HL7.out); replace HB3 := Lib.hid (HB3.out.later HL7.out); replace HB5 := Lib.hid (HB5.out.later HL7.out); replace HB6 := Lib.hid (HB6.out.later HL7.out); replace HOA := Lib.hid (HOA.out.later HL7.out); replace HOB := Lib.hid (HOB.out.later HL7.out)
    clear so er hl8 HL7 HB8 HB9 HOC HOD HNC HYC HAC
    subst ha
    simp only [Act.put, List.setIfInBounds_toArray, List.set_cons_zero, List.set_cons_succ]
    cases r with
    | none =>
      have HA := Lib.hid (alive7_any w8)
      go_wp2_with fail
      refine HA.out.mono ?_
      rintro e w9 ⟨rfl, hl⟩
      replace HL1 := Lib.hid (HL1.out.trans hl)
      clear hl HA
      go_wp2
      go_ret
      exact ⟨rfl, HL1.out⟩
    | some c =>
      obtain ⟨hva, hvb⟩ := HYA.out c rfl
      have HBK : Hid (swapN ua.v ub.v = some (x.v, y.v)) := by
        rw [hva, hvb]
        exact swapN_back (c := c.1) (d := c.2) HR.out
      clear hva hvb HNA HYA
      have HC := Lib.hid (swap7_any ua ub w8 HOA.out HOB.out)
      rw [HBK.out] at HC
      have q50 : w8.cell? ⟨g5, 0, none⟩ = some (.int .i64 ua.v.id) := HB5.out.cell rfl
      have q51 : w8.cell? ⟨g5, 1, none⟩ = some (.string ua.v.note) := HB5.out.cell rfl
      have q52 : w8.cell? ⟨g5, 2, none⟩ = some (.slice ua.D ua.nd ua.cd) := HB5.out.cell rfl
      have q53 : w8.cell? ⟨g5, 3, none⟩ = some (.slice ua.L ua.nl ua.cl) := HB5.out.cell rfl
      have q60 : w8.cell? ⟨g6, 0, none⟩ = some (.int .i64 ub.v.id) := HB6.out.cell rfl
      have q61 : w8.cell? ⟨g6, 1, none⟩ = some (.string ub.v.note) := HB6.out.cell rfl
      have q62 : w8.cell? ⟨g6, 2, none⟩ = some (.slice ub.D ub.nd ub.cd) := HB6.out.cell rfl
      have q63 : w8.cell? ⟨g6, 3, none⟩ = some (.slice ub.L ub.nl ub.cl) := HB6.out.cell rfl
      unfold paV at HC
      go_wp2_with fail
      refine HC.out.mono ?_
      rintro e w9 ⟨ue, uf, rfl, oe, of, -, -, hl9, -, hyes⟩
      clear HC q50 q51 q52 q53 q60 q61 q62 q63
      obtain ⟨hve, hvf⟩ := hyes _ rfl
      unfold paV
      have HL7 : Hid (Later w9 ((w9.alloc (.cells #[.int .i64 ue.v.id, .string ue.v.note, .slice ue.D ue.nd ue.cd, .slice ue.L ue.nl ue.cl] 30)).alloc (.cells #[.int .i64 uf.v.id, .string uf.v.note, .slice uf.D uf.nd uf.cd, .slice uf.L uf.nl uf.cl] 30))) := ((Later.refl _).alloc _).alloc _
      have HB8 : Hid (BoxAt ((w9.alloc (.cells #[.int .i64 ue.v.id, .string ue.v.note, .slice ue.D ue.nd ue.cd, .slice ue.L ue.nl ue.cl] 30)).alloc (.cells #[.int .i64 uf.v.id, .string uf.v.note, .slice uf.D uf.nd uf.cd, .slice uf.L uf.nl uf.cl] 30)) w9.heap.size (paL ue).toArray 30) := (BoxAt.made w9 (paL ue).toArray 30).alloc _
      have HB9 : Hid (BoxAt ((w9.alloc (.cells #[.int .i64 ue.v.id, .string ue.v.note, .slice ue.D ue.nd ue.cd, .slice ue.L ue.nl ue.cl] 30)).alloc (.cells #[.int .i64 uf.v.id, .string uf.v.note, .slice uf.D uf.nd uf.cd, .slice uf.L uf.nl uf.cl] 30)) (w9.heap.size + 1) (paL uf).toArray 30) := by
        have := BoxAt.made (w9.alloc (.cells #[.int .i64 ue.v.id, .string ue.v.note, .slice ue.D ue.nd ue.cd, .slice ue.L ue.nl ue.cl] 30)) (paL uf).toArray 30
        rw [World.size_alloc] at this
        exact this
      have HOE := Lib.hid (oe.later HL7.out); have HOF := Lib.hid (of.later HL7.out); have HVE := Lib.hid hve; have HVF := Lib.hid hvf
      replace HL7 := Lib.hid (hl9.trans HL7.out)
      clear oe of hl9 hve hvf hyes
      go_upto_region 10 with fail
      refine nmSs10 rfl (by kernel_rfl) ⟨_, rfl, rfl, rfl, rfl, by kernel_rfl⟩ ⟨_, rfl, rfl, rfl, rfl, by kernel_rfl⟩ ⟨_, rfl, rfl, rfl, rfl, by kernel_rfl, by kernel_rfl⟩ ⟨_, rfl, rfl, rfl, rfl, by kernel_rfl⟩ ⟨_, rfl, rfl, rfl, rfl, by kernel_rfl⟩ ⟨_, rfl, rfl, rfl, rfl, by kernel_rfl, by kernel_rfl⟩ ⟨_, rfl, rfl, rfl, rfl, by kernel_rfl, by kernel_rfl⟩ ⟨_, rfl, rfl, rfl, rfl, by kernel_rfl, by kernel_rfl⟩ ⟨_, rfl, rfl, rfl, rfl, by kernel_rfl, by kernel_rfl⟩ ⟨_, rfl, rfl, rfl, rfl, by kernel_rfl⟩ ⟨_, rfl, rfl, rfl, rfl, by kernel_rfl⟩ ⟨_, rfl, rfl, rfl, rfl, by kernel_rfl, by kernel_rfl⟩ ⟨_, rfl, rfl, rfl, rfl, by kernel_rfl, by kernel_rfl⟩ ⟨_, rfl, rfl, rfl, rfl, by kernel_rfl, by kernel_rfl⟩ ⟨_, rfl, rfl, rfl, rfl, by kernel_rfl, by kernel_rfl⟩ ⟨_, rfl, rfl, rfl, rfl, by kernel_rfl⟩ ⟨_, rfl, rfl, rfl, rfl, by kernel_rfl⟩ (of_decide_eq_true rfl) (x := x) (y := y) (ua := ue) (ub := uf) rfl rfl (HOX.out.later (HL1.out.trans HL7.out)) (HOY.out.later (HL1.out.trans HL7.out)) (HB2.out.later HL7.out) (HB3.out.later HL7.out) rfl rfl rfl HOE.out HOF.out HB8.out HB9.out HVE.out HVF.out (fun a w10 so hl10 er => ?_)
      have HLN := Lib.hid ((HL1.out.trans HL7.out).trans hl10)
      clear hl10 HL1 HL7 HB2 HB3 HB5 HB6 HB8 HB9 HOA HOB HOE HOF HOX HOY
      go_wp2
      refine bodyPost_ret (results_tmp rfl _ _ _) so.defers ?_
      exact ⟨congrArg Ending.returned er, HLN.out⟩

end Go.Proofs.YtlnjhimbgckdcaaGreat
