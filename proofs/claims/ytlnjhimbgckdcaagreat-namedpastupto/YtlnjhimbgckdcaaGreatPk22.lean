import Derived.Test.YtlnjhimbgckdcaaGreatPk20
import Derived.Test.YtlnjhimbgckdcaaGreatPk21
import Derived.Deep.LoopGhost
import Derived.Deep.QuietTactic
import Derived.BigQuiet
import Derived.Lib.Hide
import Derived.Test.YtlnjhimbgckdcaaGreatPk16
import Derived.Test.YtlnjhimbgckdcaaGreatPk13

/-
  The statements' own example of layer 7, as a call.
-/
namespace Go.Proofs.YtlnjhimbgckdcaaGreat
open Go.RowKit Go.Maps

set_option maxRecDepth 100000 in
set_option maxHeartbeats 1600000 in
theorem alive7_any (w : World) : Calls Tryz.prog 8 #[] w (Says true w) := by
  have HLW := Lib.hid (e7_later w); have HBL := Lib.hid (e7_box w); have HNS := Lib.hid (e7_list w)
  go_enter Tryz.func8, Tryz.ntmps8
  go_wp2_with fail
  generalize (((((w.alloc (.cells #[.int .i64 1, .string ⟨#[97]⟩, .string ⟨#[]⟩, .int .i64 0, .slice none 0 0, .slice none 0 0] 58)).alloc (.cells #[.int .i64 1, .string ⟨#[98]⟩, .string ⟨#[]⟩, .int .i64 0, .slice none 0 0, .slice none 0 0] 58)).alloc (.cells #[.string ⟨#[120]⟩] 9)).alloc (.cells #[.int .i64 0, .string ⟨#[97]⟩, .string ⟨#[]⟩, .int .i64 0, .slice none 0 0, .slice (some ⟨w.heap.size + 1 + 1, 0, none⟩) 1 1] 58)).alloc (.cells #[.int .i64 1, .string ⟨#[]⟩, .slice none 0 0, .slice (some ⟨w.heap.size, 0, none⟩) 1 1, .int .i64 2, .string ⟨#[98]⟩, .slice none 0 0, .slice (some ⟨w.heap.size + 1, 0, none⟩) 1 1, .int .i64 3, .string ⟨#[]⟩, .slice none 0 0, .slice (some ⟨w.heap.size + 1 + 1 + 1, 0, none⟩) 1 1] 30)) = w5 at HLW HBL HNS ⊢
  generalize w.heap.size + 1 + 1 + 1 + 1 = gl at HBL HNS ⊢
  generalize w.heap.size + 1 + 1 + 1 = gc at HBL HNS ⊢
  generalize w.heap.size + 1 + 1 = gs at HBL HNS ⊢
  generalize w.heap.size + 1 = gb at HBL HNS ⊢
  generalize w.heap.size = ga at HBL HNS ⊢
  have HGR := Lib.hid (group7_any (some ⟨gl, 0, none⟩) 3 3 _ w5 HNS.out (by omega))
  rw [show valsN [c7A ga, c7B gb, c7C gc gs] = [n7A, n7B, n7C] from rfl, n7_group] at HGR
  refine HGR.out.mono ?_
  rintro e w6 ⟨v, u, ys, zs, rfl, ov, ou, ev, eu⟩
  have hl := ov.later
  replace HLW := Lib.hid (HLW.out.trans hl); replace HBL := Lib.hid (HBL.out.later hl); replace HNS := Lib.hid (HNS.out.later hl)
  have HOV := Lib.hid ov; have HOU := Lib.hid ou
  clear hl ov ou HGR
  go_upto_region 3 with fail
  refine alive7_region rfl (by kernel_rfl) ⟨_, rfl, rfl, rfl, rfl, by kernel_rfl⟩ ⟨_, rfl, rfl, rfl, rfl, by kernel_rfl⟩ ⟨_, rfl, rfl, rfl, rfl, by kernel_rfl⟩ ⟨_, rfl, rfl, rfl, rfl, by kernel_rfl⟩ ⟨_, rfl, rfl, rfl, rfl, by kernel_rfl⟩ ⟨_, rfl, rfl, rfl, rfl, by kernel_rfl⟩ ⟨_, rfl, rfl, rfl, rfl, by kernel_rfl⟩ ⟨_, rfl, rfl, rfl, rfl, by kernel_rfl⟩ ⟨_, rfl, rfl, rfl, rfl, by kernel_rfl⟩ ⟨_, rfl, rfl, rfl, rfl, by kernel_rfl⟩ ⟨_, rfl, rfl, rfl, rfl, by kernel_rfl⟩ ⟨_, rfl, rfl, rfl, rfl, by kernel_rfl⟩ ⟨_, rfl, rfl, rfl, rfl, by kernel_rfl⟩ ⟨_, rfl, rfl, rfl, rfl, by kernel_rfl⟩ ⟨_, rfl, rfl, rfl, rfl, by kernel_rfl⟩ ⟨_, rfl, rfl, rfl, rfl, by kernel_rfl⟩ (of_decide_eq_true rfl) (x := c7A ga) (x1 := c7B gb) rfl HNS.out.row rfl rfl (HNS.out.each _ (by simp)) (HNS.out.each _ (by simp)) n7_swap (fun D a V so e4 e5 e6 st => ?_)
  obtain ⟨hb8, hb9⟩ := st.boxes
  obtain ⟨oy, oz, et, -, hsw⟩ := st.sw (by omega)
  obtain ⟨ey, ez⟩ := hsw _ rfl
  have hl := st.later
  simp only [Option.isSome_some] at et
  rw [et] at e6
  have ha := so.is
  simp only [List.foldl_cons, List.foldl_nil] at ha
  generalize a.eval (.tmp 27) = v27 at ha
  generalize a.eval (.tmp 28) = v28 at ha
  generalize a.eval (.tmp 29) = v29 at ha
  generalize a.eval (.tmp 30) = v30 at ha
  generalize a.eval (.tmp 31) = v31 at ha
  generalize a.eval (.tmp 32) = v32 at ha
  generalize a.eval (.tmp 33) = v33 at ha
  generalize a.eval (.tmp 26) = v26 at ha
  generalize a.eval (.tmp 34) = v34 at ha
  generalize a.eval (.tmp 35) = v35 at ha
  generalize a.eval (.tmp 36) = v36 at ha
  generalize a.eval (.tmp 4) = v4 at ha e4
  generalize a.eval (.tmp 5) = v5 at ha e5
  generalize a.eval (.tmp 6) = v6 at ha e6
  clear so st hsw et
  subst ha
  simp only [Act.put, List.setIfInBounds_toArray, List.set_cons_zero, List.set_cons_succ]
  subst e4 e5 e6
  generalize D.g8 = g8 at hb8 ⊢
  generalize D.g9 = g9 at hb9 ⊢
  generalize D.y = y at hb8 oy ey
  generalize D.z = z at hb9 oz ez
  replace HLW := Lib.hid (HLW.out.trans hl); replace HBL := Lib.hid (HBL.out.later hl); replace HNS := Lib.hid (HNS.out.later hl); replace HOV := Lib.hid (HOV.out.on hl); replace HOU := Lib.hid (HOU.out.on hl)
  have HB8 := Lib.hid hb8; have HB9 := Lib.hid hb9; have HOY := Lib.hid oy; have HOZ := Lib.hid oz; have HEY := Lib.hid ey; have HEZ := Lib.hid ez
  clear hb8 hb9 oy oz ey ez hl
  have hl7 : Later V (V.alloc (.cells #[.int .i64 1, .string ⟨#[99]⟩, .string ⟨#[]⟩, .int .i64 0, .slice none 0 0, .slice none 0 0] 58)) := (Later.refl V).alloc _
  have HPA := Lib.hid (past7_any (some ⟨gl, 0, none⟩) 2 3 _ (c7D V.heap.size) _ ((HNS.out.later hl7).front (k := 2) (by omega)) (c7D_ok V) (by omega))
  rw [show valsN (List.take 2 [c7A ga, c7B gb, c7C gc gs]) = [n7A, n7B] from rfl, show (c7D V.heap.size).v = n7D from rfl, n7_past] at HPA
  simp only [c7D, paV, n7D] at HPA
  replace HLW := Lib.hid (HLW.out.trans hl7); replace HBL := Lib.hid (HBL.out.later hl7); replace HNS := Lib.hid (HNS.out.later hl7); replace HOV := Lib.hid (HOV.out.on hl7); replace HOU := Lib.hid (HOU.out.on hl7); replace HB8 := Lib.hid (HB8.out.later hl7); replace HB9 := Lib.hid (HB9.out.later hl7); replace HOY := Lib.hid (HOY.out.later hl7); replace HOZ := Lib.hid (HOZ.out.later hl7)
  clear hl7
  go_wp2_with fail
  refine HPA.out.mono ?_
  rintro e w8 ⟨hl8, y7, v7, zs7, rfl, ey7, oy7, -, ov7, ev7, -, -⟩
  have hl9 : Later w8 (w8.alloc (.cells #[.int .i64 y7.v.id, .string y7.v.note, .slice y7.D y7.nd y7.cd, .slice y7.L y7.nl y7.cl] 30)) := (Later.refl w8).alloc _
  have hl := hl8.trans hl9
  obtain ⟨b7, c7, rfl, -, -⟩ := own_two ov7 ev7
  have HB7 : Hid (BoxAt (w8.alloc (.cells #[.int .i64 y7.v.id, .string y7.v.note, .slice y7.D y7.nd y7.cd, .slice y7.L y7.nl y7.cl] 30)) w8.heap.size (paL y7).toArray 30) := BoxAt.made w8 (paL y7).toArray 30
  have HI7 : Hid (y7.v.id = 9) := by show _ = _; rw [ey7]
  replace HLW := Lib.hid (HLW.out.trans hl); replace HBL := Lib.hid (HBL.out.later hl); replace HNS := Lib.hid (HNS.out.later hl); replace HOV := Lib.hid (HOV.out.on hl); replace HOU := Lib.hid (HOU.out.on hl); replace HB8 := Lib.hid (HB8.out.later hl); replace HB9 := Lib.hid (HB9.out.later hl); replace HOY := Lib.hid (HOY.out.later hl); replace HOZ := Lib.hid (HOZ.out.later hl)
  obtain ⟨bv, cv, rfl, v0, v1⟩ := own_two HOV.out ev
  obtain ⟨bu, cu, rfl, u0⟩ := own_one HOU.out eu
  simp only [n7A, n7B, n7C] at v0 v1 u0
  clear hl hl8 hl9 ov7 ev7 oy7 ey7 HPA HOV HOU ev eu
  unfold paV
  have i7 : (w8.alloc (.cells #[.int .i64 y7.v.id, .string y7.v.note, .slice y7.D y7.nd y7.cd, .slice y7.L y7.nl y7.cl] 30)).cell? ⟨w8.heap.size, 0, none⟩ = some (.int .i64 9) := by
    have : (w8.alloc (.cells #[.int .i64 y7.v.id, .string y7.v.note, .slice y7.D y7.nd y7.cd, .slice y7.L y7.nl y7.cl] 30)).cell? ⟨w8.heap.size, 0, none⟩ = some (.int .i64 y7.v.id) := HB7.out.cell rfl
    exact this.trans (congrArg (fun z => some (Value.int .i64 z)) HI7.out)
  have HI := Lib.hid i7; have HV0 := Lib.hid v0; have HV1 := Lib.hid v1; have HU0 := Lib.hid u0
  clear i7 v0 v1 u0
  go_upto_region 5 with fail
  refine alive5_region rfl (by kernel_rfl) ⟨_, rfl, rfl, rfl, rfl, by kernel_rfl⟩ ⟨_, rfl, rfl, rfl, rfl, by kernel_rfl⟩ ⟨_, rfl, rfl, rfl, rfl, by kernel_rfl⟩ ⟨_, rfl, rfl, rfl, rfl, by kernel_rfl⟩ ⟨_, rfl, rfl, rfl, rfl, by kernel_rfl, by kernel_rfl⟩ ⟨_, rfl, rfl, rfl, rfl, by kernel_rfl, by kernel_rfl⟩ ⟨_, rfl, rfl, rfl, rfl, by kernel_rfl, by kernel_rfl⟩ ⟨_, rfl, rfl, rfl, rfl, by kernel_rfl, by kernel_rfl⟩ ⟨_, rfl, rfl, rfl, rfl, by kernel_rfl, by kernel_rfl⟩ ⟨_, rfl, rfl, rfl, rfl, by kernel_rfl⟩ ⟨_, rfl, rfl, rfl, rfl, by kernel_rfl⟩ ⟨_, rfl, rfl, rfl, rfl, by kernel_rfl, by kernel_rfl⟩ ⟨_, rfl, rfl, rfl, rfl, by kernel_rfl, by kernel_rfl⟩ ⟨_, rfl, rfl, rfl, rfl, by kernel_rfl, by kernel_rfl⟩ ⟨_, rfl, rfl, rfl, rfl, by kernel_rfl, by kernel_rfl⟩ ⟨_, rfl, rfl, rfl, rfl, by kernel_rfl, by kernel_rfl⟩ ⟨_, rfl, rfl, rfl, rfl, by kernel_rfl⟩ ⟨_, rfl, rfl, rfl, rfl, by kernel_rfl⟩ ⟨_, rfl, rfl, rfl, rfl, by kernel_rfl, by kernel_rfl⟩ ⟨_, rfl, rfl, rfl, rfl, by kernel_rfl, by kernel_rfl⟩ ⟨_, rfl, rfl, rfl, rfl, by kernel_rfl, by kernel_rfl⟩ ⟨_, rfl, rfl, rfl, rfl, by kernel_rfl⟩ ⟨_, rfl, rfl, rfl, rfl, by kernel_rfl⟩ ⟨_, rfl, rfl, rfl, rfl, by kernel_rfl, by kernel_rfl⟩ ⟨_, rfl, rfl, rfl, rfl, by kernel_rfl, by kernel_rfl⟩ ⟨_, rfl, rfl, rfl, rfl, by kernel_rfl, by kernel_rfl⟩ ⟨_, rfl, rfl, rfl, rfl, by kernel_rfl, by kernel_rfl⟩ ⟨_, rfl, rfl, rfl, rfl, by kernel_rfl, by kernel_rfl⟩ ⟨_, rfl, rfl, rfl, rfl, by kernel_rfl⟩ ⟨_, rfl, rfl, rfl, rfl, by kernel_rfl⟩ ⟨_, rfl, rfl, rfl, rfl, by kernel_rfl, by kernel_rfl⟩ ⟨_, rfl, rfl, rfl, rfl, by kernel_rfl⟩ ⟨_, rfl, rfl, rfl, rfl, by kernel_rfl⟩ ⟨_, rfl, rfl, rfl, rfl, by kernel_rfl, by kernel_rfl⟩ ⟨_, rfl, rfl, rfl, rfl, by kernel_rfl, by kernel_rfl⟩ ⟨_, rfl, rfl, rfl, rfl, by kernel_rfl, by kernel_rfl⟩ ⟨_, rfl, rfl, rfl, rfl, by kernel_rfl, by kernel_rfl⟩ ⟨_, rfl, rfl, rfl, rfl, by kernel_rfl, by kernel_rfl⟩ ⟨_, rfl, rfl, rfl, rfl, by kernel_rfl⟩ ⟨_, rfl, rfl, rfl, rfl, by kernel_rfl⟩ ⟨_, rfl, rfl, rfl, rfl, by kernel_rfl, by kernel_rfl⟩ ⟨_, rfl, rfl, rfl, rfl, by kernel_rfl, by kernel_rfl⟩ ⟨_, rfl, rfl, rfl, rfl, by kernel_rfl, by kernel_rfl⟩ ⟨_, rfl, rfl, rfl, rfl, by kernel_rfl, by kernel_rfl⟩ ⟨_, rfl, rfl, rfl, rfl, by kernel_rfl, by kernel_rfl⟩ ⟨_, rfl, rfl, rfl, rfl, by kernel_rfl, by kernel_rfl⟩ ⟨_, rfl, rfl, rfl, rfl, by kernel_rfl⟩ ⟨_, rfl, rfl, rfl, rfl, by kernel_rfl⟩ ⟨_, rfl, rfl, rfl, rfl, by kernel_rfl, by kernel_rfl⟩ ⟨_, rfl, rfl, rfl, rfl, by kernel_rfl⟩ ⟨_, rfl, rfl, rfl, rfl, by kernel_rfl⟩ ⟨_, rfl, rfl, rfl, rfl, by kernel_rfl, by kernel_rfl⟩ ⟨_, rfl, rfl, rfl, rfl, by kernel_rfl, by kernel_rfl⟩ ⟨_, rfl, rfl, rfl, rfl, by kernel_rfl, by kernel_rfl⟩ ⟨_, rfl, rfl, rfl, rfl, by kernel_rfl⟩ ⟨_, rfl, rfl, rfl, rfl, by kernel_rfl⟩ ⟨_, rfl, rfl, rfl, rfl, by kernel_rfl, by kernel_rfl⟩ ⟨_, rfl, rfl, rfl, rfl, by kernel_rfl, by kernel_rfl⟩ ⟨_, rfl, rfl, rfl, rfl, by kernel_rfl, by kernel_rfl⟩ ⟨_, rfl, rfl, rfl, rfl, by kernel_rfl⟩ ⟨_, rfl, rfl, rfl, rfl, by kernel_rfl⟩ ⟨_, rfl, rfl, rfl, rfl, by kernel_rfl, by kernel_rfl⟩ ⟨_, rfl, rfl, rfl, rfl, by kernel_rfl, by kernel_rfl⟩ ⟨_, rfl, rfl, rfl, rfl, by kernel_rfl, by kernel_rfl⟩ ⟨_, rfl, rfl, rfl, rfl, by kernel_rfl, by kernel_rfl⟩ ⟨_, rfl, rfl, rfl, rfl, by kernel_rfl, by kernel_rfl⟩ ⟨_, rfl, rfl, rfl, rfl, by kernel_rfl, by kernel_rfl⟩ ⟨_, rfl, rfl, rfl, rfl, by kernel_rfl, by kernel_rfl⟩ ⟨_, rfl, rfl, rfl, rfl, by kernel_rfl⟩ ⟨_, rfl, rfl, rfl, rfl, by kernel_rfl⟩ ⟨_, rfl, rfl, rfl, rfl, by kernel_rfl, by kernel_rfl⟩ ⟨_, rfl, rfl, rfl, rfl, by kernel_rfl, by kernel_rfl⟩ ⟨_, rfl, rfl, rfl, rfl, by kernel_rfl, by kernel_rfl⟩ ⟨_, rfl, rfl, rfl, rfl, by kernel_rfl, by kernel_rfl⟩ ⟨_, rfl, rfl, rfl, rfl, by kernel_rfl⟩ ⟨_, rfl, rfl, rfl, rfl, by kernel_rfl⟩ ⟨_, rfl, rfl, rfl, rfl, by kernel_rfl, by kernel_rfl⟩ ⟨_, rfl, rfl, rfl, rfl, by kernel_rfl, by kernel_rfl⟩ ⟨_, rfl, rfl, rfl, rfl, by kernel_rfl, by kernel_rfl⟩ ⟨_, rfl, rfl, rfl, rfl, by kernel_rfl⟩ ⟨_, rfl, rfl, rfl, rfl, by kernel_rfl⟩ (of_decide_eq_true rfl) (xa := c7A ga) (xb := c7B gb) (xc := c7C gc gs) rfl rfl rfl rfl rfl rfl rfl rfl rfl HNS.out.row rfl rfl rfl (HNS.out.each _ (by simp)) (HNS.out.each _ (by simp)) (HNS.out.each _ (by simp)) HOY.out HOZ.out HB8.out HB9.out HV0.out HV1.out HU0.out HI.out (by rw [HEY.out]; exact n7_sameB) (by rw [HEZ.out]; exact n7_sameA) n7_needs n7_right n7_wrong (fun a wn so hln er => ?_)
  have HLN := Lib.hid (HLW.out.trans hln)
  clear hln HLW HBL HNS HB7 HI7 HB8 HB9 HOY HOZ HEY HEZ HI HV0 HV1 HU0
  go_wp2
  refine bodyPost_ret (results_tmp rfl _ _ _) so.defers ?_
  exact ⟨congrArg Ending.returned er, HLN.out⟩

end Go.Proofs.YtlnjhimbgckdcaaGreat

/-
  More operations of a region that draws its order: comparisons of numbers, rows of numbers.
-/
namespace Go.Proofs.YtlnjhimbgckdcaaGreat
open Go.RowKit Go.Maps

section
variable {ops : Array Oper} {Q : Exit -> Act -> World -> Prop} {K : Act -> World -> Prop} {i : Nat} {dst : Option Tmp} {js : List Nat} {a : Act} {w w0 : World}
theorem OpIs.lssC {k : Tmp} {x z : Int} {b : Bool} (h : OpIs ops i (.binOp .lss 3 (.tmp k) (.const (.int .i64 z)) 3) dst js) (he : a.eval (.tmp k) = .int .i64 x) (hb : decide (x < z) = b) (hk : K (a.put dst (.bool b)) w) : wpOp Tryz.prog ops Q i K a w :=
  h.go fun op h1 h2 => by
    have hr : (execOp a.eval op).run Tryz.prog w = .ok (.value (.bool b)) w := by
      clear hk
      subst hb
      unfold execOp
      rw [h1]
      dsimp only
      rw [he]
      go_simp
    unfold Oper.wp
    rw [hr]
    show K _ _
    rw [h2]
    exact hk
theorem OpIs.gtrC {k : Tmp} {x z : Int} {b : Bool} (h : OpIs ops i (.binOp .gtr 3 (.tmp k) (.const (.int .i64 z)) 3) dst js) (he : a.eval (.tmp k) = .int .i64 x) (hb : decide (z < x) = b) (hk : K (a.put dst (.bool b)) w) : wpOp Tryz.prog ops Q i K a w :=
  h.go fun op h1 h2 => by
    have hr : (execOp a.eval op).run Tryz.prog w = .ok (.value (.bool b)) w := by
      clear hk
      subst hb
      unfold execOp
      rw [h1]
      dsimp only
      rw [he]
      go_simp
    unfold Oper.wp
    rw [hr]
    show K _ _
    rw [h2]
    exact hk
theorem OpIs.leqTT {j k : Tmp} {x z : Int} {b : Bool} (h : OpIs ops i (.binOp .leq 3 (.tmp j) (.tmp k) 3) dst js) (he : a.eval (.tmp j) = .int .i64 x) (he2 : a.eval (.tmp k) = .int .i64 z) (hb : decide (x <= z) = b) (hk : K (a.put dst (.bool b)) w) : wpOp Tryz.prog ops Q i K a w :=
  h.go fun op h1 h2 => by
    have hr : (execOp a.eval op).run Tryz.prog w = .ok (.value (.bool b)) w := by
      clear hk
      subst hb
      unfold execOp
      rw [h1]
      dsimp only
      rw [he, he2]
      go_simp
    unfold Oper.wp
    rw [hr]
    show K _ _
    rw [h2]
    exact hk
theorem OpIs.eqlTT {j k : Tmp} {x z : Int} {b : Bool} (h : OpIs ops i (.binOp .eql 3 (.tmp j) (.tmp k) 3) dst js) (he : a.eval (.tmp j) = .int .i64 x) (he2 : a.eval (.tmp k) = .int .i64 z) (hb : decide (x = z) = b) (hk : K (a.put dst (.bool b)) w) : wpOp Tryz.prog ops Q i K a w :=
  h.go fun op h1 h2 => by
    have hr : (execOp a.eval op).run Tryz.prog w = .ok (.value (.bool b)) w := by
      clear hk
      subst hb
      unfold execOp
      rw [h1]
      dsimp only
      rw [he, he2]
      go_simp
      rfl
    unfold Oper.wp
    rw [hr]
    show K _ _
    rw [h2]
    exact hk
theorem OpIs.subC {k : Tmp} {j : Nat} (h : OpIs ops i (.binOp .sub 3 (.tmp k) (.const (.int .i64 1)) 3) dst js) (he : a.eval (.tmp k) = .int .i64 (j + 1 : Nat)) (hj : j <= 1000000) (hk : K (a.put dst (.int .i64 (j : Nat))) w) : wpOp Tryz.prog ops Q i K a w :=
  h.go fun op h1 h2 => by
    have hr : (execOp a.eval op).run Tryz.prog w = .ok (.value (.int .i64 (j : Nat))) w := by
      clear hk
      unfold execOp
      rw [h1]
      dsimp only
      rw [he]
      go_simp
      rw [IntKind.wrap_i64] <;> omega
    unfold Oper.wp
    rw [hr]
    show K _ _
    rw [h2]
    exact hk
theorem OpIs.indexI7 {j k : Tmp} {g o n c m : Nat} (h : OpIs ops i (.indexAddr 22 (.tmp j) (.tmp k)) dst js) (hj : a.eval (.tmp j) = .slice (some ⟨g, o, none⟩) n c) (hk' : a.eval (.tmp k) = .int .i64 (m : Nat)) (hm : m < n) (hk : K (a.put dst (.pointer (some ⟨g, o + m, none⟩))) w) : wpOp Tryz.prog ops Q i K a w :=
  h.go fun op h1 h2 => by
    have hr : (execOp a.eval op).run Tryz.prog w = .ok (.value (.pointer (some ⟨g, o + m, none⟩))) w := by
      clear hk
      unfold execOp
      rw [h1]
      dsimp only
      rw [hj, hk']
      go_simp
    unfold Oper.wp
    rw [hr]
    show K _ _
    rw [h2]
    exact hk
end
theorem OpG.skipU {P : Program} {ops : Array Oper} {Q : Exit -> Act -> World -> Prop} {K : Act -> World -> Prop} {i g : Nat} {d e : Tmp} {op : Op} {js : List Nat} {a : Act} {w : World} (h : OpG ops i op (some e) js g d) (hv : a.eval (.tmp d) = undef) (hd : d < a.tmps.size) (hk : K (a.put (some e) undef) w) : wpOp P ops Q i K a w := by
  obtain ⟨o, h1, -, h3, h4, -, h6⟩ := h
  unfold wpOp
  rw [h1]
  have e2 : ¬ Region.wanted o (yielded ops a.tmps) = true := by
    have ht : a.tmps[d]? = some undef := by
      rw [Array.getElem?_eq_getElem hd]
      have := hv
      simp only [Act.eval, Array.getD, hd, dif_pos] at this
      exact congrArg some this
    simp only [Region.wanted, h4, yielded]
    rw [h6]
    simp [ht, undef]
  dsimp only
  rw [if_neg e2, h3]
  exact hk
theorem OpN.skipU {P : Program} {ops : Array Oper} {Q : Exit -> Act -> World -> Prop} {K : Act -> World -> Prop} {i g : Nat} {d e : Tmp} {op : Op} {js : List Nat} {a : Act} {w : World} (h : OpN ops i op (some e) js g d) (hv : a.eval (.tmp d) = undef) (hd : d < a.tmps.size) (hk : K (a.put (some e) undef) w) : wpOp P ops Q i K a w := by
  obtain ⟨o, h1, -, h3, h4, -, h6⟩ := h
  unfold wpOp
  rw [h1]
  have e2 : ¬ Region.wanted o (yielded ops a.tmps) = true := by
    have ht : a.tmps[d]? = some undef := by
      rw [Array.getElem?_eq_getElem hd]
      have := hv
      simp only [Act.eval, Array.getD, hd, dif_pos] at this
      exact congrArg some this
    simp only [Region.wanted, h4, yielded]
    rw [h6]
    simp [ht, undef]
  dsimp only
  rw [if_neg e2, h3]
  exact hk

end Go.Proofs.YtlnjhimbgckdcaaGreat
