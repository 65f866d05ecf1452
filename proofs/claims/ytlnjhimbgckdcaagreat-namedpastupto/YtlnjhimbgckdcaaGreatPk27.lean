import Derived.Test.YtlnjhimbgckdcaaGreatPk14
import Derived.Test.YtlnjhimbgckdcaaGreatPk5
import Derived.Test.YtlnjhimbgckdcaaGreatPk23
import Derived.Test.YtlnjhimbgckdcaaGreatPk24
import Derived.Test.YtlnjhimbgckdcaaGreatPk25
import Derived.Test.YtlnjhimbgckdcaaGreatPk26
import Derived.Deep.LoopGhost
import Derived.Deep.QuietTactic
import Derived.BigQuiet
import Derived.Lib.Hide

/-
  What the document's own Right of patches comes to, as a call.
-/
namespace Go.Proofs.YtlnjhimbgckdcaaGreat
open Go.RowKit Go.Maps

set_option maxRecDepth 100000 in
set_option maxHeartbeats 6400000 in
theorem refRight7_any (x : PaC) (w : World) (hx : PaOk w x) : Calls Tryz.prog 22 #[paV x] w (Says (rightN x.v) w) := by
  have hlen := paOk_length hx
  have hdl : x.v.deps.length = x.nd := by have := hx.deps.len; simpa using this
  have HLB : Hid (Later w (w.alloc (.cells #[.int .i64 x.v.id, .string x.v.note, .slice x.D x.nd x.cd, .slice x.L x.nl x.cl] 25))) := (Later.refl w).alloc _
  have HB : Hid (BoxAt (w.alloc (.cells #[.int .i64 x.v.id, .string x.v.note, .slice x.D x.nd x.cd, .slice x.L x.nl x.cl] 25)) w.heap.size (paL x).toArray 25) := BoxAt.made w (paL x).toArray 25
  have HR := Lib.hid (refRight_any x.v.note (w.alloc (.cells #[.int .i64 x.v.id, .string x.v.note, .slice x.D x.nd x.cd, .slice x.L x.nl x.cl] 25)) hx.note)
  have HD : Hid (RowI (w.alloc (.cells #[.int .i64 x.v.id, .string x.v.note, .slice x.D x.nd x.cd, .slice x.L x.nl x.cl] 25)) x.D x.nd x.v.deps) := RowK.later hx.deps HLB.out
  have HS : Hid (∀ w', Later w w' -> Calls Tryz.prog 37 #[.slice x.L x.nl x.cl] w' (Says (x.v.l.all rightP) w')) := fun w' hl => by
    rw [← hx.is]
    exact refRight5_any x.L x.nl x.cl x.xs w' (hx.row.later hl) (by have := hx.lmost; omega)
  have hm := hx.lmost; have hdm := hx.dmost
  have HRR := Lib.hid (rightN_parts x.v)
  rw [hlen, hdl] at HRR
  clear hx
  unfold paV
  by_cases c1 : x.v.id < 1
  · have h1 : ¬ (1 <= x.v.id /\ x.v.id <= 1000000000) := by omega
    go_enter Tryz.func22, Tryz.ntmps22
    go_wp2
    go_ret
    exact ⟨by rw [HRR.out, decide_eq_false h1]; rfl, HLB.out⟩
  · by_cases c2 : 1000000000 < x.v.id
    · have h1 : ¬ (1 <= x.v.id /\ x.v.id <= 1000000000) := by omega
      go_enter Tryz.func22, Tryz.ntmps22
      go_wp2
      go_ret
      exact ⟨by rw [HRR.out, decide_eq_false h1]; rfl, HLB.out⟩
    · have h1 : 1 <= x.v.id /\ x.v.id <= 1000000000 := by omega
      rw [decide_eq_true h1, Bool.true_and] at HRR
      clear h1
      generalize rightB x.v.note = rb at HR HRR
      go_enter Tryz.func22, Tryz.ntmps22
      go_wp2_with fail
      refine HR.out.mono ?_
      rintro e w' ⟨rfl, rfl⟩
      cases rb with
      | false =>
        go_wp2
        go_ret
        exact ⟨by rw [HRR.out]; rfl, HLB.out⟩
      | true =>
        rw [Bool.true_and] at HRR
        by_cases c3 : 8 < x.nd
        · have h8 : ¬ x.nd <= 8 := by omega
          go_wp2
          go_ret
          exact ⟨by rw [HRR.out, decide_eq_false h8]; rfl, HLB.out⟩
        · by_cases c4 : x.nl < 1
          · have h8 : ¬ 1 <= x.nl := by omega
            go_wp2
            go_ret
            exact ⟨by rw [HRR.out, decide_eq_false h8]; simp, HLB.out⟩
          · by_cases c5 : 24 < x.nl
            · have h8 : ¬ x.nl <= 24 := by omega
              go_wp2
              go_ret
              exact ⟨by rw [HRR.out, decide_eq_false h8]; simp, HLB.out⟩
            · rw [decide_eq_true (show x.nd <= 8 by omega), decide_eq_true (show 1 <= x.nl by omega), decide_eq_true (show x.nl <= 24 by omega), Bool.true_and, Bool.true_and, Bool.true_and] at HRR
              go_wp2
              generalize w.alloc (.cells #[.int .i64 x.v.id, .string x.v.note, .slice x.D x.nd x.cd, .slice x.L x.nl x.cl] 25) = wb at HLB HB HD ⊢
              clear HR
              go_loopg [3] (x.nd + 1) (fun g s3 wr => ∃ k : Nat, k <= x.nd /\ x.nd - k <= g /\ s3 = .int .i64 k /\ Hid (Later wb wr) /\ Hid (∀ j : Nat, j < k -> wrongAt x.v.id x.v.deps j = false))
              case atStart => exact ⟨0, Nat.zero_le _, by omega, rfl, Later.refl wb, fun j hj => absurd hj (Nat.not_lt_zero _)⟩
              case round =>
                obtain ⟨k, hk, hg, rfl, hwr, hall⟩ := hrel
                have q0 : wr.cell? ⟨w.heap.size, 0, none⟩ = some (.int .i64 x.v.id) := (HB.out.later hwr.out).cell rfl
                have q2 : wr.cell? ⟨w.heap.size, 2, none⟩ = some (.slice x.D x.nd x.cd) := (HB.out.later hwr.out).cell rfl
                have q3 : wr.cell? ⟨w.heap.size, 3, none⟩ = some (.slice x.L x.nl x.cl) := (HB.out.later hwr.out).cell rfl
                by_cases hlt : k < x.nd
                · obtain ⟨b1, o1, hA, g1⟩ := (HD.out.later hwr.out).get hlt
                  have HWK : Hid (wrongAt x.v.id x.v.deps k = wrongN x.v.id (lastN x.v.deps k) (x.v.deps.getD k 0)) := Lib.hid rfl
                  rw [hA] at q2
                  have HA := Lib.hid hA
                  clear hA
                  have hlt' : (k : Int) < (x.nd : Int) := by omega
                  have HG1 := Lib.hid g1
                  clear g1
                  go_upto_region 6 with fail
                  have g1 := HG1.out
                  by_cases a1 : x.v.deps.getD k 0 < 1
                  · have HF := Lib.hid (wrongAt_any.2 ⟨k, by omega, (show wrongAt x.v.id x.v.deps k = true from by rw [HWK.out]; simp only [wrongN]; rw [decide_eq_false (show ¬ (1 <= x.v.deps.getD k 0 /\ x.v.deps.getD k 0 <= 1000000000) by omega)]; simp)⟩)
                    refine rr_one rfl (by kernel_rfl) ⟨_, rfl, rfl, rfl, rfl, by kernel_rfl⟩ ⟨_, rfl, rfl, rfl, rfl, by kernel_rfl⟩ ⟨_, rfl, rfl, rfl, rfl, by kernel_rfl⟩ ⟨_, rfl, rfl, rfl, rfl, by kernel_rfl⟩ ⟨_, rfl, rfl, rfl, rfl, by kernel_rfl⟩ ⟨_, rfl, rfl, rfl, rfl, by kernel_rfl⟩ ⟨_, rfl, rfl, rfl, rfl, by kernel_rfl⟩ ⟨_, rfl, rfl, rfl, rfl, by kernel_rfl, by kernel_rfl⟩ ⟨_, rfl, rfl, rfl, rfl, by kernel_rfl, by kernel_rfl⟩ ⟨_, rfl, rfl, rfl, rfl, by kernel_rfl, by kernel_rfl⟩ ⟨_, rfl, rfl, rfl, rfl, by kernel_rfl, by kernel_rfl⟩ ⟨_, rfl, rfl, rfl, rfl, by kernel_rfl, by kernel_rfl⟩ ⟨_, rfl, rfl, rfl, rfl, by kernel_rfl, by kernel_rfl⟩ ⟨_, rfl, rfl, rfl, rfl, by kernel_rfl⟩ ⟨_, rfl, rfl, rfl, rfl, by kernel_rfl⟩ ⟨_, rfl, rfl, rfl, rfl, by kernel_rfl, by kernel_rfl⟩ ⟨_, rfl, rfl, rfl, rfl, by kernel_rfl, by kernel_rfl⟩ ⟨_, rfl, rfl, rfl, rfl, by kernel_rfl, by kernel_rfl⟩ ⟨_, rfl, rfl, rfl, rfl, by kernel_rfl, by kernel_rfl⟩ ⟨_, rfl, rfl, rfl, rfl, by kernel_rfl, by kernel_rfl⟩ ⟨_, rfl, rfl, rfl, rfl, by kernel_rfl, by kernel_rfl⟩ ⟨_, rfl, rfl, rfl, rfl, by kernel_rfl, by kernel_rfl⟩ ⟨_, rfl, rfl, rfl, rfl, by kernel_rfl, by kernel_rfl⟩ ⟨_, rfl, rfl, rfl, rfl, by kernel_rfl⟩ ⟨_, rfl, rfl, rfl, rfl, by kernel_rfl⟩ ⟨_, rfl, rfl, rfl, rfl, by kernel_rfl, by kernel_rfl⟩ ⟨_, rfl, rfl, rfl, rfl, by kernel_rfl, by kernel_rfl⟩ ⟨_, rfl, rfl, rfl, rfl, by kernel_rfl, by kernel_rfl⟩ ⟨_, rfl, rfl, rfl, rfl, by kernel_rfl, by kernel_rfl⟩ ⟨_, rfl, rfl, rfl, rfl, by kernel_rfl, by kernel_rfl⟩ ⟨_, rfl, rfl, rfl, rfl, by kernel_rfl, by kernel_rfl⟩ ⟨_, rfl, rfl, rfl, rfl, by kernel_rfl, by kernel_rfl⟩ ⟨_, rfl, rfl, rfl, rfl, by kernel_rfl, by kernel_rfl⟩ ⟨_, rfl, rfl, rfl, rfl, by kernel_rfl, by kernel_rfl⟩ ⟨_, rfl, rfl, rfl, rfl, by kernel_rfl, by kernel_rfl⟩ ⟨_, rfl, rfl, rfl, rfl, by kernel_rfl, by kernel_rfl⟩ ⟨_, rfl, rfl, rfl, rfl, by kernel_rfl, by kernel_rfl⟩ ⟨_, rfl, rfl, rfl, rfl, by kernel_rfl, by kernel_rfl⟩ ⟨_, rfl, rfl, rfl, rfl, by kernel_rfl, by kernel_rfl⟩ ⟨_, rfl, rfl, rfl, rfl, by kernel_rfl, by kernel_rfl⟩ ⟨_, rfl, rfl, rfl, rfl, by kernel_rfl, by kernel_rfl⟩ ⟨_, rfl, rfl, rfl, rfl, by kernel_rfl⟩ (of_decide_eq_true rfl) rfl rfl q2 g1 hlt (decide_eq_true a1) (fun a V so hlv er => ?_)
                    have HLV := Lib.hid (HLB.out.trans (hwr.out.trans hlv)); have HLR := Lib.hid (hwr.out.trans hlv)
                    have ha := so.is
                    simp only [List.foldl_cons, List.foldl_nil] at ha
                    generalize a.eval (.tmp 43) = v43 at ha
                    generalize a.eval (.tmp 44) = v44 at ha
                    generalize a.eval (.tmp 45) = v45 at ha
                    generalize a.eval (.tmp 46) = v46 at ha
                    generalize a.eval (.tmp 47) = v47 at ha
                    generalize a.eval (.tmp 48) = v48 at ha
                    generalize a.eval (.tmp 49) = v49 at ha
                    generalize a.eval (.tmp 50) = v50 at ha
                    generalize a.eval (.tmp 51) = v51 at ha
                    generalize a.eval (.tmp 52) = v52 at ha
                    generalize a.eval (.tmp 53) = v53 at ha
                    generalize a.eval (.tmp 54) = v54 at ha
                    generalize a.eval (.tmp 55) = v55 at ha
                    generalize a.eval (.tmp 56) = v56 at ha
                    generalize a.eval (.tmp 57) = v57 at ha
                    generalize a.eval (.tmp 58) = v58 at ha
                    generalize a.eval (.tmp 59) = v59 at ha
                    generalize a.eval (.tmp 60) = v60 at ha
                    generalize a.eval (.tmp 61) = v61 at ha
                    generalize a.eval (.tmp 62) = v62 at ha
                    generalize a.eval (.tmp 63) = v63 at ha
                    generalize a.eval (.tmp 64) = v64 at ha
                    generalize a.eval (.tmp 65) = v65 at ha
                    generalize a.eval (.tmp 66) = v66 at ha
                    generalize a.eval (.tmp 67) = v67 at ha
                    generalize a.eval (.tmp 68) = v68 at ha
                    generalize a.eval (.tmp 69) = v69 at ha
                    generalize a.eval (.tmp 70) = v70 at ha
                    generalize a.eval (.tmp 71) = v71 at ha
                    generalize a.eval (.tmp 72) = v72 at ha
                    generalize a.eval (.tmp 73) = v73 at ha
                    generalize a.eval (.tmp 74) = v74 at ha
                    generalize a.eval (.tmp 75) = v75 at ha
                    generalize a.eval (.tmp 76) = v76 at ha
                    generalize a.eval (.tmp 77) = v77 at ha
                    generalize a.eval (.tmp 78) = v78 at ha
                    generalize a.eval (.tmp 79) = v79 at ha
                    generalize a.eval (.tmp 80) = v80 at ha
                    generalize a.eval (.tmp 81) = v81 at ha
                    generalize a.eval (.tmp 82) = v82 at ha
                    generalize a.eval (.tmp 83) = v83 at ha
                    generalize a.eval (.tmp 84) = v84 at ha er
                    clear so hlv
                    subst ha
                    subst er
                    simp only [Act.put, List.setIfInBounds_toArray, List.set_cons_zero, List.set_cons_succ]
                    clear q0 q2 q3
                    go_wp2
                    go_ret
                    exact ⟨by rw [HRR.out, HF.out]; simp, HLV.out⟩
                  · by_cases a2 : 1000000000 < x.v.deps.getD k 0
                    · have HF := Lib.hid (wrongAt_any.2 ⟨k, by omega, (show wrongAt x.v.id x.v.deps k = true from by rw [HWK.out]; simp only [wrongN]; rw [decide_eq_false (show ¬ (1 <= x.v.deps.getD k 0 /\ x.v.deps.getD k 0 <= 1000000000) by omega)]; simp)⟩)
                      refine rr_two rfl (by kernel_rfl) ⟨_, rfl, rfl, rfl, rfl, by kernel_rfl⟩ ⟨_, rfl, rfl, rfl, rfl, by kernel_rfl⟩ ⟨_, rfl, rfl, rfl, rfl, by kernel_rfl⟩ ⟨_, rfl, rfl, rfl, rfl, by kernel_rfl⟩ ⟨_, rfl, rfl, rfl, rfl, by kernel_rfl⟩ ⟨_, rfl, rfl, rfl, rfl, by kernel_rfl⟩ ⟨_, rfl, rfl, rfl, rfl, by kernel_rfl⟩ ⟨_, rfl, rfl, rfl, rfl, by kernel_rfl, by kernel_rfl⟩ ⟨_, rfl, rfl, rfl, rfl, by kernel_rfl, by kernel_rfl⟩ ⟨_, rfl, rfl, rfl, rfl, by kernel_rfl, by kernel_rfl⟩ ⟨_, rfl, rfl, rfl, rfl, by kernel_rfl, by kernel_rfl⟩ ⟨_, rfl, rfl, rfl, rfl, by kernel_rfl, by kernel_rfl⟩ ⟨_, rfl, rfl, rfl, rfl, by kernel_rfl, by kernel_rfl⟩ ⟨_, rfl, rfl, rfl, rfl, by kernel_rfl⟩ ⟨_, rfl, rfl, rfl, rfl, by kernel_rfl⟩ ⟨_, rfl, rfl, rfl, rfl, by kernel_rfl, by kernel_rfl⟩ ⟨_, rfl, rfl, rfl, rfl, by kernel_rfl, by kernel_rfl⟩ ⟨_, rfl, rfl, rfl, rfl, by kernel_rfl, by kernel_rfl⟩ ⟨_, rfl, rfl, rfl, rfl, by kernel_rfl, by kernel_rfl⟩ ⟨_, rfl, rfl, rfl, rfl, by kernel_rfl, by kernel_rfl⟩ ⟨_, rfl, rfl, rfl, rfl, by kernel_rfl, by kernel_rfl⟩ ⟨_, rfl, rfl, rfl, rfl, by kernel_rfl, by kernel_rfl⟩ ⟨_, rfl, rfl, rfl, rfl, by kernel_rfl, by kernel_rfl⟩ ⟨_, rfl, rfl, rfl, rfl, by kernel_rfl⟩ ⟨_, rfl, rfl, rfl, rfl, by kernel_rfl⟩ ⟨_, rfl, rfl, rfl, rfl, by kernel_rfl, by kernel_rfl⟩ ⟨_, rfl, rfl, rfl, rfl, by kernel_rfl, by kernel_rfl⟩ ⟨_, rfl, rfl, rfl, rfl, by kernel_rfl, by kernel_rfl⟩ ⟨_, rfl, rfl, rfl, rfl, by kernel_rfl, by kernel_rfl⟩ ⟨_, rfl, rfl, rfl, rfl, by kernel_rfl, by kernel_rfl⟩ ⟨_, rfl, rfl, rfl, rfl, by kernel_rfl, by kernel_rfl⟩ ⟨_, rfl, rfl, rfl, rfl, by kernel_rfl, by kernel_rfl⟩ ⟨_, rfl, rfl, rfl, rfl, by kernel_rfl, by kernel_rfl⟩ ⟨_, rfl, rfl, rfl, rfl, by kernel_rfl, by kernel_rfl⟩ ⟨_, rfl, rfl, rfl, rfl, by kernel_rfl, by kernel_rfl⟩ ⟨_, rfl, rfl, rfl, rfl, by kernel_rfl, by kernel_rfl⟩ ⟨_, rfl, rfl, rfl, rfl, by kernel_rfl, by kernel_rfl⟩ ⟨_, rfl, rfl, rfl, rfl, by kernel_rfl, by kernel_rfl⟩ ⟨_, rfl, rfl, rfl, rfl, by kernel_rfl, by kernel_rfl⟩ ⟨_, rfl, rfl, rfl, rfl, by kernel_rfl, by kernel_rfl⟩ ⟨_, rfl, rfl, rfl, rfl, by kernel_rfl, by kernel_rfl⟩ ⟨_, rfl, rfl, rfl, rfl, by kernel_rfl⟩ (of_decide_eq_true rfl) rfl rfl q2 g1 hlt (decide_eq_false a1) (decide_eq_true a2) (fun a V so hlv er => ?_)
                      have HLV := Lib.hid (HLB.out.trans (hwr.out.trans hlv)); have HLR := Lib.hid (hwr.out.trans hlv)
                      have ha := so.is
                      simp only [List.foldl_cons, List.foldl_nil] at ha
                      generalize a.eval (.tmp 43) = v43 at ha
                      generalize a.eval (.tmp 44) = v44 at ha
                      generalize a.eval (.tmp 45) = v45 at ha
                      generalize a.eval (.tmp 46) = v46 at ha
                      generalize a.eval (.tmp 47) = v47 at ha
                      generalize a.eval (.tmp 48) = v48 at ha
                      generalize a.eval (.tmp 49) = v49 at ha
                      generalize a.eval (.tmp 50) = v50 at ha
                      generalize a.eval (.tmp 51) = v51 at ha
                      generalize a.eval (.tmp 52) = v52 at ha
                      generalize a.eval (.tmp 53) = v53 at ha
                      generalize a.eval (.tmp 54) = v54 at ha
                      generalize a.eval (.tmp 55) = v55 at ha
                      generalize a.eval (.tmp 56) = v56 at ha
                      generalize a.eval (.tmp 57) = v57 at ha
                      generalize a.eval (.tmp 58) = v58 at ha
                      generalize a.eval (.tmp 59) = v59 at ha
                      generalize a.eval (.tmp 60) = v60 at ha
                      generalize a.eval (.tmp 61) = v61 at ha
                      generalize a.eval (.tmp 62) = v62 at ha
                      generalize a.eval (.tmp 63) = v63 at ha
                      generalize a.eval (.tmp 64) = v64 at ha
                      generalize a.eval (.tmp 65) = v65 at ha
                      generalize a.eval (.tmp 66) = v66 at ha
                      generalize a.eval (.tmp 67) = v67 at ha
                      generalize a.eval (.tmp 68) = v68 at ha
                      generalize a.eval (.tmp 69) = v69 at ha
                      generalize a.eval (.tmp 70) = v70 at ha
                      generalize a.eval (.tmp 71) = v71 at ha
                      generalize a.eval (.tmp 72) = v72 at ha
                      generalize a.eval (.tmp 73) = v73 at ha
                      generalize a.eval (.tmp 74) = v74 at ha
                      generalize a.eval (.tmp 75) = v75 at ha
                      generalize a.eval (.tmp 76) = v76 at ha
                      generalize a.eval (.tmp 77) = v77 at ha
                      generalize a.eval (.tmp 78) = v78 at ha
                      generalize a.eval (.tmp 79) = v79 at ha
                      generalize a.eval (.tmp 80) = v80 at ha
                      generalize a.eval (.tmp 81) = v81 at ha
                      generalize a.eval (.tmp 82) = v82 at ha
                      generalize a.eval (.tmp 83) = v83 at ha
                      generalize a.eval (.tmp 84) = v84 at ha er
                      clear so hlv
                      subst ha
                      subst er
                      simp only [Act.put, List.setIfInBounds_toArray, List.set_cons_zero, List.set_cons_succ]
                      clear q0 q2 q3
                      go_wp2
                      go_ret
                      exact ⟨by rw [HRR.out, HF.out]; simp, HLV.out⟩
                    · have hok : 1 <= x.v.deps.getD k 0 /\ x.v.deps.getD k 0 <= 1000000000 := by omega
                      by_cases a3 : x.v.deps.getD k 0 = x.v.id
                      · have HF := Lib.hid (wrongAt_any.2 ⟨k, by omega, (show wrongAt x.v.id x.v.deps k = true from by rw [HWK.out]; simp only [wrongN]; rw [decide_eq_true a3]; simp)⟩)
                        refine rr_three rfl (by kernel_rfl) ⟨_, rfl, rfl, rfl, rfl, by kernel_rfl⟩ ⟨_, rfl, rfl, rfl, rfl, by kernel_rfl⟩ ⟨_, rfl, rfl, rfl, rfl, by kernel_rfl⟩ ⟨_, rfl, rfl, rfl, rfl, by kernel_rfl⟩ ⟨_, rfl, rfl, rfl, rfl, by kernel_rfl⟩ ⟨_, rfl, rfl, rfl, rfl, by kernel_rfl⟩ ⟨_, rfl, rfl, rfl, rfl, by kernel_rfl⟩ ⟨_, rfl, rfl, rfl, rfl, by kernel_rfl, by kernel_rfl⟩ ⟨_, rfl, rfl, rfl, rfl, by kernel_rfl, by kernel_rfl⟩ ⟨_, rfl, rfl, rfl, rfl, by kernel_rfl, by kernel_rfl⟩ ⟨_, rfl, rfl, rfl, rfl, by kernel_rfl, by kernel_rfl⟩ ⟨_, rfl, rfl, rfl, rfl, by kernel_rfl, by kernel_rfl⟩ ⟨_, rfl, rfl, rfl, rfl, by kernel_rfl, by kernel_rfl⟩ ⟨_, rfl, rfl, rfl, rfl, by kernel_rfl⟩ ⟨_, rfl, rfl, rfl, rfl, by kernel_rfl⟩ ⟨_, rfl, rfl, rfl, rfl, by kernel_rfl, by kernel_rfl⟩ ⟨_, rfl, rfl, rfl, rfl, by kernel_rfl, by kernel_rfl⟩ ⟨_, rfl, rfl, rfl, rfl, by kernel_rfl, by kernel_rfl⟩ ⟨_, rfl, rfl, rfl, rfl, by kernel_rfl, by kernel_rfl⟩ ⟨_, rfl, rfl, rfl, rfl, by kernel_rfl, by kernel_rfl⟩ ⟨_, rfl, rfl, rfl, rfl, by kernel_rfl, by kernel_rfl⟩ ⟨_, rfl, rfl, rfl, rfl, by kernel_rfl, by kernel_rfl⟩ ⟨_, rfl, rfl, rfl, rfl, by kernel_rfl, by kernel_rfl⟩ ⟨_, rfl, rfl, rfl, rfl, by kernel_rfl⟩ ⟨_, rfl, rfl, rfl, rfl, by kernel_rfl⟩ ⟨_, rfl, rfl, rfl, rfl, by kernel_rfl, by kernel_rfl⟩ ⟨_, rfl, rfl, rfl, rfl, by kernel_rfl, by kernel_rfl⟩ ⟨_, rfl, rfl, rfl, rfl, by kernel_rfl, by kernel_rfl⟩ ⟨_, rfl, rfl, rfl, rfl, by kernel_rfl, by kernel_rfl⟩ ⟨_, rfl, rfl, rfl, rfl, by kernel_rfl, by kernel_rfl⟩ ⟨_, rfl, rfl, rfl, rfl, by kernel_rfl, by kernel_rfl⟩ ⟨_, rfl, rfl, rfl, rfl, by kernel_rfl, by kernel_rfl⟩ ⟨_, rfl, rfl, rfl, rfl, by kernel_rfl, by kernel_rfl⟩ ⟨_, rfl, rfl, rfl, rfl, by kernel_rfl, by kernel_rfl⟩ ⟨_, rfl, rfl, rfl, rfl, by kernel_rfl, by kernel_rfl⟩ ⟨_, rfl, rfl, rfl, rfl, by kernel_rfl, by kernel_rfl⟩ ⟨_, rfl, rfl, rfl, rfl, by kernel_rfl, by kernel_rfl⟩ ⟨_, rfl, rfl, rfl, rfl, by kernel_rfl, by kernel_rfl⟩ ⟨_, rfl, rfl, rfl, rfl, by kernel_rfl, by kernel_rfl⟩ ⟨_, rfl, rfl, rfl, rfl, by kernel_rfl, by kernel_rfl⟩ ⟨_, rfl, rfl, rfl, rfl, by kernel_rfl, by kernel_rfl⟩ ⟨_, rfl, rfl, rfl, rfl, by kernel_rfl⟩ (of_decide_eq_true rfl) rfl rfl q2 q0 g1 hlt (decide_eq_false a1) (decide_eq_false a2) (decide_eq_true a3) (fun a V so hlv er => ?_)
                        have HLV := Lib.hid (HLB.out.trans (hwr.out.trans hlv)); have HLR := Lib.hid (hwr.out.trans hlv)
                        have ha := so.is
                        simp only [List.foldl_cons, List.foldl_nil] at ha
                        generalize a.eval (.tmp 43) = v43 at ha
                        generalize a.eval (.tmp 44) = v44 at ha
                        generalize a.eval (.tmp 45) = v45 at ha
                        generalize a.eval (.tmp 46) = v46 at ha
                        generalize a.eval (.tmp 47) = v47 at ha
                        generalize a.eval (.tmp 48) = v48 at ha
                        generalize a.eval (.tmp 49) = v49 at ha
                        generalize a.eval (.tmp 50) = v50 at ha
                        generalize a.eval (.tmp 51) = v51 at ha
                        generalize a.eval (.tmp 52) = v52 at ha
                        generalize a.eval (.tmp 53) = v53 at ha
                        generalize a.eval (.tmp 54) = v54 at ha
                        generalize a.eval (.tmp 55) = v55 at ha
                        generalize a.eval (.tmp 56) = v56 at ha
                        generalize a.eval (.tmp 57) = v57 at ha
                        generalize a.eval (.tmp 58) = v58 at ha
                        generalize a.eval (.tmp 59) = v59 at ha
                        generalize a.eval (.tmp 60) = v60 at ha
                        generalize a.eval (.tmp 61) = v61 at ha
                        generalize a.eval (.tmp 62) = v62 at ha
                        generalize a.eval (.tmp 63) = v63 at ha
                        generalize a.eval (.tmp 64) = v64 at ha
                        generalize a.eval (.tmp 65) = v65 at ha
                        generalize a.eval (.tmp 66) = v66 at ha
                        generalize a.eval (.tmp 67) = v67 at ha
                        generalize a.eval (.tmp 68) = v68 at ha
                        generalize a.eval (.tmp 69) = v69 at ha
                        generalize a.eval (.tmp 70) = v70 at ha
                        generalize a.eval (.tmp 71) = v71 at ha
                        generalize a.eval (.tmp 72) = v72 at ha
                        generalize a.eval (.tmp 73) = v73 at ha
                        generalize a.eval (.tmp 74) = v74 at ha
                        generalize a.eval (.tmp 75) = v75 at ha
                        generalize a.eval (.tmp 76) = v76 at ha
                        generalize a.eval (.tmp 77) = v77 at ha
                        generalize a.eval (.tmp 78) = v78 at ha
                        generalize a.eval (.tmp 79) = v79 at ha
                        generalize a.eval (.tmp 80) = v80 at ha
                        generalize a.eval (.tmp 81) = v81 at ha
                        generalize a.eval (.tmp 82) = v82 at ha
                        generalize a.eval (.tmp 83) = v83 at ha
                        generalize a.eval (.tmp 84) = v84 at ha er
                        clear so hlv
                        subst ha
                        subst er
                        simp only [Act.put, List.setIfInBounds_toArray, List.set_cons_zero, List.set_cons_succ]
                        clear q0 q2 q3
                        go_wp2
                        go_ret
                        exact ⟨by rw [HRR.out, HF.out]; simp, HLV.out⟩
                      · by_cases h0 : k = 0
                        · subst h0
                          have HN : Hid (∀ j : Nat, j < 0 + 1 -> wrongAt x.v.id x.v.deps j = false) := fun j hj => by
                            obtain rfl : j = 0 := by omega
                            rw [HWK.out]
                            simp only [wrongN, lastN, if_true]
                            rw [decide_eq_true hok, decide_eq_false a3, decide_eq_false (show ¬ x.v.deps.getD 0 0 <= 0 by omega)]
                            rfl
                          refine rr_four rfl (by kernel_rfl) ⟨_, rfl, rfl, rfl, rfl, by kernel_rfl⟩ ⟨_, rfl, rfl, rfl, rfl, by kernel_rfl⟩ ⟨_, rfl, rfl, rfl, rfl, by kernel_rfl⟩ ⟨_, rfl, rfl, rfl, rfl, by kernel_rfl⟩ ⟨_, rfl, rfl, rfl, rfl, by kernel_rfl⟩ ⟨_, rfl, rfl, rfl, rfl, by kernel_rfl⟩ ⟨_, rfl, rfl, rfl, rfl, by kernel_rfl⟩ ⟨_, rfl, rfl, rfl, rfl, by kernel_rfl, by kernel_rfl⟩ ⟨_, rfl, rfl, rfl, rfl, by kernel_rfl, by kernel_rfl⟩ ⟨_, rfl, rfl, rfl, rfl, by kernel_rfl, by kernel_rfl⟩ ⟨_, rfl, rfl, rfl, rfl, by kernel_rfl, by kernel_rfl⟩ ⟨_, rfl, rfl, rfl, rfl, by kernel_rfl, by kernel_rfl⟩ ⟨_, rfl, rfl, rfl, rfl, by kernel_rfl, by kernel_rfl⟩ ⟨_, rfl, rfl, rfl, rfl, by kernel_rfl⟩ ⟨_, rfl, rfl, rfl, rfl, by kernel_rfl⟩ ⟨_, rfl, rfl, rfl, rfl, by kernel_rfl, by kernel_rfl⟩ ⟨_, rfl, rfl, rfl, rfl, by kernel_rfl, by kernel_rfl⟩ ⟨_, rfl, rfl, rfl, rfl, by kernel_rfl, by kernel_rfl⟩ ⟨_, rfl, rfl, rfl, rfl, by kernel_rfl, by kernel_rfl⟩ ⟨_, rfl, rfl, rfl, rfl, by kernel_rfl, by kernel_rfl⟩ ⟨_, rfl, rfl, rfl, rfl, by kernel_rfl, by kernel_rfl⟩ ⟨_, rfl, rfl, rfl, rfl, by kernel_rfl, by kernel_rfl⟩ ⟨_, rfl, rfl, rfl, rfl, by kernel_rfl, by kernel_rfl⟩ ⟨_, rfl, rfl, rfl, rfl, by kernel_rfl⟩ ⟨_, rfl, rfl, rfl, rfl, by kernel_rfl⟩ ⟨_, rfl, rfl, rfl, rfl, by kernel_rfl, by kernel_rfl⟩ ⟨_, rfl, rfl, rfl, rfl, by kernel_rfl, by kernel_rfl⟩ ⟨_, rfl, rfl, rfl, rfl, by kernel_rfl, by kernel_rfl⟩ ⟨_, rfl, rfl, rfl, rfl, by kernel_rfl, by kernel_rfl⟩ ⟨_, rfl, rfl, rfl, rfl, by kernel_rfl, by kernel_rfl⟩ ⟨_, rfl, rfl, rfl, rfl, by kernel_rfl, by kernel_rfl⟩ ⟨_, rfl, rfl, rfl, rfl, by kernel_rfl, by kernel_rfl⟩ ⟨_, rfl, rfl, rfl, rfl, by kernel_rfl, by kernel_rfl⟩ ⟨_, rfl, rfl, rfl, rfl, by kernel_rfl, by kernel_rfl⟩ ⟨_, rfl, rfl, rfl, rfl, by kernel_rfl, by kernel_rfl⟩ ⟨_, rfl, rfl, rfl, rfl, by kernel_rfl, by kernel_rfl⟩ ⟨_, rfl, rfl, rfl, rfl, by kernel_rfl, by kernel_rfl⟩ ⟨_, rfl, rfl, rfl, rfl, by kernel_rfl, by kernel_rfl⟩ ⟨_, rfl, rfl, rfl, rfl, by kernel_rfl, by kernel_rfl⟩ ⟨_, rfl, rfl, rfl, rfl, by kernel_rfl, by kernel_rfl⟩ ⟨_, rfl, rfl, rfl, rfl, by kernel_rfl, by kernel_rfl⟩ ⟨_, rfl, rfl, rfl, rfl, by kernel_rfl⟩ (of_decide_eq_true rfl) rfl rfl q2 q0 g1 hlt (decide_eq_false a1) (decide_eq_false a2) (decide_eq_false a3) (fun a V so hlv er => ?_)
                          have HLV := Lib.hid (HLB.out.trans (hwr.out.trans hlv)); have HLR := Lib.hid (hwr.out.trans hlv)
                          have ha := so.is
                          simp only [List.foldl_cons, List.foldl_nil] at ha
                          generalize a.eval (.tmp 43) = v43 at ha
                          generalize a.eval (.tmp 44) = v44 at ha
                          generalize a.eval (.tmp 45) = v45 at ha
                          generalize a.eval (.tmp 46) = v46 at ha
                          generalize a.eval (.tmp 47) = v47 at ha
                          generalize a.eval (.tmp 48) = v48 at ha
                          generalize a.eval (.tmp 49) = v49 at ha
                          generalize a.eval (.tmp 50) = v50 at ha
                          generalize a.eval (.tmp 51) = v51 at ha
                          generalize a.eval (.tmp 52) = v52 at ha
                          generalize a.eval (.tmp 53) = v53 at ha
                          generalize a.eval (.tmp 54) = v54 at ha
                          generalize a.eval (.tmp 55) = v55 at ha
                          generalize a.eval (.tmp 56) = v56 at ha
                          generalize a.eval (.tmp 57) = v57 at ha
                          generalize a.eval (.tmp 58) = v58 at ha
                          generalize a.eval (.tmp 59) = v59 at ha
                          generalize a.eval (.tmp 60) = v60 at ha
                          generalize a.eval (.tmp 61) = v61 at ha
                          generalize a.eval (.tmp 62) = v62 at ha
                          generalize a.eval (.tmp 63) = v63 at ha
                          generalize a.eval (.tmp 64) = v64 at ha
                          generalize a.eval (.tmp 65) = v65 at ha
                          generalize a.eval (.tmp 66) = v66 at ha
                          generalize a.eval (.tmp 67) = v67 at ha
                          generalize a.eval (.tmp 68) = v68 at ha
                          generalize a.eval (.tmp 69) = v69 at ha
                          generalize a.eval (.tmp 70) = v70 at ha
                          generalize a.eval (.tmp 71) = v71 at ha
                          generalize a.eval (.tmp 72) = v72 at ha
                          generalize a.eval (.tmp 73) = v73 at ha
                          generalize a.eval (.tmp 74) = v74 at ha
                          generalize a.eval (.tmp 75) = v75 at ha
                          generalize a.eval (.tmp 76) = v76 at ha
                          generalize a.eval (.tmp 77) = v77 at ha
                          generalize a.eval (.tmp 78) = v78 at ha
                          generalize a.eval (.tmp 79) = v79 at ha
                          generalize a.eval (.tmp 80) = v80 at ha
                          generalize a.eval (.tmp 81) = v81 at ha
                          generalize a.eval (.tmp 82) = v82 at ha
                          generalize a.eval (.tmp 83) = v83 at ha
                          generalize a.eval (.tmp 84) = v84 at ha er
                          clear so hlv
                          subst ha
                          subst er
                          simp only [Act.put, List.setIfInBounds_toArray, List.set_cons_zero, List.set_cons_succ]
                          clear q0 q2 q3
                          go_wp2
                          go_roundg (x.nd - (0 + 1))
                          case measure => omega
                          case rel => exact ⟨0 + 1, by omega, Nat.le_refl _, by go_num, HLR, HN⟩
                        · obtain ⟨j, rfl⟩ : ∃ j, k = j + 1 := ⟨k - 1, by omega⟩
                          obtain ⟨b2, o2, hA2, g2⟩ := (HD.out.later hwr.out).get (show j < x.nd by omega)
                          rw [HA.out] at hA2
                          cases hA2
                          rw [lastN_succ] at HWK
                          by_cases a5 : x.v.deps.getD (j + 1) 0 <= x.v.deps.getD j 0
                          · have HF := Lib.hid (wrongAt_any.2 ⟨j + 1, by omega, (show wrongAt x.v.id x.v.deps (j + 1) = true from by rw [HWK.out]; simp only [wrongN]; rw [decide_eq_true a5]; simp)⟩)
                            refine rr_five rfl (by kernel_rfl) ⟨_, rfl, rfl, rfl, rfl, by kernel_rfl⟩ ⟨_, rfl, rfl, rfl, rfl, by kernel_rfl⟩ ⟨_, rfl, rfl, rfl, rfl, by kernel_rfl⟩ ⟨_, rfl, rfl, rfl, rfl, by kernel_rfl⟩ ⟨_, rfl, rfl, rfl, rfl, by kernel_rfl⟩ ⟨_, rfl, rfl, rfl, rfl, by kernel_rfl⟩ ⟨_, rfl, rfl, rfl, rfl, by kernel_rfl⟩ ⟨_, rfl, rfl, rfl, rfl, by kernel_rfl, by kernel_rfl⟩ ⟨_, rfl, rfl, rfl, rfl, by kernel_rfl, by kernel_rfl⟩ ⟨_, rfl, rfl, rfl, rfl, by kernel_rfl, by kernel_rfl⟩ ⟨_, rfl, rfl, rfl, rfl, by kernel_rfl, by kernel_rfl⟩ ⟨_, rfl, rfl, rfl, rfl, by kernel_rfl, by kernel_rfl⟩ ⟨_, rfl, rfl, rfl, rfl, by kernel_rfl, by kernel_rfl⟩ ⟨_, rfl, rfl, rfl, rfl, by kernel_rfl⟩ ⟨_, rfl, rfl, rfl, rfl, by kernel_rfl⟩ ⟨_, rfl, rfl, rfl, rfl, by kernel_rfl, by kernel_rfl⟩ ⟨_, rfl, rfl, rfl, rfl, by kernel_rfl, by kernel_rfl⟩ ⟨_, rfl, rfl, rfl, rfl, by kernel_rfl, by kernel_rfl⟩ ⟨_, rfl, rfl, rfl, rfl, by kernel_rfl, by kernel_rfl⟩ ⟨_, rfl, rfl, rfl, rfl, by kernel_rfl, by kernel_rfl⟩ ⟨_, rfl, rfl, rfl, rfl, by kernel_rfl, by kernel_rfl⟩ ⟨_, rfl, rfl, rfl, rfl, by kernel_rfl, by kernel_rfl⟩ ⟨_, rfl, rfl, rfl, rfl, by kernel_rfl, by kernel_rfl⟩ ⟨_, rfl, rfl, rfl, rfl, by kernel_rfl⟩ ⟨_, rfl, rfl, rfl, rfl, by kernel_rfl⟩ ⟨_, rfl, rfl, rfl, rfl, by kernel_rfl, by kernel_rfl⟩ ⟨_, rfl, rfl, rfl, rfl, by kernel_rfl, by kernel_rfl⟩ ⟨_, rfl, rfl, rfl, rfl, by kernel_rfl, by kernel_rfl⟩ ⟨_, rfl, rfl, rfl, rfl, by kernel_rfl, by kernel_rfl⟩ ⟨_, rfl, rfl, rfl, rfl, by kernel_rfl, by kernel_rfl⟩ ⟨_, rfl, rfl, rfl, rfl, by kernel_rfl, by kernel_rfl⟩ ⟨_, rfl, rfl, rfl, rfl, by kernel_rfl, by kernel_rfl⟩ ⟨_, rfl, rfl, rfl, rfl, by kernel_rfl, by kernel_rfl⟩ ⟨_, rfl, rfl, rfl, rfl, by kernel_rfl, by kernel_rfl⟩ ⟨_, rfl, rfl, rfl, rfl, by kernel_rfl, by kernel_rfl⟩ ⟨_, rfl, rfl, rfl, rfl, by kernel_rfl, by kernel_rfl⟩ ⟨_, rfl, rfl, rfl, rfl, by kernel_rfl, by kernel_rfl⟩ ⟨_, rfl, rfl, rfl, rfl, by kernel_rfl, by kernel_rfl⟩ ⟨_, rfl, rfl, rfl, rfl, by kernel_rfl, by kernel_rfl⟩ ⟨_, rfl, rfl, rfl, rfl, by kernel_rfl, by kernel_rfl⟩ ⟨_, rfl, rfl, rfl, rfl, by kernel_rfl, by kernel_rfl⟩ ⟨_, rfl, rfl, rfl, rfl, by kernel_rfl⟩ (of_decide_eq_true rfl) rfl rfl q2 q0 g1 g2 hlt (by omega) (decide_eq_false a1) (decide_eq_false a2) (decide_eq_false a3) (decide_eq_true a5) (fun a V so hlv er => ?_)
                            have HLV := Lib.hid (HLB.out.trans (hwr.out.trans hlv)); have HLR := Lib.hid (hwr.out.trans hlv)
                            have ha := so.is
                            simp only [List.foldl_cons, List.foldl_nil] at ha
                            generalize a.eval (.tmp 43) = v43 at ha
                            generalize a.eval (.tmp 44) = v44 at ha
                            generalize a.eval (.tmp 45) = v45 at ha
                            generalize a.eval (.tmp 46) = v46 at ha
                            generalize a.eval (.tmp 47) = v47 at ha
                            generalize a.eval (.tmp 48) = v48 at ha
                            generalize a.eval (.tmp 49) = v49 at ha
                            generalize a.eval (.tmp 50) = v50 at ha
                            generalize a.eval (.tmp 51) = v51 at ha
                            generalize a.eval (.tmp 52) = v52 at ha
                            generalize a.eval (.tmp 53) = v53 at ha
                            generalize a.eval (.tmp 54) = v54 at ha
                            generalize a.eval (.tmp 55) = v55 at ha
                            generalize a.eval (.tmp 56) = v56 at ha
                            generalize a.eval (.tmp 57) = v57 at ha
                            generalize a.eval (.tmp 58) = v58 at ha
                            generalize a.eval (.tmp 59) = v59 at ha
                            generalize a.eval (.tmp 60) = v60 at ha
                            generalize a.eval (.tmp 61) = v61 at ha
                            generalize a.eval (.tmp 62) = v62 at ha
                            generalize a.eval (.tmp 63) = v63 at ha
                            generalize a.eval (.tmp 64) = v64 at ha
                            generalize a.eval (.tmp 65) = v65 at ha
                            generalize a.eval (.tmp 66) = v66 at ha
                            generalize a.eval (.tmp 67) = v67 at ha
                            generalize a.eval (.tmp 68) = v68 at ha
                            generalize a.eval (.tmp 69) = v69 at ha
                            generalize a.eval (.tmp 70) = v70 at ha
                            generalize a.eval (.tmp 71) = v71 at ha
                            generalize a.eval (.tmp 72) = v72 at ha
                            generalize a.eval (.tmp 73) = v73 at ha
                            generalize a.eval (.tmp 74) = v74 at ha
                            generalize a.eval (.tmp 75) = v75 at ha
                            generalize a.eval (.tmp 76) = v76 at ha
                            generalize a.eval (.tmp 77) = v77 at ha
                            generalize a.eval (.tmp 78) = v78 at ha
                            generalize a.eval (.tmp 79) = v79 at ha
                            generalize a.eval (.tmp 80) = v80 at ha
                            generalize a.eval (.tmp 81) = v81 at ha
                            generalize a.eval (.tmp 82) = v82 at ha
                            generalize a.eval (.tmp 83) = v83 at ha
                            generalize a.eval (.tmp 84) = v84 at ha er
                            clear so hlv
                            subst ha
                            subst er
                            simp only [Act.put, List.setIfInBounds_toArray, List.set_cons_zero, List.set_cons_succ]
                            clear q0 q2 q3
                            go_wp2
                            go_ret
                            exact ⟨by rw [HRR.out, HF.out]; simp, HLV.out⟩
                          · have HN : Hid (∀ i : Nat, i < j + 1 + 1 -> wrongAt x.v.id x.v.deps i = false) := fun i hi => by
                              by_cases e : i = j + 1
                              · subst e
                                rw [HWK.out]
                                simp only [wrongN]
                                rw [decide_eq_true hok, decide_eq_false a3, decide_eq_false a5]
                                rfl
                              · exact hall.out i (by omega)
                            refine rr_six rfl (by kernel_rfl) ⟨_, rfl, rfl, rfl, rfl, by kernel_rfl⟩ ⟨_, rfl, rfl, rfl, rfl, by kernel_rfl⟩ ⟨_, rfl, rfl, rfl, rfl, by kernel_rfl⟩ ⟨_, rfl, rfl, rfl, rfl, by kernel_rfl⟩ ⟨_, rfl, rfl, rfl, rfl, by kernel_rfl⟩ ⟨_, rfl, rfl, rfl, rfl, by kernel_rfl⟩ ⟨_, rfl, rfl, rfl, rfl, by kernel_rfl⟩ ⟨_, rfl, rfl, rfl, rfl, by kernel_rfl, by kernel_rfl⟩ ⟨_, rfl, rfl, rfl, rfl, by kernel_rfl, by kernel_rfl⟩ ⟨_, rfl, rfl, rfl, rfl, by kernel_rfl, by kernel_rfl⟩ ⟨_, rfl, rfl, rfl, rfl, by kernel_rfl, by kernel_rfl⟩ ⟨_, rfl, rfl, rfl, rfl, by kernel_rfl, by kernel_rfl⟩ ⟨_, rfl, rfl, rfl, rfl, by kernel_rfl, by kernel_rfl⟩ ⟨_, rfl, rfl, rfl, rfl, by kernel_rfl⟩ ⟨_, rfl, rfl, rfl, rfl, by kernel_rfl⟩ ⟨_, rfl, rfl, rfl, rfl, by kernel_rfl, by kernel_rfl⟩ ⟨_, rfl, rfl, rfl, rfl, by kernel_rfl, by kernel_rfl⟩ ⟨_, rfl, rfl, rfl, rfl, by kernel_rfl, by kernel_rfl⟩ ⟨_, rfl, rfl, rfl, rfl, by kernel_rfl, by kernel_rfl⟩ ⟨_, rfl, rfl, rfl, rfl, by kernel_rfl, by kernel_rfl⟩ ⟨_, rfl, rfl, rfl, rfl, by kernel_rfl, by kernel_rfl⟩ ⟨_, rfl, rfl, rfl, rfl, by kernel_rfl, by kernel_rfl⟩ ⟨_, rfl, rfl, rfl, rfl, by kernel_rfl, by kernel_rfl⟩ ⟨_, rfl, rfl, rfl, rfl, by kernel_rfl⟩ ⟨_, rfl, rfl, rfl, rfl, by kernel_rfl⟩ ⟨_, rfl, rfl, rfl, rfl, by kernel_rfl, by kernel_rfl⟩ ⟨_, rfl, rfl, rfl, rfl, by kernel_rfl, by kernel_rfl⟩ ⟨_, rfl, rfl, rfl, rfl, by kernel_rfl, by kernel_rfl⟩ ⟨_, rfl, rfl, rfl, rfl, by kernel_rfl, by kernel_rfl⟩ ⟨_, rfl, rfl, rfl, rfl, by kernel_rfl, by kernel_rfl⟩ ⟨_, rfl, rfl, rfl, rfl, by kernel_rfl, by kernel_rfl⟩ ⟨_, rfl, rfl, rfl, rfl, by kernel_rfl, by kernel_rfl⟩ ⟨_, rfl, rfl, rfl, rfl, by kernel_rfl, by kernel_rfl⟩ ⟨_, rfl, rfl, rfl, rfl, by kernel_rfl, by kernel_rfl⟩ ⟨_, rfl, rfl, rfl, rfl, by kernel_rfl, by kernel_rfl⟩ ⟨_, rfl, rfl, rfl, rfl, by kernel_rfl, by kernel_rfl⟩ ⟨_, rfl, rfl, rfl, rfl, by kernel_rfl, by kernel_rfl⟩ ⟨_, rfl, rfl, rfl, rfl, by kernel_rfl, by kernel_rfl⟩ ⟨_, rfl, rfl, rfl, rfl, by kernel_rfl, by kernel_rfl⟩ ⟨_, rfl, rfl, rfl, rfl, by kernel_rfl, by kernel_rfl⟩ ⟨_, rfl, rfl, rfl, rfl, by kernel_rfl, by kernel_rfl⟩ ⟨_, rfl, rfl, rfl, rfl, by kernel_rfl⟩ (of_decide_eq_true rfl) rfl rfl q2 q0 g1 g2 hlt (by omega) (decide_eq_false a1) (decide_eq_false a2) (decide_eq_false a3) (decide_eq_false a5) (fun a V so hlv er => ?_)
                            have HLV := Lib.hid (HLB.out.trans (hwr.out.trans hlv)); have HLR := Lib.hid (hwr.out.trans hlv)
                            have ha := so.is
                            simp only [List.foldl_cons, List.foldl_nil] at ha
                            generalize a.eval (.tmp 43) = v43 at ha
                            generalize a.eval (.tmp 44) = v44 at ha
                            generalize a.eval (.tmp 45) = v45 at ha
                            generalize a.eval (.tmp 46) = v46 at ha
                            generalize a.eval (.tmp 47) = v47 at ha
                            generalize a.eval (.tmp 48) = v48 at ha
                            generalize a.eval (.tmp 49) = v49 at ha
                            generalize a.eval (.tmp 50) = v50 at ha
                            generalize a.eval (.tmp 51) = v51 at ha
                            generalize a.eval (.tmp 52) = v52 at ha
                            generalize a.eval (.tmp 53) = v53 at ha
                            generalize a.eval (.tmp 54) = v54 at ha
                            generalize a.eval (.tmp 55) = v55 at ha
                            generalize a.eval (.tmp 56) = v56 at ha
                            generalize a.eval (.tmp 57) = v57 at ha
                            generalize a.eval (.tmp 58) = v58 at ha
                            generalize a.eval (.tmp 59) = v59 at ha
                            generalize a.eval (.tmp 60) = v60 at ha
                            generalize a.eval (.tmp 61) = v61 at ha
                            generalize a.eval (.tmp 62) = v62 at ha
                            generalize a.eval (.tmp 63) = v63 at ha
                            generalize a.eval (.tmp 64) = v64 at ha
                            generalize a.eval (.tmp 65) = v65 at ha
                            generalize a.eval (.tmp 66) = v66 at ha
                            generalize a.eval (.tmp 67) = v67 at ha
                            generalize a.eval (.tmp 68) = v68 at ha
                            generalize a.eval (.tmp 69) = v69 at ha
                            generalize a.eval (.tmp 70) = v70 at ha
                            generalize a.eval (.tmp 71) = v71 at ha
                            generalize a.eval (.tmp 72) = v72 at ha
                            generalize a.eval (.tmp 73) = v73 at ha
                            generalize a.eval (.tmp 74) = v74 at ha
                            generalize a.eval (.tmp 75) = v75 at ha
                            generalize a.eval (.tmp 76) = v76 at ha
                            generalize a.eval (.tmp 77) = v77 at ha
                            generalize a.eval (.tmp 78) = v78 at ha
                            generalize a.eval (.tmp 79) = v79 at ha
                            generalize a.eval (.tmp 80) = v80 at ha
                            generalize a.eval (.tmp 81) = v81 at ha
                            generalize a.eval (.tmp 82) = v82 at ha
                            generalize a.eval (.tmp 83) = v83 at ha
                            generalize a.eval (.tmp 84) = v84 at ha er
                            clear so hlv
                            subst ha
                            subst er
                            simp only [Act.put, List.setIfInBounds_toArray, List.set_cons_zero, List.set_cons_succ]
                            clear q0 q2 q3
                            go_wp2
                            go_roundg (x.nd - (j + 1 + 1))
                            case measure => omega
                            case rel => exact ⟨j + 1 + 1, by omega, Nat.le_refl _, by go_num, HLR, HN⟩
                · have HF : Hid (anyWrong x.v.id 0 x.v.deps = false) := by
                    cases hw : anyWrong x.v.id 0 x.v.deps with
                    | false => rfl
                    | true =>
                      obtain ⟨j, hj, e⟩ := wrongAt_any.1 hw
                      rw [hall.out j (by omega)] at e
                      cases e
                  have HS3 := Lib.hid (HS.out wr (HLB.out.trans hwr.out))
                  generalize hsb : x.v.l.all rightP = b at HS3
                  rw [HF.out, hsb, Bool.not_false, Bool.true_and] at HRR
                  clear HS hall hsb
                  go_wp2_with fail
                  refine HS3.out.mono ?_
                  rintro e w4 ⟨rfl, hl4⟩
                  have HL4 := Lib.hid ((HLB.out.trans hwr.out).trans hl4)
                  clear hl4 HS3
                  go_wp2
                  go_ret
                  exact ⟨by rw [HRR.out]; rfl, HL4.out⟩

end Go.Proofs.YtlnjhimbgckdcaaGreat
