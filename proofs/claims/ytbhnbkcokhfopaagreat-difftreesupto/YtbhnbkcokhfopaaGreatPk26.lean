import Derived.Test.YtbhnbkcokhfopaaGreatPk24
import Derived.Test.YtbhnbkcokhfopaaGreatPk25
import Derived.Deep.LoopGhost
import Derived.Deep.QuietTactic
import Derived.BigQuiet
import Derived.Lib.Hide
import Derived.Test.YtbhnbkcokhfopaaGreatPk12
import Derived.Test.YtbhnbkcokhfopaaGreatPk19
import Derived.Test.YtbhnbkcokhfopaaGreatPk13
import Derived.Test.YtbhnbkcokhfopaaGreatPk9
import Derived.Deep.MidRow
import Derived.RangeFuncNested
import Derived.TacticsIn
import Derived.OrdersIn

/-
  The document's own Trees: what it comes to.
-/
namespace Go.Proofs.YtbhnbkcokhfopaaGreat
open Go.RowKit Go.Maps

section
variable {w : World} {A B : Option Addr} {n m : Nat} {z : Fl Held} {a : Tr} {fn : ByteArray}
theorem ref_at {k : Nat} (h : RefRow w A n z) (e : mapT (·.2) z = a) (hk : k < n) : ∃ b o fn A1 n1 c1 fl, A = some ⟨b, o, none⟩ ∧ a[k]? = some (fn, fl) ∧ w.cell? ⟨b, o + k * 2 + 0, none⟩ = some (.string fn) ∧ w.cell? ⟨b, o + k * 2 + 1, none⟩ = some (.slice A1 n1 c1) ∧ n1 ≤ c1 ∧ Row w A1 n1 fl := by
  obtain ⟨b, o, f, h1, h2, h3, h4⟩ := h.get hk
  obtain ⟨A1, n1, c1, h5, h6, h7⟩ := h.reads f (List.mem_of_getElem? h2)
  refine ⟨b, o, f.1, A1, n1, c1, f.2.2, h1, ?_, h3, by rw [← h5]; exact h4, h6, h7⟩
  rw [← e]
  simp [mapT, h2]
theorem ref_got {l : List ByteArray} (h : RefRow w A n z) (e : mapT (·.2) z = a) (hg : getT a fn = some l) : ∃ A1 n1 c1, got (getT z fn) = .slice A1 n1 c1 ∧ hasT z fn = true ∧ n1 ≤ c1 ∧ Row w A1 n1 l := by
  rw [← e, getT_map] at hg
  cases hz : getT z fn with
  | none => rw [hz] at hg; cases hg
  | some x =>
    rw [hz] at hg
    cases hg
    obtain ⟨A1, n1, c1, h5, h6, h7⟩ := h.reads (fn, x) (getT_mem hz)
    exact ⟨A1, n1, c1, h5, by unfold hasT; rw [hz]; rfl, h6, h7⟩
theorem ref_not (e : mapT (·.2) z = a) (hg : getT a fn = none) : got (getT z fn) = .slice none 0 0 ∧ hasT z fn = false := by
  rw [← e, getT_map] at hg
  cases hz : getT z fn with
  | none => exact ⟨rfl, by unfold hasT; rw [hz]; rfl⟩
  | some x => rw [hz] at hg; cases hg
end

set_option maxRecDepth 100000 in
set_option maxHeartbeats 6400000 in
theorem refTrees_any (va vb : Value) (a b : Tr) (w : World) (ha : RefAt w va a) (hb : RefAt w vb b) (na : a.length ≤ 80) (nb : b.length ≤ 80) (rb : Rising b) (ma : MildT a) (mb : MildT b) (la : longT a = false) (lb : longT b = false) :
    Calls Tryz.prog 11 #[va, vb] w fun e w' => ∃ v xs, e = .returned v ∧ OwnPs 70 w w' v xs ∧ valsP xs = treesP a b := by
  obtain ⟨i1, hi1, hy0, hy1, hy2⟩ := info_parts Tryz.rprimInfo6
  obtain ⟨Aa, n, ca, za, rfl, hca, hra, hea⟩ := ha
  obtain ⟨Ab, m, cb, zb, rfl, hcb, hrb, heb⟩ := hb
  have hna : n = a.length := by rw [← hra.len, ← hea, mapT_length]
  have hnb : m = b.length := by rw [← hrb.len, ← heb, mapT_length]
  have HRA := Lib.hid hra; have HRB := Lib.hid hrb; have HEA := Lib.hid hea; have HEB := Lib.hid heb
  have HTR := Lib.hid (trees_is la lb)
  have HMA := Lib.hid ma; have HMB := Lib.hid mb; have HLA := Lib.hid la; have HLB := Lib.hid lb; have HRI := Lib.hid rb
  clear hra hrb hea heb ma mb la lb rb
  subst hna
  subst hnb
  go_enter Tryz.func11, Tryz.ntmps11
  go_wp2
  go_loopg [5, 7, 8] (a.length + 1) (fun g s5 s7 s8 wr => ∃ (k : Nat) (v u : Value) (ys zs : List PrC), k ≤ a.length ∧ a.length - k ≤ g ∧ s8 = .int .i64 (k : Nat) ∧ s5 = v ∧ s7 = u ∧ Hid (Tri w wr v u (.slice none 0 0) ys zs []) ∧ Hid (valsP ys = goneK b (a.take k)) ∧ Hid (valsP zs = stayK b (a.take k)))
  case atStart => exact ⟨0, _, _, [], [], Nat.zero_le _, by omega, rfl, rfl, rfl, ⟨OwnPs.nil (Later.refl _), OwnPs.nil (Later.refl _), OwnPs.nil (Later.refl _), (fun y h => by cases h), (fun y h => by cases h), (fun y h => by cases h), (fun g h => by cases h), (fun g h => by cases h), fun g h => by cases h⟩, rfl, rfl⟩
  case round =>
    obtain ⟨k, v, u, ys, zs, hk, hg, rfl, hv, hu, hT, hGo, hSt⟩ := hrel
    obtain rfl := hv.symm
    obtain rfl := hu.symm
    clear hv hu
    by_cases hlt : k < a.length
    · obtain ⟨b5, o5, fn, A1, n1, c1, fl, rfl, hf, c0, d0, hc1, hr1⟩ := ref_at HRA.out HEA.out hlt
      have hfm : (fn, fl) ∈ a := List.mem_of_getElem? hf
      have hl2 := long_no HLA.out hfm
      have hfl := hr1.len
      have hn1 : n1 ≤ 200 := by dsimp only at hl2; omega
      have HFS := Lib.hid (HMA.out _ hfm)
      have HTK := Lib.hid (take_snoc hf)
      have C0 := Lib.hid c0; have D0 := Lib.hid d0; have HR1 := Lib.hid hr1
      have HG := Lib.hid (refGet_any Ab _ cb zb fn wr (HRB.out.later hT.out.later) (by omega))
      have x0 := hT.out.later.cell c0
      have x1 := hT.out.later.cell d0
      rw [Nat.add_zero] at x0
      clear hf hfm c0 d0 hr1 hl2 hfl
      cases hgb : getT b fn with
      | some l2 =>
        obtain ⟨A2, n2, c2, hgo, hha, hc2, hr2⟩ := ref_got HRB.out HEB.out hgb
        rw [hgo, hha] at HG
        have hm2 := (getT_iff HRI.out).1 hgb
        have hl3 := long_no HLB.out hm2
        have hl4 := hr2.len
        have hn2 : n2 ≤ 200 := by dsimp only at hl3; omega
        have HS2 := Lib.hid (HMB.out _ hm2).2
        have HR2 := Lib.hid hr2
        have HGS : Hid (goneK b (a.take (k + 1)) = goneK b (a.take k)) := by show _ = _; rw [HTK.out]; exact goneK_no (f := (fn, fl)) (hasT_some hgb)
        have HSS : Hid (stayK b (a.take (k + 1)) = stayK b (a.take k) ++ linesP fn fl l2) := by show _ = _; rw [HTK.out]; exact stayK_yes (f := (fn, fl)) hgb
        clear hgb hgo hha hm2 hl3 hl4 hr2
        go_wp2_with fail
        refine HG.out.mono ?_
        rintro e w6 ⟨rfl, rfl⟩
        clear HG
        have HCL : Hid (∀ w1, Later w w1 → Calls Tryz.prog 32 #[.string fn, .slice A1 n1 c1, .slice A2 n2 c2] w1 (GivesRB (linesP fn fl l2) w w1)) := fun w1 h => refLines_base fn A1 A2 n1 c1 n2 c2 fl l2 w w1 h HR1.out HR2.out hc1 hc2 hn1 hn2 HFS.out.1 HFS.out.2 HS2.out
        have hz3 : zs.length ≤ 16160 := by have := stay_take b a k; rw [← hSt.out, valsP_length] at this; omega
        have hx3 := linesP_length fn fl l2
        go_upto_region 11 with fail
        refine rtrees_both rfl (by kernel_rfl) ⟨_, rfl, rfl, rfl, rfl, by kernel_rfl⟩ ⟨_, rfl, rfl, rfl, rfl, by kernel_rfl⟩ ⟨_, rfl, rfl, rfl, rfl, by kernel_rfl⟩ ⟨_, rfl, rfl, rfl, rfl, by kernel_rfl⟩ ⟨_, rfl, rfl, rfl, rfl, by kernel_rfl⟩ ⟨_, rfl, rfl, rfl, rfl, by kernel_rfl⟩ ⟨_, rfl, rfl, rfl, rfl, by kernel_rfl⟩ ⟨_, rfl, rfl, rfl, rfl, by kernel_rfl⟩ ⟨_, rfl, rfl, rfl, rfl, by kernel_rfl⟩ ⟨_, rfl, rfl, rfl, rfl, by kernel_rfl⟩ ⟨_, rfl, rfl, rfl, rfl, by kernel_rfl⟩ ⟨_, rfl, rfl, rfl, rfl, by kernel_rfl⟩ ⟨_, rfl, rfl, rfl, rfl, by kernel_rfl⟩ ⟨_, rfl, rfl, rfl, rfl, by kernel_rfl⟩ ⟨_, rfl, rfl, rfl, rfl, by kernel_rfl⟩ (of_decide_eq_true rfl) rfl rfl rfl rfl hlt C0.out D0.out hT.out.swap12 HCL.out (by omega) ?_
        intro D a2 wz so e7 st
        have ha := so.is
        simp only [List.foldl_cons, List.foldl_nil] at ha
        rw [e7] at ha
        generalize a2.eval (.tmp 38) = y38 at ha
        generalize a2.eval (.tmp 39) = y39 at ha
        generalize a2.eval (.tmp 40) = y40 at ha
        generalize a2.eval (.tmp 41) = y41 at ha
        generalize a2.eval (.tmp 42) = y42 at ha
        generalize a2.eval (.tmp 43) = y43 at ha
        generalize a2.eval (.tmp 44) = y44 at ha
        generalize a2.eval (.tmp 45) = y45 at ha
        generalize a2.eval (.tmp 46) = y46 at ha
        generalize a2.eval (.tmp 47) = y47 at ha
        generalize a2.eval (.tmp 48) = y48 at ha
        generalize a2.eval (.tmp 49) = y49 at ha
        generalize a2.eval (.tmp 50) = y50 at ha
        generalize a2.eval (.tmp 51) = y51 at ha
        have HT2 := Lib.hid (st.fin rfl).1.swap12
        have HS9 : Hid (valsP (zs ++ D.ns) = stayK b (a.take (k + 1))) := by show _ = _; rw [HSS.out, ← hSt.out, ← (st.fin rfl).2]; simp [valsP]
        clear so st e7 hT HCL
        subst ha
        simp only [Act.put, List.setIfInBounds_toArray, List.set_cons_zero, List.set_cons_succ]
        go_wp2
        go_roundg (a.length - (k + 1))
        case measure => omega
        case rel => exact ⟨k + 1, v, D.v, ys, zs ++ D.ns, by omega, Nat.le_refl _, by go_num, rfl, rfl, HT2, by show _ = _; rw [HGS.out]; exact hGo.out, HS9⟩
      | none =>
        obtain ⟨hgo, hha⟩ := ref_not HEB.out hgb
        rw [hgo, hha] at HG
        have HGS : Hid (goneK b (a.take (k + 1)) = goneK b (a.take k) ++ (linesP fn fl [] ++ [⟨2, fn, ByteArray.empty, 0, [], []⟩])) := by show _ = _; rw [HTK.out]; exact goneK_yes (f := (fn, fl)) (hasT_none hgb)
        have HSS : Hid (stayK b (a.take (k + 1)) = stayK b (a.take k)) := by show _ = _; rw [HTK.out]; exact stayK_no (f := (fn, fl)) (hasT_none hgb)
        clear hgb hgo hha
        go_wp2_with fail
        refine HG.out.mono ?_
        rintro e w6 ⟨rfl, rfl⟩
        clear HG
        have HCL : Hid (∀ w1, Later w w1 → Calls Tryz.prog 32 #[.string fn, .slice A1 n1 c1, .slice none 0 0] w1 (GivesRB (linesP fn fl []) w w1)) := fun w1 h => refLines_base fn A1 none n1 c1 0 0 fl [] w w1 h HR1.out Row.none hc1 (Nat.le_refl _) hn1 (by decide) HFS.out.1 HFS.out.2 (fun s hs => by cases hs)
        have hy3 : ys.length ≤ 16160 := by have := gone_take b a k; rw [← hGo.out, valsP_length] at this; omega
        have hx3 := linesP_length fn fl []
        go_upto_region 12 with fail
        refine rtrees_gone rfl (by kernel_rfl) ⟨_, rfl, rfl, rfl, rfl, by kernel_rfl⟩ ⟨_, rfl, rfl, rfl, rfl, by kernel_rfl⟩ ⟨_, rfl, rfl, rfl, rfl, by kernel_rfl⟩ ⟨_, rfl, rfl, rfl, rfl, by kernel_rfl⟩ ⟨_, rfl, rfl, rfl, rfl, by kernel_rfl⟩ ⟨_, rfl, rfl, rfl, rfl, by kernel_rfl⟩ ⟨_, rfl, rfl, rfl, rfl, by kernel_rfl⟩ ⟨_, rfl, rfl, rfl, rfl, by kernel_rfl⟩ ⟨_, rfl, rfl, rfl, rfl, by kernel_rfl⟩ ⟨_, rfl, rfl, rfl, rfl, by kernel_rfl⟩ ⟨_, rfl, rfl, rfl, rfl, by kernel_rfl⟩ ⟨_, rfl, rfl, rfl, rfl, by kernel_rfl⟩ ⟨_, rfl, rfl, rfl, rfl, by kernel_rfl⟩ ⟨_, rfl, rfl, rfl, rfl, by kernel_rfl⟩ ⟨_, rfl, rfl, rfl, rfl, by kernel_rfl⟩ ⟨_, rfl, rfl, rfl, rfl, by kernel_rfl⟩ ⟨_, rfl, rfl, rfl, rfl, by kernel_rfl⟩ ⟨_, rfl, rfl, rfl, rfl, by kernel_rfl⟩ ⟨_, rfl, rfl, rfl, rfl, by kernel_rfl⟩ ⟨_, rfl, rfl, rfl, rfl, by kernel_rfl⟩ ⟨_, rfl, rfl, rfl, rfl, by kernel_rfl⟩ ⟨_, rfl, rfl, rfl, rfl, by kernel_rfl⟩ (of_decide_eq_true rfl) rfl rfl rfl hlt C0.out D0.out hT.out HFS.out.1 HCL.out (by omega) ?_
        intro D a2 wz so e5 st
        have ha := so.is
        simp only [List.foldl_cons, List.foldl_nil] at ha
        rw [e5] at ha
        generalize a2.eval (.tmp 52) = y52 at ha
        generalize a2.eval (.tmp 53) = y53 at ha
        generalize a2.eval (.tmp 54) = y54 at ha
        generalize a2.eval (.tmp 55) = y55 at ha
        generalize a2.eval (.tmp 56) = y56 at ha
        generalize a2.eval (.tmp 57) = y57 at ha
        generalize a2.eval (.tmp 58) = y58 at ha
        generalize a2.eval (.tmp 59) = y59 at ha
        generalize a2.eval (.tmp 60) = y60 at ha
        generalize a2.eval (.tmp 61) = y61 at ha
        generalize a2.eval (.tmp 62) = y62 at ha
        generalize a2.eval (.tmp 63) = y63 at ha
        generalize a2.eval (.tmp 64) = y64 at ha
        generalize a2.eval (.tmp 65) = y65 at ha
        generalize a2.eval (.tmp 66) = y66 at ha
        generalize a2.eval (.tmp 67) = y67 at ha
        generalize a2.eval (.tmp 68) = y68 at ha
        generalize a2.eval (.tmp 69) = y69 at ha
        generalize a2.eval (.tmp 70) = y70 at ha
        generalize a2.eval (.tmp 71) = y71 at ha
        generalize a2.eval (.tmp 72) = y72 at ha
        have HT2 := Lib.hid (st.fin rfl).1
        have HS9 : Hid (valsP (ys ++ D.ns ++ [bareC 2 fn]) = goneK b (a.take (k + 1))) := by show _ = _; rw [HGS.out, ← hGo.out, ← (st.fin rfl).2]; simp [valsP, bareC]
        clear so st e5 hT HCL
        subst ha
        simp only [Act.put, List.setIfInBounds_toArray, List.set_cons_zero, List.set_cons_succ]
        go_wp2
        go_roundg (a.length - (k + 1))
        case measure => omega
        case rel => exact ⟨k + 1, D.v, u, ys ++ D.ns ++ [bareC 2 fn], zs, by omega, Nat.le_refl _, by go_num, rfl, rfl, HT2, HS9, by show _ = _; rw [HSS.out]; exact hSt.out⟩
    · rw [List.take_of_length_le (by omega)] at hGo hSt
      go_wp2
      go_loopg [6, 11] (b.length + 1) (fun g s6 s11 w2 => ∃ (k2 : Nat) (cv : Value) (cs : List PrC), k2 ≤ b.length ∧ b.length - k2 ≤ g ∧ s11 = .int .i64 (k2 : Nat) ∧ s6 = cv ∧ Hid (Tri w w2 v u cv ys zs cs) ∧ Hid (valsP cs = comeK a (b.take k2)))
      case atStart => exact ⟨0, _, [], Nat.zero_le _, by omega, rfl, rfl, hT, rfl⟩
      case round =>
        clear hT
        obtain ⟨k2, cv, cs, hk2, hg2, rfl, hcv, hT, hCo⟩ := hrel
        obtain rfl := hcv.symm
        clear hcv
        by_cases hlt2 : k2 < b.length
        · obtain ⟨b5, o5, fn, A1, n1, c1, fl, rfl, hf, c0, d0, hc1, hr1⟩ := ref_at HRB.out HEB.out hlt2
          have hfm : (fn, fl) ∈ b := List.mem_of_getElem? hf
          have hl2 := long_no HLB.out hfm
          have hfl := hr1.len
          have hn1 : n1 ≤ 200 := by dsimp only at hl2; omega
          have HFS := Lib.hid (HMB.out _ hfm)
          have HTK := Lib.hid (take_snoc hf)
          have C0 := Lib.hid c0; have D0 := Lib.hid d0; have HR1 := Lib.hid hr1
          have HG := Lib.hid (refGet_any Aa _ ca za fn wr (HRA.out.later hT.out.later) (by omega))
          have x0 := hT.out.later.cell c0
          have x1 := hT.out.later.cell d0
          rw [Nat.add_zero] at x0
          clear hf hfm c0 d0 hr1 hl2 hfl
          cases hga : getT a fn with
          | some l2 =>
            obtain ⟨A2, n2, c2, hgo, hha, _, _⟩ := ref_got HRA.out HEA.out hga
            rw [hgo, hha] at HG
            have HCS : Hid (valsP cs = comeK a (b.take (k2 + 1))) := by show _ = _; rw [HTK.out, hCo.out]; exact (comeK_no (f := (fn, fl)) (hasT_some hga)).symm
            clear hga hgo hha
            go_wp2_with fail
            refine HG.out.mono ?_
            rintro e w6 ⟨rfl, rfl⟩
            clear HG
            go_wp2
            go_roundg (b.length - (k2 + 1))
            case measure => omega
            case rel => exact ⟨k2 + 1, cv, cs, by omega, Nat.le_refl _, by go_num, rfl, hT, HCS⟩
          | none =>
            obtain ⟨hgo, hha⟩ := ref_not HEA.out hga
            rw [hgo, hha] at HG
            have HCS : Hid (comeK a (b.take (k2 + 1)) = comeK a (b.take k2) ++ ((⟨1, fn, ByteArray.empty, 0, [], []⟩ : Pr) :: linesP fn [] fl)) := by show _ = _; rw [HTK.out]; exact comeK_yes (f := (fn, fl)) (hasT_none hga)
            clear hga hgo hha
            go_wp2_with fail
            refine HG.out.mono ?_
            rintro e w6 ⟨rfl, rfl⟩
            clear HG
            have HCL : Hid (∀ w1, Later w w1 → Calls Tryz.prog 32 #[.string fn, .slice none 0 0, .slice A1 n1 c1] w1 (GivesRB (linesP fn [] fl) w w1)) := fun w1 h => refLines_base fn none A1 0 0 n1 c1 [] fl w w1 h Row.none HR1.out (Nat.le_refl _) hc1 (by decide) hn1 HFS.out.1 (fun s hs => by cases hs) HFS.out.2
            have hy3 : cs.length ≤ 16160 := by have := come_take a b k2; rw [← hCo.out, valsP_length] at this; omega
            have hx3 := linesP_length fn [] fl
            go_upto_region 20 with fail
            refine rtrees_come rfl (by kernel_rfl) ⟨_, rfl, rfl, rfl, rfl, by kernel_rfl⟩ ⟨_, rfl, rfl, rfl, rfl, by kernel_rfl⟩ ⟨_, rfl, rfl, rfl, rfl, by kernel_rfl⟩ ⟨_, rfl, rfl, rfl, rfl, by kernel_rfl⟩ ⟨_, rfl, rfl, rfl, rfl, by kernel_rfl⟩ ⟨_, rfl, rfl, rfl, rfl, by kernel_rfl⟩ ⟨_, rfl, rfl, rfl, rfl, by kernel_rfl⟩ ⟨_, rfl, rfl, rfl, rfl, by kernel_rfl⟩ ⟨_, rfl, rfl, rfl, rfl, by kernel_rfl⟩ ⟨_, rfl, rfl, rfl, rfl, by kernel_rfl⟩ ⟨_, rfl, rfl, rfl, rfl, by kernel_rfl⟩ ⟨_, rfl, rfl, rfl, rfl, by kernel_rfl⟩ ⟨_, rfl, rfl, rfl, rfl, by kernel_rfl⟩ ⟨_, rfl, rfl, rfl, rfl, by kernel_rfl⟩ ⟨_, rfl, rfl, rfl, rfl, by kernel_rfl⟩ ⟨_, rfl, rfl, rfl, rfl, by kernel_rfl⟩ ⟨_, rfl, rfl, rfl, rfl, by kernel_rfl⟩ ⟨_, rfl, rfl, rfl, rfl, by kernel_rfl⟩ ⟨_, rfl, rfl, rfl, rfl, by kernel_rfl⟩ ⟨_, rfl, rfl, rfl, rfl, by kernel_rfl⟩ ⟨_, rfl, rfl, rfl, rfl, by kernel_rfl⟩ ⟨_, rfl, rfl, rfl, rfl, by kernel_rfl⟩ (of_decide_eq_true rfl) rfl rfl rfl hlt2 C0.out D0.out hT.out.swap13 HFS.out.1 HCL.out (by omega) ?_
            intro D a2 wz so e6 st
            have ha := so.is
            simp only [List.foldl_cons, List.foldl_nil] at ha
            rw [e6] at ha
            generalize a2.eval (.tmp 98) = y98 at ha
            generalize a2.eval (.tmp 99) = y99 at ha
            generalize a2.eval (.tmp 100) = y100 at ha
            generalize a2.eval (.tmp 101) = y101 at ha
            generalize a2.eval (.tmp 102) = y102 at ha
            generalize a2.eval (.tmp 103) = y103 at ha
            generalize a2.eval (.tmp 104) = y104 at ha
            generalize a2.eval (.tmp 105) = y105 at ha
            generalize a2.eval (.tmp 106) = y106 at ha
            generalize a2.eval (.tmp 107) = y107 at ha
            generalize a2.eval (.tmp 108) = y108 at ha
            generalize a2.eval (.tmp 109) = y109 at ha
            generalize a2.eval (.tmp 110) = y110 at ha
            generalize a2.eval (.tmp 111) = y111 at ha
            generalize a2.eval (.tmp 112) = y112 at ha
            generalize a2.eval (.tmp 113) = y113 at ha
            generalize a2.eval (.tmp 114) = y114 at ha
            generalize a2.eval (.tmp 115) = y115 at ha
            generalize a2.eval (.tmp 116) = y116 at ha
            generalize a2.eval (.tmp 117) = y117 at ha
            generalize a2.eval (.tmp 118) = y118 at ha
            have HT2 := Lib.hid (st.fin rfl).1.swap13
            have HS9 : Hid (valsP (cs ++ [bareC 1 fn] ++ D.ns) = comeK a (b.take (k2 + 1))) := by show _ = _; rw [HCS.out, ← hCo.out, ← (st.fin rfl).2]; simp [valsP, bareC]
            clear so st e6 hT HCL
            subst ha
            simp only [Act.put, List.setIfInBounds_toArray, List.set_cons_zero, List.set_cons_succ]
            go_wp2
            go_roundg (b.length - (k2 + 1))
            case measure => omega
            case rel => exact ⟨k2 + 1, D.v, cs ++ [bareC 1 fn] ++ D.ns, by omega, Nat.le_refl _, by go_num, rfl, HT2, HS9⟩
        · rw [List.take_of_length_le (by omega)] at hCo
          have h1 : ys.length ≤ 16160 := by have := gone_length b a; rw [← hGo.out, valsP_length] at this; omega
          have h2 : cs.length ≤ 16160 := by have := come_length a b; rw [← hCo.out, valsP_length] at this; omega
          have h3 : zs.length ≤ 16160 := by have := stay_length b a; rw [← hSt.out, valsP_length] at this; omega
          obtain ⟨Ac, cc, rfl, hcc1, hp2⟩ := hT.out.o3.row
          obtain ⟨Au, cu, rfl, hcu1, hp3⟩ := hT.out.o2.row
          have HP2 := Lib.hid hp2
          have HO := Lib.hid hT.out.o1
          have HAW := Lib.hid (hT.out.aways hT.out.k3)
          clear hp2 hp3
          go_wp2_with (at_builtin; refine Hid.out ?_)
          refine Lib.hid (wpList_append_ps5 rfl _ _ 34 rfl i1 _ 96 Tryz.underlying34 hi1 hy0 hy1 hy2 rfl HO.out rfl _ _ _ cs rfl HP2.out.row HP2.out.each HAW.out (by omega) (by omega) ?_)
          intro v9 w9 hov9 hgv9 h5v9
          have HT9 := Lib.hid (hT.out.grow hov9 hgv9 h5v9 hT.out.k3)
          clear hov9 hgv9 h5v9 HO HAW hT
          have HP3 : Hid (PsOk w9 Au zs.length zs) := by obtain ⟨A', c', e, _, h⟩ := HT9.out.o2.row; cases e; exact h
          have HO := Lib.hid HT9.out.o1
          have HAW := Lib.hid (HT9.out.aways HT9.out.k2)
          have hyl : (ys ++ cs).length ≤ 32320 := by rw [List.length_append]; omega
          have HE : Hid (valsP (ys ++ cs ++ zs) = treesP a b) := by
            show _ = _
            rw [HTR.out, ← hGo.out, ← hCo.out, ← hSt.out]
            simp [valsP]
          go_wp2_with (at_builtin; refine Hid.out ?_)
          refine Lib.hid (wpList_append_ps5 rfl _ _ 34 rfl i1 _ 96 Tryz.underlying34 hi1 hy0 hy1 hy2 rfl HO.out rfl _ _ _ zs rfl HP3.out.row HP3.out.each HAW.out (by omega) (by omega) ?_)
          intro v10 w10 hov10 hgv10 h5v10
          have HO10 := Lib.hid hov10
          clear hov10 hgv10 h5v10 HO HAW HT9 HP3
          go_wp2
          go_ret
          exact ⟨_, _, rfl, HO10.out, HE.out⟩

end Go.Proofs.YtbhnbkcokhfopaaGreat

/-
  What the document's All comes to, as a call.
-/
namespace Go.Proofs.YtbhnbkcokhfopaaGreat
open Go.RowKit Go.Maps

set_option maxRecDepth 100000 in
set_option maxHeartbeats 1600000 in
theorem refAllP_any (A B : Option Addr) (n c m d : Nat) (xs ys : List PrC) (w : World) (hx : PsOk w A n xs) (hy : PsOk w B m ys) (hn : n ≤ 65536) (hm : m ≤ 65536) :
    Calls Tryz.prog 9 #[.slice A n c, .slice B m d] w (Says (sameS (valsP xs) (valsP ys)) w) := by
  have HX := Lib.hid hx; have HY := Lib.hid hy; clear hx hy
  by_cases hnm : n = m
  case neg =>
    have HE : Hid (sameS (valsP xs) (valsP ys) = false) := sameS_length (by rw [valsP_length, valsP_length, HX.out.len, HY.out.len]; exact hnm)
    rw [HE.out]
    have hne : ((n : Int) == (m : Int)) = false := by rw [beq_eq_false_iff_ne]; omega
    go_enter Tryz.func9, Tryz.ntmps9
    go_wp2
    go_ret
    exact ⟨rfl, Later.refl w⟩
  subst hnm
  go_enter Tryz.func9, Tryz.ntmps9
  go_wp2
  go_loopg [5] (n + 1) (fun g s7 wr => ∃ k : Nat, k ≤ n ∧ n - k ≤ g ∧ s7 = .int .i64 k ∧ Hid (∀ j (p q : Pr), j < k → (valsP xs)[j]? = some p → (valsP ys)[j]? = some q → sameP p q = true) ∧ Hid (Later w wr))
  case atStart => exact ⟨0, Nat.zero_le _, by omega, rfl, fun j p q hj => by omega, Later.refl w⟩
  case round =>
    obtain ⟨k, hk, hg, rfl, hall, hwr⟩ := hrel
    by_cases hlt : k < n
    · obtain ⟨b, o, x, rfl, hz, hok, g0, g1, g2, g3, g4, g5⟩ := (HX.out.later hwr.out).get hlt
      obtain ⟨b', o', y, rfl, hz', hok', k0, k1, k2, k3, k4, k5⟩ := (HY.out.later hwr.out).get hlt
      have HLB : Hid (Later wr (wr)) := Later.refl wr
      have HAT := Lib.hid (valsP_at hz); have HAT' := Lib.hid (valsP_at hz')
      have HR := Lib.hid (fun (w1 : World) (h : Later wr w1) => refSameP_any x y w1 (hok.later h) (hok'.later h))
      clear hok hok' hz hz'
      unfold prV at HR
      cases hr : sameP x.v y.v
      · rw [hr] at HR
        have HNO : Hid (sameS (valsP xs) (valsP ys) = false) := sameS_at HAT.out HAT'.out hr
        rw [HNO.out]
        clear hr
        go_wp2
        go_region_with (go_at_call 30; refine (HR.out _ (by first | exact Later.refl _ | exact (Later.refl _).drew | exact (Later.refl _).drewN _)).mono ?_; rintro e w2 ⟨rfl, hl2⟩; have HL2 : Hid (Later wr w2) := Later.trans (by first | exact Later.refl _ | exact (Later.refl _).drew | exact (Later.refl _).drewN _) hl2; clear hl2)
        all_goals go_wp2
        all_goals go_ret
        all_goals exact ⟨rfl, (hwr.out.trans HL2.out)⟩
      · rw [hr] at HR
        have HNX : Hid (∀ j (p q : Pr), j < k + 1 → (valsP xs)[j]? = some p → (valsP ys)[j]? = some q → sameP p q = true) := fun j p q hj h1 h2 => by
          by_cases e : j = k
          · subst e
            rw [HAT.out] at h1; rw [HAT'.out] at h2
            cases h1; cases h2
            exact hr
          · exact hall.out j p q (by omega) h1 h2
        clear hr
        go_wp2
        go_region_with (go_at_call 30; refine (HR.out _ (by first | exact Later.refl _ | exact (Later.refl _).drew | exact (Later.refl _).drewN _)).mono ?_; rintro e w2 ⟨rfl, hl2⟩; have HL2 : Hid (Later wr w2) := Later.trans (by first | exact Later.refl _ | exact (Later.refl _).drew | exact (Later.refl _).drewN _) hl2; clear hl2)
        all_goals go_wp2
        all_goals go_roundg (n - (k + 1))
        all_goals first | omega | exact ⟨k + 1, by omega, Nat.le_refl _, by go_num, HNX, hwr.out.trans HL2.out⟩
    · have HE : Hid (sameS (valsP xs) (valsP ys) = true) := sameS_all (by rw [valsP_length, valsP_length, HX.out.len, HY.out.len]) fun j p q h1 h2 => hall.out j p q (by
        have := (List.getElem?_eq_some_iff.1 h1).1
        rw [valsP_length, HX.out.len] at this
        omega) h1 h2
      go_wp2
      go_ret
      exact ⟨by rw [HE.out]; rfl, hwr.out⟩


end Go.Proofs.YtbhnbkcokhfopaaGreat

/-
  A prim that is written into a row of prims.
-/
namespace Go.Proofs.YtbhnbkcokhfopaaGreat
open Go.RowKit Go.Maps

theorem flat_set (v0 v1 v2 v3 v4 v5 : Value) : ∀ {css : List (List Value)}, (∀ cs ∈ css, cs.length = 6) → ∀ {i : Nat}, i < css.length → ((((((css.flatten.set (i * 6) v0).set (i * 6 + 1) v1).set (i * 6 + 2) v2).set (i * 6 + 3) v3).set (i * 6 + 4) v4).set (i * 6 + 5) v5) = (css.set i [v0, v1, v2, v3, v4, v5]).flatten
  | [], _, _, h => absurd h (Nat.not_lt_zero _)
  | c :: css, hk, i, hi => by
    match c, hk c List.mem_cons_self with
    | [a0, a1, a2, a3, a4, a5], _ =>
      cases i with
      | zero => simp
      | succ i =>
        have ih := flat_set v0 v1 v2 v3 v4 v5 (css := css) (fun cs h => hk cs (List.mem_cons_of_mem _ h)) (i := i) (by simpa using hi)
        rw [List.set_cons_succ, List.flatten_cons, List.flatten_cons, ← ih]
        simp only [show (i + 1) * 6 = i * 6 + 6 by omega, show i * 6 + 6 + 1 = i * 6 + 1 + 6 by omega, show i * 6 + 6 + 2 = i * 6 + 2 + 6 by omega, show i * 6 + 6 + 3 = i * 6 + 3 + 6 by omega, show i * 6 + 6 + 4 = i * 6 + 4 + 6 by omega, show i * 6 + 6 + 5 = i * 6 + 5 + 6 by omega]
        rfl
theorem turned_sets (w : World) (g o i : Nat) (v0 v1 v2 v3 v4 v5 : Value) : Turned g w ((((((w.setCell ⟨g, o + i * 6, none⟩ v0).setCell ⟨g, o + i * 6 + 1, none⟩ v1).setCell ⟨g, o + i * 6 + 2, none⟩ v2).setCell ⟨g, o + i * 6 + 3, none⟩ v3).setCell ⟨g, o + i * 6 + 4, none⟩ v4).setCell ⟨g, o + i * 6 + 5, none⟩ v5) :=
  (((((turned_set w g _ v0).trans (turned_set _ g _ v1)).trans (turned_set _ g _ v2)).trans (turned_set _ g _ v3)).trans (turned_set _ g _ v4)).trans (turned_set _ g _ v5)

section
variable {e : TypeId} {w0 w w' : World} {A : Option Addr} {n c g o : Nat} {xs : List PrC}
theorem OwnPs.ps (h : OwnPs e w0 w (.slice A n c) xs) : PsOk w A n xs := by
  obtain ⟨A', c', hv, _, hr⟩ := h.row
  cases hv
  exact hr
theorem OwnPs.size (h : OwnPs e w0 w (.slice A n c) xs) : xs.length = n := h.ps.len
/-- The block of such a row. -/
theorem OwnPs.at (h : OwnPs e w0 w (.slice (some ⟨g, o, none⟩) n c) xs) : o = 0 ∧ ∃ cur, w.heap[g]? = some (.cells cur e (0, 0)) ∧ cur.size = c * 6 ∧ n ≤ c ∧ c ≤ maxLen ∧ cur.toList.take (n * 6) = (xs.map prL).flatten := by
  have hs := h.size
  rcases h.own.1.2 with ⟨hv, _⟩ | ⟨g', cap, cur, hv, _, hh, hnc, hm, hc, ht⟩
  · cases hv
  · simp only [List.length_map] at hv hnc ht
    rw [hs] at hv hnc ht
    cases hv
    exact ⟨rfl, cur, hh, hc, hnc, hm, ht⟩
theorem OwnPs.frozen (h : OwnPs e w0 w (.slice (some ⟨g, o, none⟩) n c) xs) (i : Nat) : w.frozen? ⟨g, i, none⟩ = false := by
  obtain ⟨_, cur, hh, _⟩ := h.at
  exact frozen_no hh i
/-- Written at place i. -/
theorem OwnPs.set (h : OwnPs e w0 w (.slice (some ⟨g, o, none⟩) n c) xs) {i : Nat} (hi : i < n) (x : PrC) (hx : PrOk w x) (ha : Away g x) :
    OwnPs e w0 ((((((w.setCell ⟨g, o + i * 6, none⟩ (.int .i64 x.v.kind)).setCell ⟨g, o + i * 6 + 1, none⟩ (.string x.v.name)).setCell ⟨g, o + i * 6 + 2, none⟩ (.string x.v.to)).setCell ⟨g, o + i * 6 + 3, none⟩ (.int .i64 x.v.place)).setCell ⟨g, o + i * 6 + 4, none⟩ (.slice x.A x.n x.c)).setCell ⟨g, o + i * 6 + 5, none⟩ (.slice x.B x.m x.d)) (.slice (some ⟨g, o, none⟩) n c) (xs.set i x) := by
  have hsz := h.size
  obtain ⟨rfl, cur, hh, hcs, hnc, hm, ht⟩ := h.at
  have hb := h.block g rfl
  have htn := turned_sets w g 0 i (.int .i64 x.v.kind) (.string x.v.name) (.string x.v.to) (.int .i64 x.v.place) (.slice x.A x.n x.c) (.slice x.B x.m x.d)
  have hl := h.later.turn htn hb
  have hbox := (((((BoxAt.set (show BoxAt w g cur e from hh) (0 + i * 6) (.int .i64 x.v.kind)).set (0 + i * 6 + 1) (.string x.v.name)).set (0 + i * 6 + 2) (.string x.v.to)).set (0 + i * 6 + 3) (.int .i64 x.v.place)).set (0 + i * 6 + 4) (.slice x.A x.n x.c)).set (0 + i * 6 + 5) (.slice x.B x.m x.d)
  have hlen : (xs.map prL).length = n := by simp [hsz]
  refine ⟨⟨⟨?_, .inr ⟨g, c, _, ?_, hb, hbox, ?_, hm, ?_, ?_⟩⟩, ?_, hl⟩, ?_, ?_⟩
  · rw [flat_length (k := 6) (by intro cs hcs; obtain ⟨y, _, rfl⟩ := List.mem_map.1 hcs; rfl)]
  · simp [hsz]
  · simp [hsz]; exact hnc
  · simpa using hcs
  · simp only [List.length_map, List.length_set, Array.toList_setIfInBounds, List.take_set, hsz, ht, Nat.zero_add]
    rw [flat_set _ _ _ _ _ _ (by intro cs hcs; obtain ⟨y, _, rfl⟩ := List.mem_map.1 hcs; rfl) (by simp [hsz]; exact hi), List.map_set]
    rfl
  · intro cs hcs
    obtain ⟨y, _, rfl⟩ := List.mem_map.1 hcs
    rfl
  · intro y hy
    have h1 : PrOk w y ∧ Away g y := by
      rcases List.mem_or_eq_of_mem_set hy with h2 | rfl
      · exact ⟨h.ok y h2, h.away y h2 g rfl⟩
      · exact ⟨hx, ha⟩
    exact h1.1.off htn h1.2
  · intro y hy g' hg'
    cases hg'
    rcases List.mem_or_eq_of_mem_set hy with h2 | rfl
    · exact h.away y h2 _ rfl
    · exact ha
end

theorem grown_later {w w' : World} (h : Later w w') (r : Option Nat) : w.grownBy w' r := ⟨h.os, h.tape, h.output, h.size, fun i hi _ => h.block i hi⟩
theorem grown_trans {w w' w'' : World} {r : Option Nat} (h : w.grownBy w' r) (k : w'.grownBy w'' r) : w.grownBy w'' r :=
  ⟨k.os.trans h.os, k.tape.trans h.tape, k.output.trans h.output, Nat.le_trans h.size k.size, fun i hi hne => (k.block i (Nat.lt_of_lt_of_le hi h.size) hne).trans (h.block i hi hne)⟩
/-- What was made since is turned: all that was there is as it was. -/
theorem Later.grown {w0 w w' : World} {v : Value} (h : Later w0 w) (hg : w.grownBy w' v.ownBlock) (hb : ∀ b, v.ownBlock = some b → w0.heap.size ≤ b) : Later w0 w' := Below.grown h hg h.size hb
theorem results_one {P : Program} {fn : Func} {p u : Tmp} {ty : TypeId} (h : fn.results = #[.cell p ty, .tmp u]) (tmps : Array Value) (w : World) (g : Nat) (t : TypeId) (cs : Array Value) (fr : Nat × Nat) (d : TypeDesc) (v : Value)
    (hp : tmps.getD p undef = .pointer (some ⟨g, 0, none⟩)) (hv : tmps.getD u undef = v) (hg : w.heap[g]? = some (.cells cs t fr))
    (hu : P.underlying ty = some d) (hd : (match d with | .struct _ | .array _ _ => true | _ => false) = true) (hi : (P.info? ty).map (·.size) = some cs.size) :
    (results fn tmps).run P w = .ok (.tuple #[.agg cs, v]) w := by
  have hp' : tmps[p]?.getD undef = .pointer (some ⟨g, 0, none⟩) := by simpa using hp
  have hv' : tmps[u]?.getD undef = v := by simpa using hv
  simp [results, h, hp', hv', asAddr, run_loadVar_row w g t ty cs fr d hg hu hd hi]

end Go.Proofs.YtbhnbkcokhfopaaGreat

/-
  Stores of prims, as laws of the walk: into a block, into a row.
-/
namespace Go.Proofs.YtbhnbkcokhfopaaGreat
open Go.RowKit Go.Maps

theorem prV_is (x : PrC) : prV x = .agg (prL x).toArray := rfl
theorem prL_one (x : PrC) : (prL x).toArray.all (·.oneCell') = true := by simp [prL, Value.oneCell']
/-- A block that was made since is turned. -/
theorem grown_new {w w1 w2 : World} {r : Option Nat} {g : Nat} (h : w.grownBy w1 r) (k : Turned g w1 w2) (hg : w.heap.size ≤ g) : w.grownBy w2 r :=
  ⟨k.os.trans h.os, k.tape.trans h.tape, k.output.trans h.output, Nat.le_trans h.size k.size, fun i hi hne => (k.block i (Nat.lt_of_lt_of_le hi h.size) (by simp; omega)).trans (h.block i hi hne)⟩
section
variable {ops : Array Oper} {rest : List Oper} {op : Oper} {a : Act} {w w0 : World} {Q : Exit → Act → World → Prop}
theorem put_none (a : Act) (v : Value) : a.put none v = a := rfl
/-- A prim is written into a block. -/
theorem wpList_store_box (hgd : op.guard = none) (hd : op.dst = none) (T : TypeId) (j k : Tmp) (ho : op.op = .store T (.tmp j) (.tmp k)) (hi : (Tryz.prog.info? T).map (·.size) = some 6) (g : Nat) (x : PrC) (hj : a.eval (.tmp j) = .pointer (some ⟨g, 0, none⟩)) (hv : a.eval (.tmp k) = prV x)
    {cs : Array Value} {t : TypeId} (hb : BoxAt w g cs t) (hs : cs.size = 6) (h : ∀ w', BoxAt w' g (prL x).toArray t → Turned g w w' → wpList Tryz.prog ops Q rest a w') : wpList Tryz.prog ops Q (op :: rest) a w := by
  refine wpList_store_row hgd T (.tmp j) (.tmp k) ho g (prL x).toArray hj (hv.trans (prV_is x)) t cs hb hi hs (prL_one x) ?_
  rw [hd, put_none]
  refine h _ ?_ ?_
  · exact setRow_heap w g cs _ t _ hb
  · exact ⟨rfl, rfl, rfl, by simp, fun i hi hne => setRow_other w g i _ (fun e => hne (by rw [e]))⟩
/-- A prim is written into a row. -/
theorem wpList_store_ps (hgd : op.guard = none) (hd : op.dst = none) (T : TypeId) (j k : Tmp) (ho : op.op = .store T (.tmp j) (.tmp k)) (hi : (Tryz.prog.info? T).map (·.size) = some 6) {e : TypeId} {g o n c i : Nat} {xs : List PrC} (x : PrC) (hj : a.eval (.tmp j) = .pointer (some ⟨g, o + i * 6, none⟩)) (hv : a.eval (.tmp k) = prV x)
    (hown : OwnPs e w0 w (.slice (some ⟨g, o, none⟩) n c) xs) (hin : i < n) (hx : PrOk w x) (ha : Away g x) (h : ∀ w', OwnPs e w0 w' (.slice (some ⟨g, o, none⟩) n c) (xs.set i x) → Turned g w w' → wpList Tryz.prog ops Q rest a w') : wpList Tryz.prog ops Q (op :: rest) a w := by
  obtain ⟨b', o', q, hA, hz, hok, g0, g1, g2, g3, g4, g5⟩ := hown.ps.get hin
  cases hA
  have hth : w.there g (o + i * 6) 6 := by
    intro r hr
    refine ⟨?_, hown.frozen _⟩
    match r, hr with
    | 0, _ => rw [Nat.add_zero, g0]; rfl
    | 1, _ => rw [g1]; rfl
    | 2, _ => rw [g2]; rfl
    | 3, _ => rw [g3]; rfl
    | 4, _ => rw [g4]; rfl
    | 5, _ => rw [g5]; rfl
  refine wpList_store_mid hgd T (.tmp j) (.tmp k) ho g (o + i * 6) (prL x).toArray hj (hv.trans (prV_is x)) hth hi (prL_one x) ?_
  rw [hd, put_none]
  exact h _ (hown.set hin x hx ha) (turned_sets w g o i _ _ _ _ _ _)
end

end Go.Proofs.YtbhnbkcokhfopaaGreat

/-
  More operations of a region that draws its order: rows of prims, boxes of one cell, indices.
-/
namespace Go.Proofs.YtbhnbkcokhfopaaGreat
open Go.RowKit Go.Maps

section
variable {ops : Array Oper} {Q : Exit → Act → World → Prop} {K : Act → World → Prop} {i : Nat} {dst : Option Tmp} {js : List Nat} {a : Act} {w w0 : World}
/-- A box of one slice is read. -/
theorem OpIs.loadS {k : Tmp} {g : Nat} {v : Value} {t : TypeId} (h : OpIs ops i (.load 31 (.tmp k)) dst js) (he : a.eval (.tmp k) = .pointer (some ⟨g, 0, none⟩)) (hb : BoxAt w g #[v] t) (hk : K (a.put dst v) w) : wpOp Tryz.prog ops Q i K a w :=
  h.go fun o h1 h2 => by
    have hc := hb.cell (i := 0) rfl
    have hr : (execOp a.eval o).run Tryz.prog w = .ok (.value v) w := by
      clear hb hk
      unfold execOp
      rw [h1]
      dsimp only
      rw [he]
      go_simp
    unfold Oper.wp
    rw [hr]
    show K _ _
    rw [h2]
    exact hk
/-- A slice is written into its box. -/
theorem OpIs.storeS {j k : Tmp} {g : Nat} {A : Option Addr} {n c : Nat} {u : Value} {t : TypeId} (h : OpIs ops i (.store 31 (.tmp j) (.tmp k)) none js) (hj : a.eval (.tmp j) = .pointer (some ⟨g, 0, none⟩)) (hv : a.eval (.tmp k) = .slice A n c) (hb : BoxAt w g #[u] t)
    (hk : ∀ w', BoxAt w' g #[.slice A n c] t → Turned g w w' → K a w') : wpOp Tryz.prog ops Q i K a w :=
  h.go fun o h1 h2 => by
    have hc := hb.cell (i := 0) rfl
    have hf := hb.frozen 0
    have hb' := hb.set 0 (.slice A n c)
    have ht := turned_set w g 0 (.slice A n c)
    have hr : (execOp a.eval o).run Tryz.prog w = .ok .skip (w.setCell ⟨g, 0, none⟩ (.slice A n c)) := by
      clear hb hb' ht hk
      unfold execOp
      rw [h1]
      dsimp only
      rw [hj, hv]
      go_simp
    unfold Oper.wp
    rw [hr]
    show K _ _
    rw [h2]
    exact hk _ hb' ht
/-- A Bool is written into its box. -/
theorem OpIs.storeB {j k : Tmp} {g : Nat} {b : Bool} {u : Value} {t : TypeId} (h : OpIs ops i (.store 4 (.tmp j) (.tmp k)) none js) (hj : a.eval (.tmp j) = .pointer (some ⟨g, 0, none⟩)) (hv : a.eval (.tmp k) = .bool b) (hb : BoxAt w g #[u] t)
    (hk : ∀ w', BoxAt w' g #[.bool b] t → Turned g w w' → K a w') : wpOp Tryz.prog ops Q i K a w :=
  h.go fun o h1 h2 => by
    have hc := hb.cell (i := 0) rfl
    have hf := hb.frozen 0
    have hb' := hb.set 0 (.bool b)
    have ht := turned_set w g 0 (.bool b)
    have hr : (execOp a.eval o).run Tryz.prog w = .ok .skip (w.setCell ⟨g, 0, none⟩ (.bool b)) := by
      clear hb hb' ht hk
      unfold execOp
      rw [h1]
      dsimp only
      rw [hj, hv]
      go_simp
    unfold Oper.wp
    rw [hr]
    show K _ _
    rw [h2]
    exact hk _ hb' ht
/-- A slice of one prim is laid. -/
theorem OpIs.build1 {k : Tmp} {x : PrC} (h : OpIs ops i (.buildSlice 31 1 #[(0, .tmp k)]) dst js) (hv : a.eval (.tmp k) = prV x) (hk : K (a.put dst (.slice (some ⟨w.heap.size, 0, none⟩) 1 1)) (w.alloc (.cells (prL x).toArray 53))) : wpOp Tryz.prog ops Q i K a w :=
  h.go fun o h1 h2 => by
    have hr : (execOp a.eval o).run Tryz.prog w = .ok (.value (.slice (some ⟨w.heap.size, 0, none⟩) 1 1)) (w.alloc (.cells (prL x).toArray 53)) := by
      unfold prV at hv
      unfold execOp
      rw [h1]
      simp only [hv, List.map_toArray, List.map_cons, List.map_nil]
      go_simp
      rfl
    unfold Oper.wp
    rw [hr]
    show K _ _
    rw [h2]
    exact hk
/-- append onto a row of the call's own. -/
theorem OpIs.append {j k : Tmp} {v : Value} {xs ys : List PrC} {A : Option Addr} {m c : Nat} (h : OpIs ops i (.call { callee := .builtin .append, args := #[.tmp j, .tmp k], argTypes := #[31, 31] }) dst js) (hj : a.eval (.tmp j) = v) (hv : a.eval (.tmp k) = .slice A m c)
    (hown : OwnPs 53 w0 w v xs) (hr : RowK 6 w A m (ys.map prL)) (hok : ∀ y ∈ ys, PrOk w y) (haw : ∀ y ∈ ys, ∀ g, v.ownBlock = some g → Away g y) (hb : xs.length + m ≤ 1000000)
    (hk : ∀ v' w', OwnPs 53 w0 w' v' (xs ++ ys) → w.grownBy w' v.ownBlock → K (a.put dst v') w') : wpOp Tryz.prog ops Q i K a w :=
  h.go fun o h1 h2 => by
    obtain ⟨i0, hi, hz0, hz1, hz2⟩ := info_parts Tryz.primInfo
    obtain ⟨v', w', hrun, ho, hg⟩ := run_append_ps (P := Tryz.prog) 31 o.type i0 _ 96 Tryz.underlying31 hi hz0 hz1 hz2 rfl hown A m c ys hr hok haw hb (by omega)
    unfold Oper.wp execOp
    simp only [h1, resolve, invoke, builtin, Sem.run_bind, Sem.run_pure, Result.andThen_ok, List.map_toArray, List.map_cons, List.map_nil, hj, hv, hrun]
    show K _ _
    rw [h2]
    exact hk v' w' ho hg
end

end Go.Proofs.YtbhnbkcokhfopaaGreat

/-
  A region that draws its order, in a round of a range over a function: what stands behind each set of its operations.
-/
namespace Go.Proofs.YtbhnbkcokhfopaaGreat
open Go.RowKit

section
variable {P : Program} {ops : Array Oper} {Q : Exit → Act → World → Prop} {l n : Nat}
/-- An operation that is no defer statement goes in a round as everywhere. -/
theorem op_in {o : Oper} {a : Act} {w : World} {K : Act → World → Prop} (hd : ∀ c, o.op ≠ .defer c) (h : o.wp P a w K Q) : o.wpIn (Fence.wide.inRound l) n P a w K Q := by
  refine ⟨fun _ _ => trivial, ?_⟩
  rw [show Oper.semAt (Fence.wide.inRound l).round a.eval o = execOp a.eval o from Oper.semAt_some l _ _ hd]
  unfold Oper.wp at h
  generalize (execOp a.eval o).run P w = r at *
  cases r with
  | ok x w' =>
    cases x <;> simp only [Oper.upon, Oper.uponIn] at h ⊢ <;> first
      | exact h
      | exact ⟨fun e => (by cases e), CallsIn.inRound l (callsIn_wide.2 h)⟩
      | exact ⟨fun e => (by cases e), fun c cs _ => let ⟨v, w', r, s⟩ := h c cs; ⟨v, w', r, stepsIn_wide.2 s⟩⟩
      | exact h.elim
  | halt x w' => cases x <;> simp only [Oper.upon, Oper.uponIn] at h ⊢ <;> exact h
/-- No operation is a defer statement. -/
def noDefer (ops : Array Oper) : Bool := ops.all fun o => match o.op with | .defer _ => false | _ => true
theorem noDefer_at (h : noDefer ops = true) {i : Nat} {o : Oper} (ho : ops[i]? = some o) : ∀ c, o.op ≠ .defer c := by
  intro c e
  obtain ⟨hi, rfl⟩ := Array.getElem?_eq_some_iff.1 ho
  have := Array.all_eq_true.1 h i hi
  rw [e] at this
  cases this
theorem wpOp_in {i : Nat} {K : Act → World → Prop} {a : Act} {w : World} (hd : noDefer ops = true) (hq : ¬ LetsOut Q) (h : wpOp P ops Q i K a w) : wpOpIn (Fence.wide.inRound l) n P ops Q i K a w := by
  unfold wpOp at h
  unfold wpOpIn
  cases ho : ops[i]? with
  | none => rw [ho] at h; exact h
  | some o =>
    rw [ho] at h
    dsimp only at h ⊢
    by_cases hw : Region.wanted o (yielded ops a.tmps) = true
    · rw [if_pos hw] at h ⊢
      rcases h with h | h
      · exact op_in (noDefer_at hd ho) h
      · exact absurd h.2 hq
    · rw [if_neg hw] at h ⊢
      exact ⟨fun _ _ => trivial, h⟩
end

/-- The region in a round, in whatever order. -/
theorem regionIn_inv {P : Program} {ops : Array Oper} {Q : Exit → Act → World → Prop} {id l n : Nat} {a : Act} {w : World} (hm : P.follows .mixedOrders = true) (hg : goesBack ops = true) (hd : noDefer ops = true) (hq : ¬ LetsOut Q) (Inv : (Nat → Bool) → Act → World → Prop)
    (hstep : ∀ s a w i o, ops[i]? = some o → s i = false → (∀ e ∈ o.after, Region.binds .any e = true → s e.on = true) → Inv s a w → wpOp P ops Q i (fun a' w' => Inv (more s i) a' w') a w)
    (hend : ∀ s a w, (∀ i, i < ops.size → s i = true) → Inv s a w → Q .normal a w)
    (h0 : Inv (fun _ => false) a { w with drawn := w.drawn + 1 }) : (Code.region id ops true).wpIn (Fence.wide.inRound l) n P Q a w := by
  have key : ∀ fuel (L : Array Bool) a w, L.size = ops.size → leftN (fun j => L.getD j false) ops.size ≤ fuel → Inv (fun j => L.getD j false) a w → wpAnyIn (Fence.wide.inRound l) n P .any ops Q fuel L a w := by
    intro fuel
    induction fuel with
    | zero =>
      intro L a w hs hf h
      have hall := left_zero _ _ (Nat.le_zero.1 hf)
      refine ⟨?_, hend _ _ _ hall h⟩
      cases hr : Region.ready .any ops L with
      | nil => rfl
      | cons i rs =>
        have hi := ready_parts hs (i := i) (by rw [hr]; exact List.mem_cons_self)
        have := hall i hi.1
        rw [hi.2.1] at this
        cases this
    | succ fuel ih =>
      intro L a w hs hf h
      refine ⟨fun hr => hend _ _ _ (ready_none hg hs hr) h, fun i hi => ?_⟩
      obtain ⟨h1, h2, h3⟩ := ready_parts hs hi
      refine wpOpIn_mono ?_ (wpOp_in hd hq (hstep _ a w i ops[i] (Array.getElem?_eq_getElem h1) h2 (h3 _ (Array.getElem?_eq_getElem h1)) h))
      intro a' w' h'
      refine ih _ _ _ (by simpa using hs) ?_ ?_
      · rw [getD_more (by omega)]
        have := left_more (fun j => L.getD j false) ops.size h1 h2
        omega
      · rw [getD_more (by omega)]; exact h'
  refine wpIn_region_any hm (key _ _ _ _ (by simp) ?_ ?_)
  · have : ∀ n (s : Nat → Bool), leftN s n ≤ n := fun n s => by
      induction n with
      | zero => exact Nat.le_refl _
      | succ n ih => unfold leftN; split <;> omega
    exact this _ _
  · have e : (fun j => (Array.replicate ops.size false).getD j false) = fun _ => false := by
      funext j
      simp only [Array.getD]
      split <;> simp
    rw [e]
    exact h0

end Go.Proofs.YtbhnbkcokhfopaaGreat
