import Derived.Test.YtbhnbkcokhfopaaGreatPk11
import Derived.Test.YtbhnbkcokhfopaaGreatPk18
import Derived.Deep.LoopGhost
import Derived.Deep.QuietTactic
import Derived.BigQuiet
import Derived.Lib.Hide
import Derived.Test.YtbhnbkcokhfopaaGreatPk13
import Derived.Test.YtbhnbkcokhfopaaGreatPk3
import Derived.Test.YtbhnbkcokhfopaaGreatPk15

/-
  What the document's own Common comes to, as a call.
-/
namespace Go.Proofs.YtbhnbkcokhfopaaGreat
open Go.RowKit Go.Maps

theorem Tryz.rpairInfo : (Tryz.prog.info? 103).map (fun i => (i.zero, i.size, i.bytes)) = some (some (.agg #[.int .i64 0, .int .i64 0]), 2, 16) := by kernel_rfl
theorem next_room {a b : List ByteArray} {i k left : Nat} (h : tabB a b i k = left + 1) : i < a.length ∧ k < b.length := by
  constructor
  · rcases Nat.lt_or_ge i a.length with h1 | h1
    · exact h1
    · rw [tabB_left h1] at h; omega
  · rcases Nat.lt_or_ge k b.length with h1 | h1
    · exact h1
    · rw [tabB_right h1] at h; omega

set_option maxRecDepth 100000 in
set_option maxHeartbeats 3200000 in
theorem refCommon6_any (A B : Option Addr) (n c m d : Nat) (la lb : List ByteArray) (w : World) (ha : Row w A n la) (hb : Row w B m lb) (hn : n ≤ 200) (hm : m ≤ 200) :
    Calls Tryz.prog 57 #[.slice A n c, .slice B m d] w (GivesPairs 103 (commonL la lb) w) := by
  have hna := ha.len; have hnb := hb.len
  have HC := Lib.hid (common_small (a := la) (b := lb) (by omega) (by omega))
  have HT1 := Lib.hid (turned_any A n c la w ha (by omega))
  have hle := tabB_le la lb 0 0
  rw [hna] at hle
  have HA := Lib.hid ha; have HB := Lib.hid hb
  clear ha hb hna hnb
  obtain ⟨i0, hi, hz0, hz1, hz2⟩ := info_parts Tryz.rpairInfo
  go_enter Tryz.func57, Tryz.ntmps57
  go_wp2_with fail
  refine HT1.out.mono ?_
  rintro e w1 ⟨v1, rfl, ho1⟩
  obtain ⟨A1, c1, hv1, hc1, hr1⟩ := ho1.row
  rw [List.length_reverse, HA.out.len] at hv1 hc1 hr1
  subst hv1
  have HT2 := Lib.hid (turned_any B m d lb w1 (HB.out.later ho1.later) (by omega))
  have HR1 := Lib.hid hr1; have HL1 := Lib.hid ho1.later
  clear ho1 hr1 HT1
  go_wp2_with fail
  refine HT2.out.mono ?_
  rintro e w2 ⟨v2, rfl, ho2⟩
  obtain ⟨A2, c2, hv2, hc2, hr2⟩ := ho2.row
  rw [List.length_reverse, HB.out.len] at hv2 hc2 hr2
  subst hv2
  have HM := Lib.hid (most_any A1 A2 n c1 m c2 la.reverse lb.reverse w2 (HR1.out.later ho2.later) hr2 (by omega) (by omega))
  have HL2 := Lib.hid (HL1.out.trans ho2.later)
  clear ho2 hr2 HT2
  go_wp2_with fail
  refine HM.out.mono ?_
  rintro e w3 ⟨C, ce, rfl, hce, ht, hl3⟩
  have HTB : Hid (TabAt w3 C (n + 1) (m + 1) 0 (fun i k => tabB la lb (n - i) (m - k))) := by
    intro i h1 h2
    obtain ⟨b, o, g, c', h3, h4, h5⟩ := ht i h1 h2
    refine ⟨b, o, g, c', h3, h4, fun j hj => ?_⟩
    rw [h5 j hj, tabM_turned, HA.out.len, HB.out.len]
  have HL3 := Lib.hid (HL2.out.trans hl3)
  clear ht hl3 HM HR1
  obtain ⟨bt, ot, gt, ct, rfl, t1, t2⟩ := HTB.out n (Nat.zero_le _) (by omega)
  replace t2 := t2 m (by omega)
  simp only [Nat.sub_self] at t2
  generalize htot : tabB la lb 0 0 = tot at t2 HC hle
  have HTOT := Lib.hid htot
  clear htot
  go_wp2
  clear t1 t2
  go_loopg [6, 7, 8, 9] (tot + 1) (fun g s6 s7 s8 s9 wr => ∃ (i k left : Nat) (acc : List (Nat × Nat)) (v : Value), left ≤ g ∧ s6 = .int .i64 (left : Nat) ∧ s7 = v ∧ s8 = .int .i64 (i : Nat) ∧ s9 = .int .i64 (k : Nat) ∧ acc.length + left = tot ∧ i ≤ n ∧ k ≤ m ∧ Hid (OwnK 103 2 w3 wr v (pairsV acc)) ∧ Hid (acc ++ commonGo la lb left i k = commonL la lb) ∧ Hid (tabB la lb i k = left))
  case atStart => exact ⟨0, 0, tot, [], _, by omega, rfl, rfl, rfl, rfl, by simp, Nat.zero_le _, Nat.zero_le _, OwnK.nil (Later.refl _), by rw [List.nil_append]; exact HC.out.symm, HTOT.out⟩
  case round =>
    obtain ⟨i, k, left, acc, v, hg, rfl, hv, rfl, rfl, hacc, hi', hk', hO, hEq, hT⟩ := hrel
    obtain rfl := hv.symm
    clear hv
    cases left with
    | zero =>
      have HE : Hid (commonL la lb = acc) := by
        have := hEq.out
        simp only [commonGo, List.append_nil] at this
        exact this.symm
      go_wp2
      go_ret
      exact ⟨v, rfl, by rw [HE.out]; exact hO.out.base HL3.out⟩
    | succ left =>
      obtain ⟨xf, yf, hxy, hix, hky, hxa, hyb, ht2, hgo⟩ := common_next hT.out
      obtain ⟨hin, hkn⟩ := next_room hT.out
      rw [HA.out.len] at hin hxa
      rw [HB.out.len] at hkn hyb
      have HXY := Lib.hid hxy; have HGO := Lib.hid hgo; have HT2 := Lib.hid ht2
      clear hxy hgo ht2
      rw [show ((left + 1 : Nat) : Int) = (left : Int) + 1 from by omega]
      go_wp2
      go_loopg [10, 11] ((n - i) * (m + 1) + (m - k) + 1) (fun g s10 s11 wq => ∃ x y : Nat, (n - x) * (m + 1) + (m - y) ≤ g ∧ s10 = .int .i64 (x : Nat) ∧ s11 = .int .i64 (y : Nat) ∧ i ≤ x ∧ k ≤ y ∧ x < n ∧ y < m ∧ Hid (NoneYet la lb (left + 1) i k x y) ∧ Hid (OwnK 103 2 w3 wq v (pairsV acc)))
      case atStart => exact ⟨i, k, by omega, rfl, rfl, Nat.le_refl _, Nat.le_refl _, hin, hkn, NoneYet.start, hO⟩
      case round =>
        obtain ⟨x, y, hgx, rfl, rfl, hx', hy', hxn, hym, hno, hO'⟩ := hrel
        clear hO
        obtain ⟨ba, oa, rfl, d1⟩ := (HA.out.later (HL3.out.trans hO'.out.later)).get (k := x) hxn
        obtain ⟨bb, ob, rfl, d2⟩ := (HB.out.later (HL3.out.trans hO'.out.later)).get (k := y) hym
        obtain ⟨u, hu⟩ : ∃ u : Nat, (n : Int) - x - 1 = u := ⟨n - x - 1, by omega⟩
        obtain ⟨z, hz⟩ : ∃ z : Nat, (m : Int) - y - 1 = z := ⟨m - y - 1, by omega⟩
        obtain ⟨bt', ot', gt', ct', e0, t1, t2⟩ := (HTB.out.later hO'.out.later) u (Nat.zero_le _) (by omega)
        cases e0
        replace t2 := t2 z (by omega)
        dsimp only at t2
        rw [show n - u = x + 1 from by omega, show m - z = y + 1 from by omega] at t2
        have hbig := tabB_le la lb (x + 1) (y + 1)
        rw [HA.out.len] at hbig
        have HG := Lib.hid (good_is (a := la) (b := lb) x y (left + 1))
        generalize tabB la lb (x + 1) (y + 1) = tv at t2 hbig HG
        have hun : u < n + 1 := by omega
        have hzm : z < m + 1 := by omega
        by_cases he : la.getD x ByteArray.empty = lb.getD y ByteArray.empty
        · have hq : ((la.getD x ByteArray.empty).toList == (lb.getD y ByteArray.empty).toList) = true := by rw [text_beq]; simp only [he, decide_true]
          have hq' : ((la.getD x ByteArray.empty).toList != (lb.getD y ByteArray.empty).toList) = false := by unfold bne; rw [hq]; rfl
          by_cases ht : tv = left
          · have HGD : Hid (goodAt la lb (left + 1) x y = true) := by
              show _ = true
              rw [HG.out, he, ht]; simp
            have hxy2 : (x, y) = (xf, yf) := Option.some.inj ((next_is hno.out hx' hy' (by rw [HA.out.len]; omega) (by rw [HB.out.len]; omega) HGD.out).symm.trans HXY.out)
            obtain ⟨hx1, hy1⟩ := Prod.mk.inj hxy2
            subst hx1
            subst hy1
            generalize la.getD x ByteArray.empty = xa at d1 hq hq'
            generalize lb.getD y ByteArray.empty = xb at d2 hq hq'
            subst ht
            have hq2 : (((tv : Int) + 1) != ((tv : Int) + 1)) = false := by simp
            clear he HG HGD hxy2
            go_wp2
            go_region
            have hlb : Later wr.drew (wr.drew.alloc (.cells #[.int .i64 (x : Nat), .int .i64 (y : Nat)] 103)) := (Later.refl _).alloc _
            have HO2 := Lib.hid ((hO'.out.on (Later.refl wr).drew).on hlb)
            have HR2 : Hid (RowK 2 (wr.drew.alloc (.cells #[.int .i64 (x : Nat), .int .i64 (y : Nat)] 103)) (some ⟨wr.drew.heap.size, 0, none⟩) 1 [[.int .i64 (x : Nat), .int .i64 (y : Nat)]]) := RowK.one wr.drew [.int .i64 (x : Nat), .int .i64 (y : Nat)] 103
            clear hO' d1 d2 t1 t2 hu hz hlb
            generalize wr.drew = wy at HO2 HR2 ⊢
            go_wp2_with (at_builtin; refine Hid.out ?_)
            refine Lib.hid (wpList_append_rowK5 rfl _ _ 101 rfl i0 _ 16 Tryz.underlying101 hi hz0 hz1 hz2 rfl (by decide) HO2.out rfl _ _ 1 1 _ rfl HR2.out (by decide) (by simp [Value.oneCell']) (by rw [pairsV_length]; omega) (by decide) ?_)
            intro v4 w4 ho4 hg4 h5
            have HO4 : Hid (OwnK 103 2 w3 w4 v4 (pairsV (acc ++ [(x, y)]))) := by
              show OwnK _ _ _ _ _ _
              rw [pairsV_append]
              exact ho4
            have HEQ2 : Hid ((acc ++ [(x, y)]) ++ commonGo la lb tv (x + 1) (y + 1) = commonL la lb) := by
              show _ = _
              rw [← hEq.out, HGO.out, List.append_assoc]
              rfl
            clear ho4 hg4 h5 HO2 HR2
            go_wp2
            go_roundg tv
            case measure => omega
            case rel => exact ⟨x + 1, y + 1, tv, acc ++ [(x, y)], v4, Nat.le_refl _, by go_num, rfl, by go_num, by go_num, by simp; omega, by omega, by omega, HO4, HEQ2, HT2⟩
          · have hq2 : (((tv : Int) + 1) != ((left : Int) + 1)) = true := by simp; omega
            have HNX := Lib.hid (hno.out.step (by rw [HG.out, decide_eq_false (show ¬ tv + 1 = left + 1 from by omega)]; simp))
            generalize la.getD x ByteArray.empty = xa at d1 hq hq'
            generalize lb.getD y ByteArray.empty = xb at d2 hq hq'
            clear he HG ht
            go_wp2
            go_region
            have HO2 := Lib.hid (hO'.out.on (Later.refl wr).drew)
            clear hO' d1 d2 t1 t2 hu hz
            generalize wr.drew = wy at HO2 ⊢
            by_cases hend : y + 1 = m
            · have HNY := Lib.hid (HNX.out.next (by rw [HB.out.len]; omega))
              have hmr := (HNX.out.more hT.out).2 (by rw [HB.out.len]; omega)
              rw [HA.out.len] at hmr
              have hms : (n - x) * (m + 1) = (n - (x + 1)) * (m + 1) + (m + 1) := by rw [show n - x = (n - (x + 1)) + 1 from by omega, Nat.add_mul, Nat.one_mul]
              have hd : (((y : Int) + 1) == (m : Int)) = true := by simp; omega
              go_wp2
              go_roundg ((n - (x + 1)) * (m + 1) + (m - k))
              case measure => omega
              case rel => exact ⟨x + 1, k, Nat.le_refl _, by go_num, rfl, by omega, Nat.le_refl _, hmr, hkn, HNY, HO2⟩
            · have hd : (((y : Int) + 1) == (m : Int)) = false := by simp; omega
              go_wp2
              go_roundg ((n - x) * (m + 1) + (m - (y + 1)))
              case measure => omega
              case rel => exact ⟨x, y + 1, Nat.le_refl _, rfl, by go_num, hx', by omega, hxn, by omega, HNX, HO2⟩
        · have hq : ((la.getD x ByteArray.empty).toList == (lb.getD y ByteArray.empty).toList) = false := text_ne he
          have hq' : ((la.getD x ByteArray.empty).toList != (lb.getD y ByteArray.empty).toList) = true := by unfold bne; rw [hq]; rfl
          have HNX := Lib.hid (hno.out.step (by rw [HG.out, decide_eq_false he]; simp))
          generalize la.getD x ByteArray.empty = xa at d1 hq hq'
          generalize lb.getD y ByteArray.empty = xb at d2 hq hq'
          clear he HG
          go_wp2
          go_region
          have HO2 := Lib.hid (hO'.out.on (Later.refl wr).drew)
          clear hO' d1 d2 t1 t2 hu hz
          generalize wr.drew = wy at HO2 ⊢
          by_cases hend : y + 1 = m
          · have HNY := Lib.hid (HNX.out.next (by rw [HB.out.len]; omega))
            have hmr := (HNX.out.more hT.out).2 (by rw [HB.out.len]; omega)
            rw [HA.out.len] at hmr
            have hms : (n - x) * (m + 1) = (n - (x + 1)) * (m + 1) + (m + 1) := by rw [show n - x = (n - (x + 1)) + 1 from by omega, Nat.add_mul, Nat.one_mul]
            have hd : (((y : Int) + 1) == (m : Int)) = true := by simp; omega
            go_wp2
            go_roundg ((n - (x + 1)) * (m + 1) + (m - k))
            case measure => omega
            case rel => exact ⟨x + 1, k, Nat.le_refl _, by go_num, rfl, by omega, Nat.le_refl _, hmr, hkn, HNY, HO2⟩
          · have hd : (((y : Int) + 1) == (m : Int)) = false := by simp; omega
            go_wp2
            go_roundg ((n - x) * (m + 1) + (m - (y + 1)))
            case measure => omega
            case rel => exact ⟨x, y + 1, Nat.le_refl _, rfl, by go_num, hx', by omega, hxn, by omega, HNX, HO2⟩

end Go.Proofs.YtbhnbkcokhfopaaGreat

/-
  Operations of a region that draws its order, over the document's rows of pairs and of prims: an index, a field, a load, a cut, a prim that is built, a slice of one, append.
-/
namespace Go.Proofs.YtbhnbkcokhfopaaGreat
open Go.RowKit Go.Maps

theorem Tryz.rprimInfo6 : (Tryz.prog.info? 70).map (fun i => (i.zero, i.size, i.bytes)) = some (some (.agg #[.int .i64 0, .string ByteArray.empty, .string ByteArray.empty, .int .i64 0, .slice none 0 0, .slice none 0 0]), 6, 96) := by kernel_rfl
/-- Where a row begins that is cut out of another one. -/
def cutA (A : Option Addr) (c f : Nat) : Option Addr := if c = f then A else A.map (·.add f)
theorem Row.cutA {w : World} {A : Option Addr} {n c f t : Nat} {l : List ByteArray} (h : Row w A n l) (hft : f ≤ t) (ht : t ≤ n) (hc : n ≤ c) : Row w (cutA A c f) (t - f) (gapL l f t) := by
  have := h.piece (f := f) (t := t) (m := c) hft ht (by omega)
  rw [Nat.mul_one] at this
  exact this
section
variable {ops : Array Oper} {Q : Exit → Act → World → Prop} {K : Act → World → Prop} {i : Nat} {dst : Option Tmp} {js : List Nat} {a : Act} {w w0 : World}
theorem OpIs.indexQ {j k : Tmp} {g o n c m : Nat} (h : OpIs ops i (.indexAddr 101 (.tmp j) (.tmp k)) dst js) (hj : a.eval (.tmp j) = .slice (some ⟨g, o, none⟩) n c) (hk' : a.eval (.tmp k) = .int .i64 (m : Nat)) (hm : m < n) (hk : K (a.put dst (.pointer (some ⟨g, o + m * 2, none⟩))) w) : wpOp Tryz.prog ops Q i K a w :=
  h.go fun op h1 h2 => by
    have hr : (execOp a.eval op).run Tryz.prog w = .ok (.value (.pointer (some ⟨g, o + m * 2, none⟩))) w := by
      unfold execOp
      rw [h1]
      simp only [hj, hk']
      go_simp
    unfold Oper.wp
    rw [hr]
    show K _ _
    rw [h2]
    exact hk
theorem OpIs.fieldQ {k : Tmp} {f g o : Nat} (h : OpIs ops i (.fieldAddr 103 (.tmp k) f) dst js) (hf : f < 2) (he : a.eval (.tmp k) = .pointer (some ⟨g, o, none⟩)) (hk : K (a.put dst (.pointer (some ⟨g, o + f, none⟩))) w) : wpOp Tryz.prog ops Q i K a w :=
  h.go fun op h1 h2 => by
    have hr : (execOp a.eval op).run Tryz.prog w = .ok (.value (.pointer (some ⟨g, o + f, none⟩))) w := by
      unfold execOp
      rw [h1]
      simp only [he]
      rcases (by omega : f = 0 ∨ f = 1) with rfl | rfl <;> go_simp
    unfold Oper.wp
    rw [hr]
    show K _ _
    rw [h2]
    exact hk
theorem OpIs.loadI {k : Tmp} {g o : Nat} {x : Int} (h : OpIs ops i (.load 3 (.tmp k)) dst js) (he : a.eval (.tmp k) = .pointer (some ⟨g, o, none⟩)) (hc : w.cell? ⟨g, o, none⟩ = some (.int .i64 x)) (hk : K (a.put dst (.int .i64 x)) w) : wpOp Tryz.prog ops Q i K a w :=
  h.go fun op h1 h2 => by
    have hr : (execOp a.eval op).run Tryz.prog w = .ok (.value (.int .i64 x)) w := by
      unfold execOp
      rw [h1]
      simp only [he]
      go_simp
    unfold Oper.wp
    rw [hr]
    show K _ _
    rw [h2]
    exact hk
/-- A row cut out of another one. -/
theorem OpIs.cutL {j k m : Tmp} {A : Option Addr} {n c f t : Nat} (h : OpIs ops i (.slice 45 (.tmp j) (some (.tmp k)) (some (.tmp m)) none) dst js) (hj : a.eval (.tmp j) = .slice A n c) (hk' : a.eval (.tmp k) = .int .i64 (f : Nat)) (hm : a.eval (.tmp m) = .int .i64 (t : Nat)) (hft : f ≤ t) (htn : t ≤ n) (hc : n ≤ c)
    (hk : K (a.put dst (.slice (cutA A c f) (t - f) (c - f))) w) : wpOp Tryz.prog ops Q i K a w :=
  h.go fun op h1 h2 => by
    have hr : (execOp a.eval op).run Tryz.prog w = .ok (.value (.slice (cutA A c f) (t - f) (c - f))) w := by
      unfold execOp cutA
      rw [h1]
      simp only [Option.map_some, hj, hk', hm]
      go_simp
      exact fun h => absurd h (by omega)
    unfold Oper.wp
    rw [hr]
    show K _ _
    rw [h2]
    exact hk
theorem OpIs.buildH {j k l m : Tmp} {nm : ByteArray} {z : Int} {A B : Option Addr} {n c p d : Nat} (h : OpIs ops i (.build 70 #[(1, .tmp j), (3, .tmp k), (4, .tmp l), (5, .tmp m)]) dst js) (hj : a.eval (.tmp j) = .string nm) (hk' : a.eval (.tmp k) = .int .i64 z) (hl : a.eval (.tmp l) = .slice A n c) (hm : a.eval (.tmp m) = .slice B p d)
    (hk : K (a.put dst (.agg #[.int .i64 0, .string nm, .string ByteArray.empty, .int .i64 z, .slice A n c, .slice B p d])) w) : wpOp Tryz.prog ops Q i K a w :=
  h.go fun op h1 h2 => by
    have hr : (execOp a.eval op).run Tryz.prog w = .ok (.value (.agg #[.int .i64 0, .string nm, .string ByteArray.empty, .int .i64 z, .slice A n c, .slice B p d])) w := by
      unfold execOp
      rw [h1]
      simp only [hj, hk', hl, hm, List.map_toArray, List.map_cons, List.map_nil]
      go_simp
      rfl
    unfold Oper.wp
    rw [hr]
    show K _ _
    rw [h2]
    exact hk
theorem OpIs.build1R {k : Tmp} {x : PrC} (h : OpIs ops i (.buildSlice 34 1 #[(0, .tmp k)]) dst js) (hv : a.eval (.tmp k) = prV x) (hk : K (a.put dst (.slice (some ⟨w.heap.size, 0, none⟩) 1 1)) (w.alloc (.cells (prL x).toArray 70))) : wpOp Tryz.prog ops Q i K a w :=
  h.go fun o h1 h2 => by
    have hr : (execOp a.eval o).run Tryz.prog w = .ok (.value (.slice (some ⟨w.heap.size, 0, none⟩) 1 1)) (w.alloc (.cells (prL x).toArray 70)) := by
      unfold prV at hv
      unfold execOp
      rw [h1]
      simp only [hv, List.map_toArray, List.map_cons, List.map_nil]
      go_simp
      rfl
    unfold Oper.wp
    rw [hr]
    show K _ _
    rw [h2]
    exact hk
theorem OpIs.appendR {j k : Tmp} {v : Value} {xs ys : List PrC} {A : Option Addr} {m c : Nat} (h : OpIs ops i (.call { callee := .builtin .append, args := #[.tmp j, .tmp k], argTypes := #[34, 34] }) dst js) (hj : a.eval (.tmp j) = v) (hv : a.eval (.tmp k) = .slice A m c)
    (hown : OwnPs 70 w0 w v xs) (hr : RowK 6 w A m (ys.map prL)) (hok : ∀ y ∈ ys, PrOk w y) (haw : ∀ y ∈ ys, ∀ g, v.ownBlock = some g → Away g y) (hb : xs.length + m ≤ 1000000)
    (hk : ∀ v' w', OwnPs 70 w0 w' v' (xs ++ ys) → w.grownBy w' v.ownBlock → K (a.put dst v') w') : wpOp Tryz.prog ops Q i K a w :=
  h.go fun o h1 h2 => by
    obtain ⟨i0, hi, hz0, hz1, hz2⟩ := info_parts Tryz.rprimInfo6
    obtain ⟨v', w', hrun, ho, hg⟩ := run_append_ps (P := Tryz.prog) 34 o.type i0 _ 96 Tryz.underlying34 hi hz0 hz1 hz2 rfl hown A m c ys hr hok haw hb (by omega)
    unfold Oper.wp execOp
    simp only [h1, resolve, invoke, builtin, Sem.run_bind, Sem.run_pure, Result.andThen_ok, List.map_toArray, List.map_cons, List.map_nil, hj, hv, hrun]
    show K _ _
    rw [h2]
    exact hk v' w' ho hg
end

end Go.Proofs.YtbhnbkcokhfopaaGreat

/-
  Operations of a region that draws its order, over the document's trees: a file's name and lines; a call with three arguments; a prim of a name alone; append, and where the row lies then.
-/
namespace Go.Proofs.YtbhnbkcokhfopaaGreat
open Go.RowKit Go.Maps

section
variable {ops : Array Oper} {Q : Exit → Act → World → Prop} {K : Act → World → Prop} {i : Nat} {dst : Option Tmp} {js : List Nat} {a : Act} {w w0 : World}
theorem OpIs.indexT {j k : Tmp} {g o n c m : Nat} (h : OpIs ops i (.indexAddr 27 (.tmp j) (.tmp k)) dst js) (hj : a.eval (.tmp j) = .slice (some ⟨g, o, none⟩) n c) (hk' : a.eval (.tmp k) = .int .i64 (m : Nat)) (hm : m < n) (hk : K (a.put dst (.pointer (some ⟨g, o + m * 2, none⟩))) w) : wpOp Tryz.prog ops Q i K a w :=
  h.go fun op h1 h2 => by
    have hr : (execOp a.eval op).run Tryz.prog w = .ok (.value (.pointer (some ⟨g, o + m * 2, none⟩))) w := by
      unfold execOp
      rw [h1]
      simp only [hj, hk']
      go_simp
    unfold Oper.wp
    rw [hr]
    show K _ _
    rw [h2]
    exact hk
theorem OpIs.fieldT {k : Tmp} {f g o : Nat} (h : OpIs ops i (.fieldAddr 62 (.tmp k) f) dst js) (hf : f < 2) (he : a.eval (.tmp k) = .pointer (some ⟨g, o, none⟩)) (hk : K (a.put dst (.pointer (some ⟨g, o + f, none⟩))) w) : wpOp Tryz.prog ops Q i K a w :=
  h.go fun op h1 h2 => by
    have hr : (execOp a.eval op).run Tryz.prog w = .ok (.value (.pointer (some ⟨g, o + f, none⟩))) w := by
      unfold execOp
      rw [h1]
      simp only [he]
      rcases (by omega : f = 0 ∨ f = 1) with rfl | rfl <;> go_simp
    unfold Oper.wp
    rw [hr]
    show K _ _
    rw [h2]
    exact hk
theorem OpIs.loadN {k : Tmp} {g o : Nat} {s : ByteArray} (h : OpIs ops i (.load 9 (.tmp k)) dst js) (he : a.eval (.tmp k) = .pointer (some ⟨g, o, none⟩)) (hc : w.cell? ⟨g, o, none⟩ = some (.string s)) (hk : K (a.put dst (.string s)) w) : wpOp Tryz.prog ops Q i K a w :=
  h.go fun op h1 h2 => by
    have hr : (execOp a.eval op).run Tryz.prog w = .ok (.value (.string s)) w := by
      unfold execOp
      rw [h1]
      simp only [he]
      go_simp
    unfold Oper.wp
    rw [hr]
    show K _ _
    rw [h2]
    exact hk
theorem OpIs.loadL {k : Tmp} {g o : Nat} {A : Option Addr} {n c : Nat} (h : OpIs ops i (.load 45 (.tmp k)) dst js) (he : a.eval (.tmp k) = .pointer (some ⟨g, o, none⟩)) (hc : w.cell? ⟨g, o, none⟩ = some (.slice A n c)) (hk : K (a.put dst (.slice A n c)) w) : wpOp Tryz.prog ops Q i K a w :=
  h.go fun op h1 h2 => by
    have hr : (execOp a.eval op).run Tryz.prog w = .ok (.value (.slice A n c)) w := by
      unfold execOp
      rw [h1]
      simp only [he]
      go_simp
    unfold Oper.wp
    rw [hr]
    show K _ _
    rw [h2]
    exact hk
theorem OpIs.call3 {f : FuncId} {x y z : Operand} {t s r : TypeId} {v u q : Value} {Post : Ending → World → Prop} (h : OpIs ops i (.call { callee := .value (.func f), args := #[x, y, z], argTypes := #[t, s, r] }) dst js) (hf : ∀ args w, (callFunc f args).run Tryz.prog w = .ok (.enter f args) w)
    (he : a.eval x = v) (he2 : a.eval y = u) (he3 : a.eval z = q) (hc : Calls Tryz.prog f #[v, u, q] w Post) (hk : ∀ e w', Post e w' → ∃ r, e = .returned r ∧ K (a.put dst r) w') : wpOp Tryz.prog ops Q i K a w :=
  h.go fun o h1 h2 => by
    have hr : (execOp a.eval o).run Tryz.prog w = .ok (.enter f #[v, u, q]) w := by
      unfold execOp
      rw [h1]
      simp only [resolve, invoke, Sem.run_bind, List.map_toArray, List.map_cons, List.map_nil, he, he2, he3]
      go_simp
    unfold Oper.wp
    rw [hr]
    show Calls _ _ _ _ _
    refine hc.mono ?_
    intro e w' hp
    obtain ⟨r, rfl, hku⟩ := hk e w' hp
    dsimp only
    rw [h2]
    exact hku
theorem OpIs.buildB {j : Tmp} {nm : ByteArray} {z : Int} (h : OpIs ops i (.build 70 #[(0, .const (.int .i64 z)), (1, .tmp j)]) dst js) (hj : a.eval (.tmp j) = .string nm) (hk : K (a.put dst (prV (bareC z nm))) w) : wpOp Tryz.prog ops Q i K a w :=
  h.go fun op h1 h2 => by
    have hr : (execOp a.eval op).run Tryz.prog w = .ok (.value (prV (bareC z nm))) w := by
      unfold execOp
      rw [h1]
      simp only [hj, List.map_toArray, List.map_cons, List.map_nil]
      go_simp
      rfl
    unfold Oper.wp
    rw [hr]
    show K _ _
    rw [h2]
    exact hk
theorem OpIs.appendR5 {j k : Tmp} {v : Value} {xs ys : List PrC} {A : Option Addr} {m c : Nat} (h : OpIs ops i (.call { callee := .builtin .append, args := #[.tmp j, .tmp k], argTypes := #[34, 34] }) dst js) (hj : a.eval (.tmp j) = v) (hv : a.eval (.tmp k) = .slice A m c)
    (hown : OwnPs 70 w0 w v xs) (hr : RowK 6 w A m (ys.map prL)) (hok : ∀ y ∈ ys, PrOk w y) (haw : ∀ y ∈ ys, ∀ g, v.ownBlock = some g → Away g y) (hb : xs.length + m ≤ 1000000)
    (hk : ∀ v' w', OwnPs 70 w0 w' v' (xs ++ ys) → w.grownBy w' v.ownBlock → (v'.ownBlock = v.ownBlock ∨ v'.ownBlock = some w.heap.size) → K (a.put dst v') w') : wpOp Tryz.prog ops Q i K a w :=
  h.go fun o h1 h2 => by
    obtain ⟨i0, hi, hz0, hz1, hz2⟩ := info_parts Tryz.rprimInfo6
    obtain ⟨v', w', hrun, ho, hg, h5⟩ := run_append_ps5 (P := Tryz.prog) 34 o.type i0 _ 96 Tryz.underlying34 hi hz0 hz1 hz2 rfl hown A m c ys hr hok haw hb (by omega)
    unfold Oper.wp execOp
    simp only [h1, resolve, invoke, builtin, Sem.run_bind, Sem.run_pure, Result.andThen_ok, List.map_toArray, List.map_cons, List.map_nil, hj, hv, hrun]
    show K _ _
    rw [h2]
    exact hk v' w' ho hg h5
end

/-- Three rows of the call's own, of prims whose lines stood at wb; the first one may grow. -/
structure Tri (wb V : World) (v u c : Value) (ys zs cs : List PrC) : Prop where
  o1 : OwnPs 70 wb V v ys
  o2 : OwnPs 70 wb V u zs
  o3 : OwnPs 70 wb V c cs
  k1 : ∀ y ∈ ys, PrOk wb y
  k2 : ∀ y ∈ zs, PrOk wb y
  k3 : ∀ y ∈ cs, PrOk wb y
  n12 : ∀ g, v.ownBlock = some g → u.ownBlock ≠ some g
  n13 : ∀ g, v.ownBlock = some g → c.ownBlock ≠ some g
  n23 : ∀ g, u.ownBlock = some g → c.ownBlock ≠ some g
section
variable {wb V V' : World} {v v' u c : Value} {ys zs cs news : List PrC}
theorem Tri.later (h : Tri wb V v u c ys zs cs) : Later wb V := h.o1.later
theorem Tri.on (h : Tri wb V v u c ys zs cs) (hl : Later V V') : Tri wb V' v u c ys zs cs := ⟨h.o1.on hl, h.o2.on hl, h.o3.on hl, h.k1, h.k2, h.k3, h.n12, h.n13, h.n23⟩
theorem Tri.swap12 (h : Tri wb V v u c ys zs cs) : Tri wb V u v c zs ys cs := ⟨h.o2, h.o1, h.o3, h.k2, h.k1, h.k3, fun g h1 h2 => h.n12 g h2 h1, h.n23, h.n13⟩
theorem Tri.swap13 (h : Tri wb V v u c ys zs cs) : Tri wb V c u v cs zs ys := ⟨h.o3, h.o2, h.o1, h.k3, h.k2, h.k1, fun g h1 h2 => h.n23 g h2 h1, fun g h1 h2 => h.n13 g h2 h1, fun g h1 h2 => h.n12 g h2 h1⟩
theorem Tri.aways (h : Tri wb V v u c ys zs cs) (hk : ∀ y ∈ news, PrOk wb y) : ∀ y ∈ news, ∀ g, v.ownBlock = some g → Away g y := fun y hy g hg => (hk y hy).away (h.o1.block g hg)
theorem own_grew {e : TypeId} {w : Value} {ws : List PrC} (ho : OwnPs e wb V w ws) (hk : ∀ y ∈ ws, PrOk wb y) (hg : V.grownBy V' v.ownBlock) (hne : ∀ g, v.ownBlock = some g → w.ownBlock ≠ some g) (hb : ∀ b, v.ownBlock = some b → wb.heap.size ≤ b) : OwnPs e wb V' w ws := by
  have hl : Later wb V' := Below.grown ho.later hg ho.later.size hb
  cases hv : v.ownBlock with
  | none => rw [hv] at hg; exact ho.on ⟨hg.os, hg.tape, hg.output, hg.size, fun i hi => hg.block i hi (by simp)⟩
  | some g => rw [hv] at hg; exact ho.other (g := g) hg (hne g hv) (fun z hz => (hk z hz).away (hb g hv)) hl
theorem Tri.grow (h : Tri wb V v u c ys zs cs) (ho : OwnPs 70 wb V' v' (ys ++ news)) (hg : V.grownBy V' v.ownBlock) (h5 : v'.ownBlock = v.ownBlock ∨ v'.ownBlock = some V.heap.size) (hk : ∀ y ∈ news, PrOk wb y) : Tri wb V' v' u c (ys ++ news) zs cs := by
  refine ⟨ho, own_grew h.o2 h.k2 hg h.n12 h.o1.block, own_grew h.o3 h.k3 hg h.n13 h.o1.block, fun y hy => ?_, h.k2, h.k3, fun g hb => ?_, fun g hb => ?_, h.n23⟩
  · rcases List.mem_append.1 hy with h1 | h1
    · exact h.k1 y h1
    · exact hk y h1
  · rcases h5 with e | e
    · rw [e] at hb; exact h.n12 g hb
    · rw [e] at hb; cases hb; intro e2; have := h.o2.lt _ e2; omega
  · rcases h5 with e | e
    · rw [e] at hb; exact h.n13 g hb
    · rw [e] at hb; cases hb; intro e2; have := h.o3.lt _ e2; omega
end

end Go.Proofs.YtbhnbkcokhfopaaGreat
