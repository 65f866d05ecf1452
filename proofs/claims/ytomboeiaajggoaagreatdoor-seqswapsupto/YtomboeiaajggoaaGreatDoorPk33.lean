import Derived.Test.YtomboeiaajggoaaGreatDoorPk13
import Derived.Test.YtomboeiaajggoaaGreatDoorPk32
import Derived.Test.YtomboeiaajggoaaGreatDoorPk20
import Derived.Test.YtomboeiaajggoaaGreatDoorPk25
import Derived.Deep.LoopGhost
import Derived.Deep.QuietTactic
import Derived.BigQuiet
import Derived.Lib.Hide
import Derived.Test.YtomboeiaajggoaaGreatDoorPk26

/-
  Two rows, one behind the other, as one row whose neighbours are swapped in place. Nothing of any program.
-/
namespace Go.Proofs.YtomboeiaajggoaaGreatDoor
open Go.RowKit

/-- The prims of l from place i on are behind m. -/
def RowI (l m : List Pr) (i : Nat) (vs : List Pr) : Prop := ∃ a b, swapS (l.drop i) m = some (a, b) ∧ vs = l.take i ++ (a ++ b)
/-- The prim of place i is behind k more. -/
def RowJ (l m : List Pr) (i k : Nat) (vs : List Pr) : Prop := ∃ a b a1 p p', swapS (l.drop (i + 1)) m = some (a, b) ∧ l[i]? = some p ∧ swap1 p (a.take k) = some (a1, p') ∧ vs = l.take i ++ (a1 ++ (p' :: (a.drop k ++ b)))
section
variable {l m vs : List Pr} {i k : Nat}
theorem RowI.start (l m : List Pr) : RowI l m l.length (l ++ m) := ⟨m, [], by simp [swapS], by simp⟩
theorem RowI.begin (h : RowI l m (i + 1) vs) (hi : i < l.length) : RowJ l m i 0 vs := by
  obtain ⟨a, b, h1, h2⟩ := h
  refine ⟨a, b, [], l[i], l[i], h1, List.getElem?_eq_getElem hi, by simp [swap1], ?_⟩
  rw [h2, List.take_succ_eq_append_getElem hi, List.drop_zero]
  simp only [List.append_assoc, List.cons_append, List.nil_append]
theorem RowJ.done (h : RowJ l m i m.length vs) : RowI l m i vs := by
  obtain ⟨a, b, a1, p, p', h1, h2, h3, h4⟩ := h
  have hl := (swapS_length h1).1
  rw [List.take_of_length_le (by omega)] at h3
  rw [List.drop_eq_nil_of_le (by omega), List.nil_append] at h4
  exact ⟨a1, p' :: b, swapS_step h1 h2 h3, h4⟩
theorem RowI.whole (h : RowI l m 0 vs) : ∃ a b, swapS l m = some (a, b) ∧ vs = a ++ b := by
  obtain ⟨a, b, h1, h2⟩ := h
  exact ⟨a, b, h1, by simpa using h2⟩
theorem RowJ.step (h : RowJ l m i k vs) (hk : k < m.length) : ∃ p y, vs[i + k]? = some p ∧ vs[i + k + 1]? = some y ∧ (swapP p y = none → swapS l m = none) ∧ (∀ y' p', swapP p y = some (y', p') → RowJ l m i (k + 1) ((vs.set (i + k) y').set (i + k + 1) p')) := by
  obtain ⟨a, b, a1, p, p', h1, h2, h3, h4⟩ := h
  have hl := (swapS_length h1).1
  have hka : k < a.length := by omega
  have hi := (List.getElem?_eq_some_iff.1 h2).1
  have hl1 : a1.length = k := by
    have := swap1_length h3
    simp only [List.length_take] at this
    omega
  have hti : (l.take i).length = i := by rw [List.length_take]; omega
  have hy := List.getElem?_eq_getElem hka
  have hd : a.drop k = a[k] :: a.drop (k + 1) := List.drop_eq_getElem_cons hka
  have hv : vs = (l.take i ++ a1) ++ (p' :: a[k] :: (a.drop (k + 1) ++ b)) := by rw [h4, hd]; simp only [List.append_assoc, List.cons_append]
  have hlen : (l.take i ++ a1).length = i + k := by rw [List.length_append, hti, hl1]
  refine ⟨p', a[k], ?_, ?_, fun hn => ?_, fun y' p'' hs => ?_⟩
  · rw [hv, List.getElem?_append_right (by omega), hlen, Nat.sub_self]; rfl
  · rw [hv, List.getElem?_append_right (by omega), hlen, show i + k + 1 - (i + k) = 1 from by omega]; rfl
  · exact swapS_stop h1 h2 (swap1_stop h3 hy hn)
  · refine ⟨a, b, a1 ++ [y'], p, p'', h1, h2, swap1_step h3 hy hs, ?_⟩
    rw [hv, List.set_append_right _ _ (by omega), hlen, Nat.sub_self, List.set_cons_zero, List.set_append_right _ _ (by omega), hlen, show i + k + 1 - (i + k) = 1 from by omega, List.set_cons_succ, List.set_cons_zero]
    simp
theorem RowJ.length (h : RowJ l m i k vs) (hk : k ≤ m.length) : vs.length = l.length + m.length := by
  obtain ⟨a, b, a1, p, p', h1, h2, h3, h4⟩ := h
  have h5 := swapS_length h1
  have hi := (List.getElem?_eq_some_iff.1 h2).1
  have h6 := swap1_length h3
  simp only [List.length_take, List.length_drop] at h5 h6
  rw [h4]
  simp only [List.length_append, List.length_cons, List.length_take, List.length_drop]
  omega
theorem RowI.length (h : RowI l m i vs) (hi : i ≤ l.length) : vs.length = l.length + m.length := by
  obtain ⟨a, b, h1, h2⟩ := h
  have h5 := swapS_length h1
  simp only [List.length_drop] at h5
  rw [h2]
  simp only [List.length_append, List.length_take]
  omega
end

end Go.Proofs.YtomboeiaajggoaaGreatDoor

/-
  What the document's own Swap of two rows comes to, as a call.
-/
namespace Go.Proofs.YtomboeiaajggoaaGreatDoor
open Go.RowKit Go.Maps

section
variable {w w' : World} {A : Option Addr} {b o n k c : Nat} {css : List (List Value)} {xs : List PrC}
theorem RowK.front {q : Nat} (h : RowK q w A n css) (hk : k ≤ n) : RowK q w A k (css.take k) := by
  have hl := h.1
  refine ⟨by rw [List.length_take]; omega, fun cs hcs => h.2.1 cs (List.mem_of_mem_take hcs), fun h0 => ?_⟩
  obtain ⟨b, o, e, hc⟩ := h.2.2 (by omega)
  refine ⟨b, o, e, fun j i cs u hj hi => hc j i cs u ?_ hi⟩
  rw [List.getElem?_take] at hj
  split at hj
  · exact hj
  · cases hj
theorem RowK.behind (h : RowK 6 w (some ⟨b, o, .none⟩) n css) (hk : k ≤ n) : RowK 6 w (some ⟨b, o + k * 6, .none⟩) (n - k) (css.drop k) := by
  have hl := h.1
  refine ⟨by rw [List.length_drop]; omega, fun cs hcs => h.2.1 cs (List.mem_of_mem_drop hcs), fun h0 => ?_⟩
  obtain ⟨b', o', e, hc⟩ := h.2.2 (by omega)
  cases e
  refine ⟨b, o + k * 6, rfl, fun j i cs u hj hi => ?_⟩
  rw [List.getElem?_drop] at hj
  have := hc (k + j) i cs u hj hi
  rw [Nat.add_mul, ← Nat.add_assoc] at this
  exact this
theorem PsOk.front (h : PsOk w A n xs) (hk : k ≤ n) : PsOk w A k (xs.take k) := ⟨by rw [List.map_take]; exact h.row.front hk, fun x hx => h.each x (List.mem_of_mem_take hx)⟩
theorem PsOk.behind (h : PsOk w (some ⟨b, o, .none⟩) n xs) (hk : k ≤ n) : PsOk w (some ⟨b, o + k * 6, .none⟩) (n - k) (xs.drop k) := ⟨by rw [List.map_drop]; exact h.row.behind hk, fun x hx => h.each x (List.mem_of_mem_drop hx)⟩
theorem valsP_get {i : Nat} {p : Pr} (h : (valsP xs)[i]? = some p) : ∃ x, xs[i]? = some x ∧ x.v = p := by
  simp only [valsP, List.getElem?_map, Option.map_eq_some_iff] at h
  exact h
end

set_option maxRecDepth 100000 in
set_option maxHeartbeats 1600000 in
theorem refSwap5_any (A B : Option Addr) (n c m d : Nat) (ls ms : List PrC) (w : World) (hls : PsOk w A n ls) (hms : PsOk w B m ms) (hn : n ≤ 400) (hm : m ≤ 400) :
    Calls Tryz.prog 22 #[.slice A n c, .slice B m d] w (Gives3 (swapS (valsP ls) (valsP ms)) w) := by
  have hln := hls.len; have hlm := hms.len
  have HLS := Lib.hid hls; have HMS := Lib.hid hms
  have HLN : Hid ((valsP ls).length = n) := Lib.hid (by rw [valsP_length, hln]); have HLM : Hid ((valsP ms).length = m) := Lib.hid (by rw [valsP_length, hlm])
  have HRL : Hid (ls.length = n) := Lib.hid hln; have HRM : Hid (ms.length = m) := Lib.hid hlm
  clear hls hms hln hlm
  obtain ⟨i0, hi, hz0, hz1, hz2⟩ := info_parts Tryz.rprimInfo
  have HO0 := Lib.hid (own_empty w 70)
  have HLB : Hid (Later w (w.alloc (.cells #[] 70))) := (Later.refl w).alloc _
  go_enter Tryz.func22, Tryz.ntmps22
  go_wp2_with (at_builtin; first
    | (refine wpList_append_ps5 rfl _ _ 22 rfl i0 _ 96 Tryz.underlying22 hi hz0 hz1 hz2 rfl HO0.out rfl _ _ _ ls rfl (HLS.out.later HLB.out).row (HLS.out.later HLB.out).each (fun z hz g hgb => (HLS.out.each z hz).away (HO0.out.block g hgb)) (by simp; omega) (by omega) ?_; intro v4 w4 hown4 hg4 hb4; have HO4 := Lib.hid hown4; clear hown4 hg4 hb4)
    | (refine wpList_append_ps5 rfl _ _ 22 rfl i0 _ 96 Tryz.underlying22 hi hz0 hz1 hz2 rfl HO4.out rfl _ _ _ ms rfl (HMS.out.later HO4.out.later).row (HMS.out.later HO4.out.later).each (fun z hz g hgb => (HMS.out.each z hz).away (HO4.out.block g hgb)) (by simp [HRL.out]; omega) (by omega) ?_; intro v5 w5 hown5 hg5 hb5; have HO5 := Lib.hid hown5; clear hown5 hg5 hb5))
  have HOW : Hid (OwnPs 70 w w5 v5 (ls ++ ms)) := HO5.out
  obtain ⟨Ar, cr, hv5, hcr, _⟩ := HOW.out.row
  rw [List.length_append, HRL.out, HRM.out] at hv5
  subst hv5
  clear HO0 HLB HO4 HO5 hcr hi hz0 hz1 hz2 i0
  go_loopg [8] (n + 1) (fun g s8 wr => ∃ (i : Nat) (xs : List PrC), i ≤ n ∧ i ≤ g ∧ s8 = .int .i64 ((i : Int) - 1) ∧ Hid (OwnPs 70 w wr (.slice Ar (n + m) cr) xs) ∧ Hid (RowI (valsP ls) (valsP ms) i (valsP xs)))
  case atStart => exact ⟨n, ls ++ ms, Nat.le_refl _, by omega, rfl, HOW, by
    have := RowI.start (valsP ls) (valsP ms)
    rw [HLN.out] at this
    rw [show valsP (ls ++ ms) = valsP ls ++ valsP ms from by simp [valsP]]
    exact this⟩
  case round =>
    obtain ⟨i, xs, hin, hig, rfl, how, hri⟩ := hrel
    rcases i with _ | i
    · obtain ⟨la, lb, hsw, hvs⟩ := hri.out.whole
      have hla := (swapS_length hsw).1
      rw [HLM.out] at hla
      have HSW := Lib.hid hsw; have HVS := Lib.hid hvs; have HPS := Lib.hid how.out.ps; have HLL := Lib.hid how.out.later; have HOW2 := how
      clear hsw hvs how hri
      rw [show ((0 : Nat) : Int) - 1 = -1 from rfl]
      have hbig : m ≤ cr ∧ n + m ≤ cr := by
        obtain ⟨A2, c2, e2, h2, _⟩ := HOW2.out.row
        simp only [Value.slice.injEq] at e2
        obtain ⟨-, e3, e4⟩ := e2
        omega
      have hlv : xs.length = n + m := by
        have := HPS.out.len
        omega
      have HTK : Hid (valsP (xs.take m) = la) := by
        show _ = _
        unfold valsP at HVS ⊢
        rw [List.map_take, HVS.out, ← hla, List.take_left']
        rfl
      have HDR : Hid (valsP (xs.drop m) = lb) := by
        show _ = _
        unfold valsP at HVS ⊢
        rw [List.map_drop, HVS.out, ← hla, List.drop_left']
        rfl
      rcases HOW2.out.own.1.2 with ⟨hv, -⟩ | ⟨g, cap, cur, hv, -⟩
      · simp only [Value.slice.injEq] at hv
        obtain ⟨rfl, hnm, rfl⟩ := hv
        obtain ⟨rfl, rfl⟩ : n = 0 ∧ m = 0 := by omega
        have HXN : Hid (xs = []) := List.eq_nil_of_length_eq_zero (by omega)
        clear HOW HOW2 HVS
        go_upto_region 13 with fail
        go_region
        go_wp2
        go_ret3
        unfold Gives3
        rw [HSW.out]
        exact ⟨_, _, rfl, ⟨_, _, _, [], rfl, Nat.le_refl _, PsOk.none _ _, by have := HTK.out; rw [HXN.out] at this; exact this⟩, ⟨_, _, _, [], rfl, Nat.le_refl _, PsOk.none _ _, by have := HDR.out; rw [HXN.out] at this; exact this⟩, HLL.out.drew⟩
      · simp only [Value.slice.injEq] at hv
        obtain ⟨rfl, -, rfl⟩ := hv
        have h1 : (m : Int) ≤ n + m := by omega
        have h2 : (m : Int) ≤ cr := by omega
        have HPD := Lib.hid (HPS.out.later (Later.refl wr).drew)
        clear HOW HOW2 HVS
        go_upto_region 13 with fail
        go_region
        go_wp2
        · go_ret3
          unfold Gives3
          rw [HSW.out]
          have hn0 : n = 0 := by omega
          refine ⟨_, _, rfl, ⟨_, _, _, _, rfl, Nat.le_refl _, HPD.out.front (by omega), HTK.out⟩, ⟨_, _, _, [], rfl, by omega, by rw [hn0]; exact PsOk.none _ _, by have := HDR.out; rw [List.drop_eq_nil_of_le (by omega)] at this; exact this⟩, HLL.out.drew⟩
        · go_ret3
          unfold Gives3
          rw [HSW.out]
          refine ⟨_, _, rfl, ⟨_, _, _, _, rfl, hbig.1, HPD.out.front (by omega), HTK.out⟩, ⟨_, _, _, _, rfl, by omega, ?_, HDR.out⟩, HLL.out.drew⟩
          have := HPD.out.behind (k := m) (by omega)
          rw [Nat.zero_add, Nat.add_sub_cancel] at this
          exact this
    · rw [show (((i + 1 : Nat) : Int) - 1) = (i : Nat) from by omega]
      go_wp2
      go_loopg [9] (m + 1) (fun g s9 wx => ∃ (k : Nat) (xs : List PrC), k ≤ m ∧ m - k ≤ g ∧ s9 = .int .i64 k ∧ Hid (OwnPs 70 w wx (.slice Ar (n + m) cr) xs) ∧ Hid (RowJ (valsP ls) (valsP ms) i k (valsP xs)))
      case atStart => exact ⟨0, xs, Nat.zero_le _, by omega, rfl, how, hri.out.begin (by rw [HLN.out]; omega)⟩
      case round =>
        obtain ⟨k, xs, hk, hg, rfl, how, hj⟩ := hrel
        by_cases hlt : k < m
        · obtain ⟨p, q, hp, hq, hno, hyes⟩ := hj.out.step (by rw [HLM.out]; exact hlt)
          obtain ⟨x, hx, rfl⟩ := valsP_get hp
          obtain ⟨y, hy, rfl⟩ := valsP_get hq
          have hown := how.out
          obtain ⟨b, o, x', hA, -, -⟩ := hown.ps.get (j := i + k) (by omega)
          subst hA
          obtain ⟨rfl, -⟩ := hown.at
          have hglt := hown.lt b rfl
          have okx := hown.ok x (List.mem_of_getElem? hx); have oky := hown.ok y (List.mem_of_getElem? hy); have awx := hown.away x (List.mem_of_getElem? hx) b rfl; have awy := hown.away y (List.mem_of_getElem? hy) b rfl
          have HROW := Lib.hid hown.ps.row
          clear hown
          cases hsw : swapP x.v y.v with
          | none =>
            have HNO := Lib.hid (hno hsw)
            clear hno hyes
            go_upto_region 8 with fail
            refine refsw_region (r := noneP) rfl (by kernel_rfl) ⟨_, rfl, rfl, rfl, rfl, by kernel_rfl⟩ ⟨_, rfl, rfl, rfl, rfl, by kernel_rfl⟩ ⟨_, rfl, rfl, rfl, rfl, by kernel_rfl⟩ ⟨_, rfl, rfl, rfl, rfl, by kernel_rfl⟩ ⟨_, rfl, rfl, rfl, rfl, by kernel_rfl⟩ ⟨_, rfl, rfl, rfl, rfl, by kernel_rfl⟩ ⟨_, rfl, rfl, rfl, rfl, by kernel_rfl⟩ ⟨_, rfl, rfl, rfl, rfl, by kernel_rfl⟩ ⟨_, rfl, rfl, rfl, rfl, by kernel_rfl⟩ ⟨_, rfl, rfl, rfl, rfl, by kernel_rfl⟩ ⟨_, rfl, rfl, rfl, rfl, by kernel_rfl⟩ ⟨_, rfl, rfl, rfl, rfl, by kernel_rfl⟩ ⟨_, rfl, rfl, rfl, rfl, by kernel_rfl⟩ ⟨_, rfl, rfl, rfl, rfl, by kernel_rfl⟩ ⟨_, rfl, rfl, rfl, rfl, by kernel_rfl⟩ ⟨_, rfl, rfl, rfl, rfl, by kernel_rfl⟩ ⟨_, rfl, rfl, rfl, rfl, by kernel_rfl⟩ ⟨_, rfl, rfl, rfl, rfl, by kernel_rfl⟩ ⟨_, rfl, rfl, rfl, rfl, by kernel_rfl⟩ ⟨_, rfl, rfl, rfl, rfl, by kernel_rfl⟩ ⟨_, rfl, rfl, rfl, rfl, by kernel_rfl⟩ ⟨_, rfl, rfl, rfl, rfl, by kernel_rfl⟩ ⟨_, rfl, rfl, rfl, rfl, by kernel_rfl⟩ (of_decide_eq_true rfl) rfl rfl rfl HROW.out hx hy (by omega) (by omega) okx oky awx awy hglt (by rw [hsw]; rfl) (fun D a V so e10 e11 e12 st => ?_)
            have HLV := Lib.hid (how.out.later.trans st.later)
            have ha := so.is
            simp only [List.foldl_cons, List.foldl_nil] at ha
            rw [e10, e11, e12] at ha
            generalize a.eval (.tmp 32) = y32 at ha
            generalize a.eval (.tmp 33) = y33 at ha
            generalize a.eval (.tmp 34) = y34 at ha
            generalize a.eval (.tmp 35) = y35 at ha
            generalize a.eval (.tmp 36) = y36 at ha
            generalize a.eval (.tmp 37) = y37 at ha
            generalize a.eval (.tmp 38) = y38 at ha
            generalize a.eval (.tmp 39) = y39 at ha
            generalize a.eval (.tmp 40) = y40 at ha
            generalize a.eval (.tmp 41) = y41 at ha
            generalize a.eval (.tmp 42) = y42 at ha
            generalize a.eval (.tmp 43) = y43 at ha
            generalize a.eval (.tmp 44) = y44 at ha
            generalize a.eval (.tmp 45) = y45 at ha
            generalize a.eval (.tmp 31) = y31 at ha
            generalize a.eval (.tmp 46) = y46 at ha
            generalize a.eval (.tmp 47) = y47 at ha
            generalize a.eval (.tmp 48) = y48 at ha
            clear so e10 e11 e12 st okx oky awx awy hx hy hp hq hsw
            subst ha
            simp only [Act.put, List.setIfInBounds_toArray, List.set_cons_zero, List.set_cons_succ]
            go_wp2
            go_ret3
            unfold Gives3
            rw [HNO.out]
            exact ⟨_, _, rfl, PsAt.nil _, PsAt.nil _, HLV.out⟩
          | some r =>
            obtain ⟨q1, p1⟩ := r
            have HYES := Lib.hid (hyes q1 p1 hsw)
            clear hno hyes
            go_upto_region 8 with fail
            refine refsw_region (r := (q1, p1, true)) rfl (by kernel_rfl) ⟨_, rfl, rfl, rfl, rfl, by kernel_rfl⟩ ⟨_, rfl, rfl, rfl, rfl, by kernel_rfl⟩ ⟨_, rfl, rfl, rfl, rfl, by kernel_rfl⟩ ⟨_, rfl, rfl, rfl, rfl, by kernel_rfl⟩ ⟨_, rfl, rfl, rfl, rfl, by kernel_rfl⟩ ⟨_, rfl, rfl, rfl, rfl, by kernel_rfl⟩ ⟨_, rfl, rfl, rfl, rfl, by kernel_rfl⟩ ⟨_, rfl, rfl, rfl, rfl, by kernel_rfl⟩ ⟨_, rfl, rfl, rfl, rfl, by kernel_rfl⟩ ⟨_, rfl, rfl, rfl, rfl, by kernel_rfl⟩ ⟨_, rfl, rfl, rfl, rfl, by kernel_rfl⟩ ⟨_, rfl, rfl, rfl, rfl, by kernel_rfl⟩ ⟨_, rfl, rfl, rfl, rfl, by kernel_rfl⟩ ⟨_, rfl, rfl, rfl, rfl, by kernel_rfl⟩ ⟨_, rfl, rfl, rfl, rfl, by kernel_rfl⟩ ⟨_, rfl, rfl, rfl, rfl, by kernel_rfl⟩ ⟨_, rfl, rfl, rfl, rfl, by kernel_rfl⟩ ⟨_, rfl, rfl, rfl, rfl, by kernel_rfl⟩ ⟨_, rfl, rfl, rfl, rfl, by kernel_rfl⟩ ⟨_, rfl, rfl, rfl, rfl, by kernel_rfl⟩ ⟨_, rfl, rfl, rfl, rfl, by kernel_rfl⟩ ⟨_, rfl, rfl, rfl, rfl, by kernel_rfl⟩ ⟨_, rfl, rfl, rfl, rfl, by kernel_rfl⟩ (of_decide_eq_true rfl) rfl rfl rfl HROW.out hx hy (by omega) (by omega) okx oky awx awy hglt (by rw [hsw]; rfl) (fun D a V so e10 e11 e12 st => ?_)
            have ha := so.is
            simp only [List.foldl_cons, List.foldl_nil] at ha
            rw [e10, e11, e12] at ha
            generalize a.eval (.tmp 32) = y32 at ha
            generalize a.eval (.tmp 33) = y33 at ha
            generalize a.eval (.tmp 34) = y34 at ha
            generalize a.eval (.tmp 35) = y35 at ha
            generalize a.eval (.tmp 36) = y36 at ha
            generalize a.eval (.tmp 37) = y37 at ha
            generalize a.eval (.tmp 38) = y38 at ha
            generalize a.eval (.tmp 39) = y39 at ha
            generalize a.eval (.tmp 40) = y40 at ha
            generalize a.eval (.tmp 41) = y41 at ha
            generalize a.eval (.tmp 42) = y42 at ha
            generalize a.eval (.tmp 43) = y43 at ha
            generalize a.eval (.tmp 44) = y44 at ha
            generalize a.eval (.tmp 45) = y45 at ha
            generalize a.eval (.tmp 31) = y31 at ha
            generalize a.eval (.tmp 46) = y46 at ha
            generalize a.eval (.tmp 47) = y47 at ha
            generalize a.eval (.tmp 48) = y48 at ha
            obtain ⟨hcv, hdv, okc, okd, awc, awd⟩ := st.sw (by omega)
            obtain ⟨hg8, cs8, -, hb8, hc8⟩ := st.b8 rfl
            obtain ⟨hg9, cs9, -, hb9, hc9⟩ := st.b9 rfl
            obtain rfl := hc8 (by omega)
            obtain rfl := hc9 (by omega)
            have HOV := Lib.hid (how.out.on st.later); have HOC := Lib.hid (okc.later st.later); have HOD := Lib.hid (okd.later st.later); have HB8 := Lib.hid hb8; have HB9 := Lib.hid hb9; have HAC := Lib.hid awc; have HAD := Lib.hid awd; have HVC := Lib.hid hcv; have HVD := Lib.hid hdv
            clear so e10 e11 e12 st okx oky awx awy hx hy hp hq hsw okc okd awc awd hb8 hb9 hc8 hc9 hcv hdv
            subst ha
            simp only [Act.put, List.setIfInBounds_toArray, List.set_cons_zero, List.set_cons_succ]
            obtain ⟨p0, p1', p2, p3, p4, p5⟩ := BoxAt.all (x := D.c) HB8.out
            go_wp2_with (with_reducible show wpList _ _ _ ({ dst := none, op := Op.store 70 _ _, type := _, pos := _, after := _, guard := _ } :: _) _ _; refine Hid.out ?_)
            refine Lib.hid (wpList_store_ps (i := i + k) rfl rfl 70 _ _ rfl Tryz.refPrimSize D.c (by first | rfl | (simp only [Nat.zero_add]; rfl)) rfl HOV.out (by omega) HOC.out HAC.out ?_)
            clear p0 p1' p2 p3 p4 p5
            intro w6 how6 ht6
            have HO6 := Lib.hid how6; have HB96 := Lib.hid (HB9.out.other ht6 (by omega)); have HOD6 := Lib.hid (HOD.out.off ht6 HAD.out)
            clear how6 ht6
            obtain ⟨p0, p1', p2, p3, p4, p5⟩ := BoxAt.all (x := D.d) HB96.out
            go_wp2_with (with_reducible show wpList _ _ _ ({ dst := none, op := Op.store 70 _ _, type := _, pos := _, after := _, guard := _ } :: _) _ _; refine Hid.out ?_)
            refine Lib.hid (wpList_store_ps (i := i + k + 1) rfl rfl 70 _ _ rfl Tryz.refPrimSize D.d (by first | rfl | (simp only [Nat.zero_add]; rfl)) rfl HO6.out (by omega) HOD6.out HAD.out ?_)
            clear p0 p1' p2 p3 p4 p5
            intro w7 how7 ht7
            have HO7 := Lib.hid how7
            clear how7 ht7
            go_wp2
            go_roundg (m - (k + 1))
            case measure => omega
            case rel => exact ⟨k + 1, _, by omega, Nat.le_refl _, by go_num, HO7, by
              show RowJ _ _ _ _ _
              rw [valsP_set, valsP_set, HVC.out, HVD.out]
              exact HYES.out⟩
        · obtain rfl : k = m := by omega
          have HN : Hid (RowI (valsP ls) (valsP ms) i (valsP xs)) := by
            have := hj.out
            rw [← HLM.out] at this
            exact this.done
          go_wp2
          go_roundg i
          case measure => omega
          case rel => exact ⟨i, xs, by omega, Nat.le_refl _, by go_num, how, HN⟩

end Go.Proofs.YtomboeiaajggoaaGreatDoor

/-
  What the law SeqSwaps comes to, as a call.
-/
namespace Go.Proofs.YtomboeiaajggoaaGreatDoor
open Go.RowKit Go.Maps

theorem all_r {w : World} {v : Value} {A : Option Addr} {n c : Nat} {xs : List PrC} (h : PsAt w v (valsP xs)) (k : PsOk w A n xs) (hn : (valsP xs).length ≤ 30000) (hm : n ≤ 30000) : Calls Tryz.prog 12 #[v, .slice A n c] w (Says true w) := by
  obtain ⟨B, d, ys, rfl, hd, hq, hv⟩ := h.open
  have := refAllP_any B A _ d n c ys xs w hq k (by omega) (by omega)
  rw [hv, sameS_self] at this
  exact this
set_option maxRecDepth 100000 in
set_option maxHeartbeats 6400000 in
theorem seqSwaps_walk (A1 : Option Addr) (n1 c1 : Nat) (xs : List PrC) (A2 : Option Addr) (n2 c2 : Nat) (ys : List PrC) (w : World) (hx : CamePs w A1 n1 xs) (hy : CamePs w A2 n2 ys) (htab : Tab w) : Calls Tryz.prog 4 #[.slice A1 n1 c1, .slice A2 n2 c2] w (Says true w) := by
  have HTB := Lib.hid htab
  clear htab
  have hlx := hx.length; have hly := hy.length
  have HX := Lib.hid hx; have HY := Lib.hid hy
  clear hx hy
  have L0 := Lib.hid (Later.refl w)
  go_enter Tryz.func4, Tryz.ntmps4
  have HC := Lib.hid (few_two (c1 := c1) (c2 := c2) HX.out HY.out L0.out)
  have hlb : Later w (w.alloc (.cells #[.slice A1 n1 c1, .slice A2 n2 c2] 22)) := (Later.refl _).alloc _
  replace L0 := Lib.hid (L0.out.trans hlb)
  clear hlb
  cases hfb : fewB [fr A1 n1 c1 xs, fr A2 n2 c2 ys]
  case false =>
    rw [hfb] at HC
    clear hfb
    go_wp2_with fail
    refine HC.out.mono ?_
    clear HC
    rintro e m1 ⟨rfl, hl⟩
    replace L0 := Lib.hid (L0.out.trans hl)
    clear hl
    have HC := Lib.hid (alive5_any m1 (HTB.out.later L0.out))
    go_wp2_with fail
    refine HC.out.mono ?_
    clear HC
    rintro e m2 ⟨rfl, hl⟩
    replace L0 := Lib.hid (L0.out.trans hl)
    clear hl
    go_wp2
    go_ret
    exact ⟨rfl, L0.out⟩
  obtain ⟨hn40, hw6⟩ := fewB_two hfb
  rw [hfb] at HC
  clear hfb
  go_wp2_with fail
  refine HC.out.mono ?_
  clear HC
  rintro e m1 ⟨rfl, hl⟩
  replace L0 := Lib.hid (L0.out.trans hl)
  clear hl
  have OX := Lib.hid (HX.out.prims.ok (by omega)); have OY := Lib.hid (HY.out.prims.ok (by omega))
  have HC := Lib.hid (new_r (c := c1) HX.out L0.out (by omega) (by omega))
  go_wp2_with fail
  refine HC.out.mono ?_
  clear HC
  rintro e m2 ⟨vx, rfl, hv, hl⟩
  replace L0 := Lib.hid (L0.out.trans hl)
  have Px := Lib.hid hv
  clear hl hv
  have HC := Lib.hid (new_r (c := c2) HY.out L0.out (by omega) (by omega))
  go_wp2_with fail
  refine HC.out.mono ?_
  clear HC
  rintro e m3 ⟨vy, rfl, hv, hl⟩
  replace Px := Lib.hid (Px.out.later hl)
  replace L0 := Lib.hid (L0.out.trans hl)
  have Py := Lib.hid hv
  clear hl hv
  cases hsw : swapS (valsP xs) (valsP ys) with
  | none =>
    have hl0 : ([] : List Pr).length ≤ 0 := Nat.le_refl _
    have HC : Hid (Calls Tryz.prog 21 #[vx, vy] m3 (Gives3 none m3)) := by
      have := swap_s Px.out Py.out (by omega) (by omega)
      rw [hsw] at this
      exact this
    go_wp2_with fail
    refine HC.out.mono ?_
    clear HC
    rintro e m4 ⟨va, vb, rfl, h1, h2, hl⟩
    dsimp only [Option.isSome, fstS, sndS] at h1 h2 ⊢
    replace Px := Lib.hid (Px.out.later hl)
    replace Py := Lib.hid (Py.out.later hl)
    replace L0 := Lib.hid (L0.out.trans hl)
    have Pa := Lib.hid h1; have Pb := Lib.hid h2
    clear hl h1 h2
    have HC : Hid (Calls Tryz.prog 22 #[.slice A1 n1 c1, .slice A2 n2 c2] m4 (Gives3 none m4)) := by
      have := refSwap5_any A1 A2 n1 c1 n2 c2 xs ys m4 (OX.out.later L0.out) (OY.out.later L0.out) (by omega) (by omega)
      rw [hsw] at this
      exact this
    go_wp2_with fail
    refine HC.out.mono ?_
    clear HC
    rintro e m5 ⟨vc, vd, rfl, h1, h2, hl⟩
    dsimp only [Option.isSome, fstS, sndS] at h1 h2 ⊢
    replace Px := Lib.hid (Px.out.later hl)
    replace Py := Lib.hid (Py.out.later hl)
    replace Pa := Lib.hid (Pa.out.later hl)
    replace Pb := Lib.hid (Pb.out.later hl)
    replace L0 := Lib.hid (L0.out.trans hl)
    have Pc := Lib.hid h1; have Pd := Lib.hid h2
    clear hl h1 h2
    have HC := Lib.hid (old_s Pa.out (by omega))
    go_wp2_with fail
    refine HC.out.mono ?_
    clear HC
    rintro e m6 ⟨vo, rfl, hv, hl⟩
    replace Px := Lib.hid (Px.out.later hl)
    replace Py := Lib.hid (Py.out.later hl)
    replace Pa := Lib.hid (Pa.out.later hl)
    replace Pb := Lib.hid (Pb.out.later hl)
    replace Pc := Lib.hid (Pc.out.later hl)
    replace Pd := Lib.hid (Pd.out.later hl)
    replace L0 := Lib.hid (L0.out.trans hl)
    have Po := Lib.hid hv
    clear hl hv
    have HC : Hid (Calls Tryz.prog 12 #[vo, vc] m6 (Says true m6)) := by
      have := all_s Po.out Pc.out (by omega) (by omega)
      rw [sameS_self] at this
      exact this
    go_wp2_with fail
    refine HC.out.mono ?_
    clear HC
    rintro e m7 ⟨rfl, hl⟩
    replace Px := Lib.hid (Px.out.later hl)
    replace Py := Lib.hid (Py.out.later hl)
    replace Pa := Lib.hid (Pa.out.later hl)
    replace Pb := Lib.hid (Pb.out.later hl)
    replace Pc := Lib.hid (Pc.out.later hl)
    replace Pd := Lib.hid (Pd.out.later hl)
    replace Po := Lib.hid (Po.out.later hl)
    replace L0 := Lib.hid (L0.out.trans hl)
    clear hl
    have HC := Lib.hid (old_s Pb.out (by omega))
    go_wp2_with fail
    refine HC.out.mono ?_
    clear HC
    rintro e m8 ⟨vq, rfl, hv, hl⟩
    replace Px := Lib.hid (Px.out.later hl)
    replace Py := Lib.hid (Py.out.later hl)
    replace Pa := Lib.hid (Pa.out.later hl)
    replace Pb := Lib.hid (Pb.out.later hl)
    replace Pc := Lib.hid (Pc.out.later hl)
    replace Pd := Lib.hid (Pd.out.later hl)
    replace Po := Lib.hid (Po.out.later hl)
    replace L0 := Lib.hid (L0.out.trans hl)
    have Pq := Lib.hid hv
    clear hl hv
    have HC : Hid (Calls Tryz.prog 12 #[vq, vd] m8 (Says true m8)) := by
      have := all_s Pq.out Pd.out (by omega) (by omega)
      rw [sameS_self] at this
      exact this
    go_wp2_with fail
    refine HC.out.mono ?_
    clear HC
    rintro e m9 ⟨rfl, hl⟩
    replace Px := Lib.hid (Px.out.later hl)
    replace Py := Lib.hid (Py.out.later hl)
    replace Pa := Lib.hid (Pa.out.later hl)
    replace Pb := Lib.hid (Pb.out.later hl)
    replace Pc := Lib.hid (Pc.out.later hl)
    replace Pd := Lib.hid (Pd.out.later hl)
    replace Po := Lib.hid (Po.out.later hl)
    replace Pq := Lib.hid (Pq.out.later hl)
    replace L0 := Lib.hid (L0.out.trans hl)
    clear hl
    have HC := Lib.hid (alive5_any m9 (HTB.out.later L0.out))
    go_wp2_with fail
    refine HC.out.mono ?_
    clear HC
    rintro e m10 ⟨rfl, hl⟩
    replace Px := Lib.hid (Px.out.later hl)
    replace Py := Lib.hid (Py.out.later hl)
    replace Pa := Lib.hid (Pa.out.later hl)
    replace Pb := Lib.hid (Pb.out.later hl)
    replace Pc := Lib.hid (Pc.out.later hl)
    replace Pd := Lib.hid (Pd.out.later hl)
    replace Po := Lib.hid (Po.out.later hl)
    replace Pq := Lib.hid (Pq.out.later hl)
    replace L0 := Lib.hid (L0.out.trans hl)
    clear hl
    go_wp2
    go_ret
    exact ⟨rfl, L0.out⟩
  | some r =>
    obtain ⟨la, lb⟩ := r
    have hla := swapS_length hsw
    have hbk := swapS_back hsw
    have HC : Hid (Calls Tryz.prog 21 #[vx, vy] m3 (Gives3 (some (la, lb)) m3)) := by
      have := swap_s Px.out Py.out (by omega) (by omega)
      rw [hsw] at this
      exact this
    go_wp2_with fail
    refine HC.out.mono ?_
    clear HC
    rintro e m4 ⟨va, vb, rfl, h1, h2, hl⟩
    dsimp only [Option.isSome, fstS, sndS] at h1 h2 ⊢
    replace Px := Lib.hid (Px.out.later hl)
    replace Py := Lib.hid (Py.out.later hl)
    replace L0 := Lib.hid (L0.out.trans hl)
    have Pa := Lib.hid h1; have Pb := Lib.hid h2
    clear hl h1 h2
    have HC : Hid (Calls Tryz.prog 22 #[.slice A1 n1 c1, .slice A2 n2 c2] m4 (Gives3 (some (la, lb)) m4)) := by
      have := refSwap5_any A1 A2 n1 c1 n2 c2 xs ys m4 (OX.out.later L0.out) (OY.out.later L0.out) (by omega) (by omega)
      rw [hsw] at this
      exact this
    go_wp2_with fail
    refine HC.out.mono ?_
    clear HC
    rintro e m5 ⟨vc, vd, rfl, h1, h2, hl⟩
    dsimp only [Option.isSome, fstS, sndS] at h1 h2 ⊢
    replace Px := Lib.hid (Px.out.later hl)
    replace Py := Lib.hid (Py.out.later hl)
    replace Pa := Lib.hid (Pa.out.later hl)
    replace Pb := Lib.hid (Pb.out.later hl)
    replace L0 := Lib.hid (L0.out.trans hl)
    have Pc := Lib.hid h1; have Pd := Lib.hid h2
    clear hl h1 h2
    have HC := Lib.hid (old_s Pa.out (by omega))
    go_wp2_with fail
    refine HC.out.mono ?_
    clear HC
    rintro e m6 ⟨vo, rfl, hv, hl⟩
    replace Px := Lib.hid (Px.out.later hl)
    replace Py := Lib.hid (Py.out.later hl)
    replace Pa := Lib.hid (Pa.out.later hl)
    replace Pb := Lib.hid (Pb.out.later hl)
    replace Pc := Lib.hid (Pc.out.later hl)
    replace Pd := Lib.hid (Pd.out.later hl)
    replace L0 := Lib.hid (L0.out.trans hl)
    have Po := Lib.hid hv
    clear hl hv
    have HC : Hid (Calls Tryz.prog 12 #[vo, vc] m6 (Says true m6)) := by
      have := all_s Po.out Pc.out (by omega) (by omega)
      rw [sameS_self] at this
      exact this
    go_wp2_with fail
    refine HC.out.mono ?_
    clear HC
    rintro e m7 ⟨rfl, hl⟩
    replace Px := Lib.hid (Px.out.later hl)
    replace Py := Lib.hid (Py.out.later hl)
    replace Pa := Lib.hid (Pa.out.later hl)
    replace Pb := Lib.hid (Pb.out.later hl)
    replace Pc := Lib.hid (Pc.out.later hl)
    replace Pd := Lib.hid (Pd.out.later hl)
    replace Po := Lib.hid (Po.out.later hl)
    replace L0 := Lib.hid (L0.out.trans hl)
    clear hl
    have HC := Lib.hid (old_s Pb.out (by omega))
    go_wp2_with fail
    refine HC.out.mono ?_
    clear HC
    rintro e m8 ⟨vq, rfl, hv, hl⟩
    replace Px := Lib.hid (Px.out.later hl)
    replace Py := Lib.hid (Py.out.later hl)
    replace Pa := Lib.hid (Pa.out.later hl)
    replace Pb := Lib.hid (Pb.out.later hl)
    replace Pc := Lib.hid (Pc.out.later hl)
    replace Pd := Lib.hid (Pd.out.later hl)
    replace Po := Lib.hid (Po.out.later hl)
    replace L0 := Lib.hid (L0.out.trans hl)
    have Pq := Lib.hid hv
    clear hl hv
    have HC : Hid (Calls Tryz.prog 12 #[vq, vd] m8 (Says true m8)) := by
      have := all_s Pq.out Pd.out (by omega) (by omega)
      rw [sameS_self] at this
      exact this
    go_wp2_with fail
    refine HC.out.mono ?_
    clear HC
    rintro e m9 ⟨rfl, hl⟩
    replace Px := Lib.hid (Px.out.later hl)
    replace Py := Lib.hid (Py.out.later hl)
    replace Pa := Lib.hid (Pa.out.later hl)
    replace Pb := Lib.hid (Pb.out.later hl)
    replace Pc := Lib.hid (Pc.out.later hl)
    replace Pd := Lib.hid (Pd.out.later hl)
    replace Po := Lib.hid (Po.out.later hl)
    replace Pq := Lib.hid (Pq.out.later hl)
    replace L0 := Lib.hid (L0.out.trans hl)
    clear hl
    have HC : Hid (Calls Tryz.prog 21 #[va, vb] m9 (Gives3 (some (valsP xs, valsP ys)) m9)) := by
      have := swap_s Pa.out Pb.out (by omega) (by omega)
      rw [hbk] at this
      exact this
    go_wp2_with fail
    refine HC.out.mono ?_
    clear HC
    rintro e m10 ⟨ve, vf, rfl, h1, h2, hl⟩
    dsimp only [Option.isSome, fstS, sndS] at h1 h2 ⊢
    replace Px := Lib.hid (Px.out.later hl)
    replace Py := Lib.hid (Py.out.later hl)
    replace Pa := Lib.hid (Pa.out.later hl)
    replace Pb := Lib.hid (Pb.out.later hl)
    replace Pc := Lib.hid (Pc.out.later hl)
    replace Pd := Lib.hid (Pd.out.later hl)
    replace Po := Lib.hid (Po.out.later hl)
    replace Pq := Lib.hid (Pq.out.later hl)
    replace L0 := Lib.hid (L0.out.trans hl)
    have Pe := Lib.hid h1; have Pf := Lib.hid h2
    clear hl h1 h2
    have HC := Lib.hid (alive5_any m10 (HTB.out.later L0.out))
    go_wp2_with fail
    refine HC.out.mono ?_
    clear HC
    rintro e m11 ⟨rfl, hl⟩
    replace Px := Lib.hid (Px.out.later hl)
    replace Py := Lib.hid (Py.out.later hl)
    replace Pa := Lib.hid (Pa.out.later hl)
    replace Pb := Lib.hid (Pb.out.later hl)
    replace Pc := Lib.hid (Pc.out.later hl)
    replace Pd := Lib.hid (Pd.out.later hl)
    replace Po := Lib.hid (Po.out.later hl)
    replace Pq := Lib.hid (Pq.out.later hl)
    replace Pe := Lib.hid (Pe.out.later hl)
    replace Pf := Lib.hid (Pf.out.later hl)
    replace L0 := Lib.hid (L0.out.trans hl)
    clear hl
    have HC := Lib.hid (old_s Pe.out (by omega))
    go_wp2_with fail
    refine HC.out.mono ?_
    clear HC
    rintro e m12 ⟨vg, rfl, hv, hl⟩
    replace Px := Lib.hid (Px.out.later hl)
    replace Py := Lib.hid (Py.out.later hl)
    replace Pa := Lib.hid (Pa.out.later hl)
    replace Pb := Lib.hid (Pb.out.later hl)
    replace Pc := Lib.hid (Pc.out.later hl)
    replace Pd := Lib.hid (Pd.out.later hl)
    replace Po := Lib.hid (Po.out.later hl)
    replace Pq := Lib.hid (Pq.out.later hl)
    replace Pe := Lib.hid (Pe.out.later hl)
    replace Pf := Lib.hid (Pf.out.later hl)
    replace L0 := Lib.hid (L0.out.trans hl)
    have Pg := Lib.hid hv
    clear hl hv
    have HC := Lib.hid (all_r (c := c1) Pg.out (OX.out.later L0.out) (by omega) (by omega))
    go_wp2_with fail
    refine HC.out.mono ?_
    clear HC
    rintro e m13 ⟨rfl, hl⟩
    replace Px := Lib.hid (Px.out.later hl)
    replace Py := Lib.hid (Py.out.later hl)
    replace Pa := Lib.hid (Pa.out.later hl)
    replace Pb := Lib.hid (Pb.out.later hl)
    replace Pc := Lib.hid (Pc.out.later hl)
    replace Pd := Lib.hid (Pd.out.later hl)
    replace Po := Lib.hid (Po.out.later hl)
    replace Pq := Lib.hid (Pq.out.later hl)
    replace Pe := Lib.hid (Pe.out.later hl)
    replace Pf := Lib.hid (Pf.out.later hl)
    replace Pg := Lib.hid (Pg.out.later hl)
    replace L0 := Lib.hid (L0.out.trans hl)
    clear hl
    have HC := Lib.hid (old_s Pf.out (by omega))
    go_wp2_with fail
    refine HC.out.mono ?_
    clear HC
    rintro e m14 ⟨vh, rfl, hv, hl⟩
    replace Px := Lib.hid (Px.out.later hl)
    replace Py := Lib.hid (Py.out.later hl)
    replace Pa := Lib.hid (Pa.out.later hl)
    replace Pb := Lib.hid (Pb.out.later hl)
    replace Pc := Lib.hid (Pc.out.later hl)
    replace Pd := Lib.hid (Pd.out.later hl)
    replace Po := Lib.hid (Po.out.later hl)
    replace Pq := Lib.hid (Pq.out.later hl)
    replace Pe := Lib.hid (Pe.out.later hl)
    replace Pf := Lib.hid (Pf.out.later hl)
    replace Pg := Lib.hid (Pg.out.later hl)
    replace L0 := Lib.hid (L0.out.trans hl)
    have Ph := Lib.hid hv
    clear hl hv
    have HC := Lib.hid (all_r (c := c2) Ph.out (OY.out.later L0.out) (by omega) (by omega))
    go_wp2_with fail
    refine HC.out.mono ?_
    clear HC
    rintro e m15 ⟨rfl, hl⟩
    replace Px := Lib.hid (Px.out.later hl)
    replace Py := Lib.hid (Py.out.later hl)
    replace Pa := Lib.hid (Pa.out.later hl)
    replace Pb := Lib.hid (Pb.out.later hl)
    replace Pc := Lib.hid (Pc.out.later hl)
    replace Pd := Lib.hid (Pd.out.later hl)
    replace Po := Lib.hid (Po.out.later hl)
    replace Pq := Lib.hid (Pq.out.later hl)
    replace Pe := Lib.hid (Pe.out.later hl)
    replace Pf := Lib.hid (Pf.out.later hl)
    replace Pg := Lib.hid (Pg.out.later hl)
    replace Ph := Lib.hid (Ph.out.later hl)
    replace L0 := Lib.hid (L0.out.trans hl)
    clear hl
    go_wp2
    go_ret
    exact ⟨rfl, L0.out⟩

end Go.Proofs.YtomboeiaajggoaaGreatDoor
