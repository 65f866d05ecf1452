import Derived.Test.YtomboeiaajggoaaGreatPk33
import Derived.Test.YtomboeiaajggoaaGreatPk28
import Derived.Test.YtomboeiaajggoaaGreatPk36
import Derived.Test.YtomboeiaajggoaaGreatPk37
import Derived.Test.YtomboeiaajggoaaGreatPk42
import Derived.Test.YtomboeiaajggoaaGreatPk32
import Derived.Deep.LoopGhost
import Derived.Deep.QuietTactic
import Derived.BigQuiet
import Derived.Lib.Hide

/-
  What the law NamedFits comes to, as a call.
-/
namespace Go.Proofs.YtomboeiaajggoaaGreat
open Go.RowKit Go.Maps

section
variable {f : Pa → Nat}
/-- What Swap keeps. -/
def Kept (f : Pa → Nat) : Prop := ∀ p q c d, swapN p q = some (c, d) → f c = f q ∧ f d = f p
theorem pastN_sum (hf : Kept f) : ∀ {l : List Pa} {q c : Pa} {rest : List Pa}, pastN l q = some (c, rest) → f c = f q ∧ (rest.map f).sum = (l.map f).sum
  | [], q, c, rest, h => by cases h; exact ⟨rfl, rfl⟩
  | p :: l, q, c, rest, h => by
    obtain ⟨q', rest', a, b, h1, h2, e⟩ := pastN_cons.1 h
    cases e
    have k1 := pastN_sum hf h1
    have k2 := hf _ _ _ _ h2
    exact ⟨k2.1.trans k1.1, by simp only [List.map_cons, List.sum_cons]; omega⟩
theorem groupStep_sum (hf : Kept f) (s : List Pa × List Pa) (p : Pa) : ((groupStep s p).1.map f).sum + ((groupStep s p).2.map f).sum = (s.1.map f).sum + (s.2.map f).sum + f p := by
  unfold groupStep
  cases hs : pastN s.1 p with
  | none => simp only [List.map_append, List.sum_append, List.map_cons, List.map_nil, List.sum_cons, List.sum_nil]; omega
  | some r =>
    obtain ⟨c, rest⟩ := r
    have := pastN_sum hf hs
    simp only [List.map_append, List.sum_append, List.map_cons, List.map_nil, List.sum_cons, List.sum_nil]
    omega
theorem groupN_sum (hf : Kept f) (l : List Pa) : ((groupN l).1.map f).sum + ((groupN l).2.map f).sum = (l.map f).sum := by
  have key : ∀ (l : List Pa) (s : List Pa × List Pa), ((l.foldl groupStep s).1.map f).sum + ((l.foldl groupStep s).2.map f).sum = (s.1.map f).sum + (s.2.map f).sum + (l.map f).sum := by
    intro l
    induction l with
    | nil => intro s; simp
    | cons p l ih =>
      intro s
      rw [List.foldl_cons, ih, groupStep_sum hf]
      simp only [List.map_cons, List.sum_cons]
      omega
  cases l with
  | nil => rfl
  | cons p l => rw [groupN, key]; simp
end
theorem kept_len : Kept (fun p => p.l.length) := by
  intro p q c d h
  obtain ⟨_, _, _, _, _, a, b, hs, rfl, rfl⟩ := swapN_parts h
  have := swapS_length hs
  exact ⟨this.1, this.2⟩
theorem kept_lines : Kept (fun p => linesS p.l) := by
  intro p q c d h
  obtain ⟨_, _, _, _, _, a, b, hs, rfl, rfl⟩ := swapN_parts h
  have := swapS_lines hs
  exact ⟨this.1, this.2⟩
theorem primsN_sum (l : List Pa) : (primsN l).length = (l.map fun p => p.l.length).sum ∧ linesS (primsN l) = (l.map fun p => linesS p.l).sum := by
  induction l with
  | nil => exact ⟨rfl, rfl⟩
  | cons p l ih =>
    have e : primsN (p :: l) = p.l ++ primsN l := rfl
    rw [e, List.length_append, linesS_app, ih.1, ih.2]
    exact ⟨rfl, rfl⟩
theorem groupN_bounds (l : List Pa) : (primsN (groupN l).1).length ≤ (primsN l).length ∧ linesS (primsN (groupN l).1) ≤ linesS (primsN l) ∧ (primsN (groupN l).2).length ≤ (primsN l).length ∧ linesS (primsN (groupN l).2) ≤ linesS (primsN l) := by
  have a := groupN_sum kept_len l; have b := groupN_sum kept_lines l
  have h := primsN_sum l; have h1 := primsN_sum (groupN l).1; have h2 := primsN_sum (groupN l).2
  omega
theorem linesS_weight7 (xs : List PrC) : linesS (valsP xs) ≤ weightPs xs := by
  induction xs with
  | nil => exact Nat.le_refl _
  | cons x xs ih =>
    have h1 : weightPs (x :: xs) = weightP x.v + weightPs xs := by simp [weightPs]
    have h2 : linesS (valsP (x :: xs)) = x.v.old.length + x.v.new.length + linesS (valsP xs) := linesS_cons _ _
    rw [h1, h2]
    unfold weightP
    omega
/-- The prims of patches that came in are few, and so are their lines. -/
theorem primsN_few {w : World} {A : Option Addr} {n : Nat} {xs : List PaC} (h : NsOk w A n xs) : (primsN (valsN xs)).length ≤ weightNs xs ∧ linesS (primsN (valsN xs)) ≤ weightNs xs := by
  have hs := primsN_sum (valsN xs)
  have key : ∀ ys : List PaC, (∀ y ∈ ys, PaOk w y) → ((valsN ys).map fun p => p.l.length).sum ≤ weightNs ys ∧ ((valsN ys).map fun p => linesS p.l).sum ≤ weightNs ys := by
    intro ys
    induction ys with
    | nil => intro _; exact ⟨Nat.le_refl _, Nat.le_refl _⟩
    | cons y ys ih =>
      intro hy
      have k := ih (fun z hz => hy z (List.mem_cons_of_mem _ hz))
      have hy0 := hy y List.mem_cons_self
      have h1 := paOk_length hy0
      have h2 := linesS_weight7 y.xs
      rw [hy0.is] at h2
      have e1 : valsN (y :: ys) = y.v :: valsN ys := rfl
      have e2 : weightNs (y :: ys) = weightN y + weightNs ys := by simp [weightNs]
      rw [e1, e2]
      simp only [List.map_cons, List.sum_cons]
      unfold weightN
      omega
  have := key xs h.each
  omega

set_option maxRecDepth 100000 in
set_option maxHeartbeats 400000 in
theorem namedFits_walk (A : Option Addr) (n c : Nat) (os : List OpC) (A1 : Option Addr) (n1 c1 : Nat) (xs : List PaC) (w : World) (hs : CameS w A n os) (hx : CameNs w A1 n1 c1 xs) : Calls Tryz.prog 6 #[.slice A n c, .slice A1 n1 c1] w (Says true w) := by
  have HX := Lib.hid hx
  have hxl := hx.len
  clear hx
  have HF := Lib.hid (few_any A n c os w hs.script hs.many hs.weigh)
  have hbd : fewN n (weightL os) ≤ 4000000 := by have h1 := hs.many; have h2 := hs.weigh; unfold fewN; split <;> omega
  have hz := @few_zero n (weightL os)
  generalize fewN n (weightL os) = fw at HF hbd hz
  by_cases h0 : fw = 0
  case neg =>
    have hpos : (0 : Int) < fw := by omega
    have hd : decide ((0 : Int) < fw) = true := by simp; omega
    go_enter Tryz.func6, Tryz.ntmps6
    go_wp2_with fail
    refine HF.out.mono ?_
    clear HF
    rintro e m1 ⟨rfl, hl⟩
    have L0 := Lib.hid hl
    clear hl
    have HA := Lib.hid (alive7_any m1)
    go_wp2_with fail
    refine HA.out.mono ?_
    rintro e m2 ⟨rfl, hl⟩
    replace L0 := Lib.hid (L0.out.trans hl)
    clear hl HA
    go_wp2
    go_ret
    exact ⟨rfl, L0.out⟩
  obtain ⟨hn80, hW80⟩ := hz.1 h0
  subst h0
  have HS := Lib.hid hs
  clear hs hz
  go_enter Tryz.func6, Tryz.ntmps6
  go_wp2_with fail
  refine HF.out.mono ?_
  clear HF
  rintro e m1 ⟨rfl, hl⟩
  have L0 := Lib.hid hl
  clear hl
  have HC := Lib.hid (few7_any A1 n1 c1 xs m1 (HX.out.later L0.out))
  cases hfb : fewNs n1 xs
  case false =>
    rw [hfb] at HC
    clear hfb
    go_wp2_with fail
    refine HC.out.mono ?_
    clear HC
    rintro e m2 ⟨rfl, hl⟩
    replace L0 := Lib.hid (L0.out.trans hl)
    clear hl
    have HA := Lib.hid (alive7_any m2)
    go_wp2_with fail
    refine HA.out.mono ?_
    rintro e m3 ⟨rfl, hl⟩
    replace L0 := Lib.hid (L0.out.trans hl)
    clear hl HA
    go_wp2
    go_ret
    exact ⟨rfl, L0.out⟩
  obtain ⟨hn12, hn40, hw6⟩ := fewNs_parts hfb
  rw [hfb] at HC
  clear hfb
  have HOK := Lib.hid (HX.out.ok hw6)
  have hpf := primsN_few HOK.out
  go_wp2_with fail
  refine HC.out.mono ?_
  clear HC
  rintro e m2 ⟨rfl, hl⟩
  replace L0 := Lib.hid (L0.out.trans hl)
  clear hl
  have HC := Lib.hid (made_any A n c os m2 (HS.out.script.later L0.out) hn80 hW80)
  have hfit := (made_fits HS.out.script hW80).sizedS.mono hn80 (Nat.le_refl 8000)
  generalize madeT os = tr at HC hfit
  have HFIT := Lib.hid hfit
  clear hfit
  go_wp2_with fail
  refine HC.out.mono ?_
  clear HC
  rintro e m3 ⟨pt, Bt, v, rfl, ht, -, -, hBt0, hl⟩
  have hBt : w.heap.size ≤ Bt := Nat.le_trans L0.out.le hBt0
  clear hBt0
  replace L0 := Lib.hid (L0.out.trans hl)
  have Tt := Lib.hid ht
  have HRISE := Lib.hid ht.files.rise
  clear hl ht
  have HC := Lib.hid (copy_any pt Bt tr m3 Tt.out (by have := HFIT.out.many; omega) (HFIT.out.lines (by omega)))
  go_wp2_with fail
  refine HC.out.mono ?_
  clear HC
  rintro e m4 ⟨pu, Bu, rfl, ht, -, hBu0, hl⟩
  have hBu : w.heap.size ≤ Bu := Nat.le_trans L0.out.le hBu0
  have hne : Bt ≠ Bu := by have := Tt.out.files.lt; omega
  clear hBu0
  replace Tt := Lib.hid (Tt.out.later hl)
  replace L0 := Lib.hid (L0.out.trans hl)
  have Tu := Lib.hid ht
  clear hl ht
  go_wp2
  go_loopg [32] (n1 + 1) (fun g s32 wr => ∃ k : Nat, k ≤ n1 ∧ n1 - k ≤ g ∧ s32 = .int .i64 k ∧ Hid (Later m4 wr))
  case atStart => exact ⟨0, Nat.zero_le _, by omega, rfl, Later.refl m4⟩
  case round =>
    obtain ⟨k, hk, hg, rfl, hwr⟩ := hrel
    by_cases hlt : k < n1
    · obtain ⟨b, o, x, rfl, hz, hok, g0, g1, g2, g3⟩ := (HOK.out.later (L0.out.trans hwr.out)).get hlt
      have HLB : Hid (Later wr (wr.alloc (.cells #[.int .i64 x.v.id, .string x.v.note, .slice x.D x.nd x.cd, .slice x.L x.nl x.cl] 25))) := (Later.refl wr).alloc _
      have HC := Lib.hid (refRight7_any x _ (hok.later HLB.out))
      clear hok hz
      unfold paV at HC
      cases hr : rightN x.v
      · rw [hr] at HC
        clear hr
        go_wp2_with fail
        refine HC.out.mono ?_
        rintro e w2 ⟨rfl, hl2⟩
        have L2 := Lib.hid (((L0.out.trans hwr.out).trans HLB.out).trans hl2)
        clear hl2 HC
        have HA := Lib.hid (alive7_any w2)
        go_wp2_with fail
        refine HA.out.mono ?_
        rintro e w3 ⟨rfl, hl3⟩
        have L3 := Lib.hid (L2.out.trans hl3)
        clear hl3 HA
        go_wp2
        go_ret
        exact ⟨rfl, L3.out⟩
      · rw [hr] at HC
        clear hr
        go_wp2_with fail
        refine HC.out.mono ?_
        rintro e w2 ⟨rfl, hl2⟩
        have L2 := Lib.hid ((hwr.out.trans HLB.out).trans hl2)
        clear hl2 HC
        go_wp2
        go_roundg (n1 - (k + 1))
        case measure => omega
        case rel => exact ⟨k + 1, by omega, Nat.le_refl _, by go_num, L2⟩
    · replace Tt := Lib.hid (Tt.out.later hwr.out); replace Tu := Lib.hid (Tu.out.later hwr.out); replace L0 := Lib.hid (L0.out.trans hwr.out)
      have HC := Lib.hid (rows7_any A1 n1 c1 xs wr (HOK.out.later L0.out) (by omega))
      clear hwr
      go_wp2_with fail
      refine HC.out.mono ?_
      clear HC
      rintro e m5 ⟨vr, ys, rfl, hov, hvy⟩
      have hl := hov.later
      replace Tt := Lib.hid (Tt.out.later hl); replace Tu := Lib.hid (Tu.out.later hl); replace L0 := Lib.hid (L0.out.trans hl)
      obtain ⟨Ar, cr, hvv, hcr, hnr⟩ := hov.row
      have hyl : ys.length = n1 := by
        have := congrArg List.length hvy
        rw [valsN_length, valsN_length, hxl] at this
        exact this
      rw [hyl] at hvv hnr
      subst hvv
      clear hyl
      have HC := Lib.hid (applied_any pt Bt 80 8000 tr Ar n1 cr ys m5 Tt.out hnr HFIT.out (by omega) (by rw [hvy]; omega) (by rw [hvy]; omega))
      rw [hvy] at HC
      clear hov hl hcr hnr hvy
      go_wp2_with fail
      refine HC.out.mono ?_
      clear HC
      rintro e m6 ⟨bo, t1, rfl, ht, hg6, hyes, hno⟩
      obtain ⟨es, cc, hm⟩ := Tt.out.files.map
      replace Tu := Lib.hid (Tu.out.other hg6 (Ne.symm hne) hm)
      replace L0 := Lib.hid (L0.out.turn hg6 hBt)
      replace Tt := Lib.hid ht
      clear hm hg6 ht
      cases bo with
      | false =>
        clear hyes hno
        have HA := Lib.hid (alive7_any m6)
        go_wp2_with fail
        refine HA.out.mono ?_
        rintro e m7 ⟨rfl, hl⟩
        replace L0 := Lib.hid (L0.out.trans hl)
        clear hl HA
        go_wp2
        go_ret
        exact ⟨rfl, L0.out⟩
      | true =>
        have HRUN := Lib.hid (hyes rfl)
        clear hyes hno
        have HSZ : Hid (∀ f ∈ t1, f.2.length ≤ 65536) := by
          have := runS_sized (l := primsN (valsN xs)) HFIT.out
          rw [show runS tr (primsN (valsN xs)) = (t1, 0) from HRUN.out] at this
          exact this.lines (by omega)
        have hgb := groupN_bounds (valsN xs)
        obtain ⟨sm, hr1, hr2⟩ := runN_append.1 (groupN_fits HRISE.out HRUN.out)
        have HR1 := Lib.hid hr1; have HR2 := Lib.hid hr2
        clear hr1 hr2
        have HC := Lib.hid (rows7_any A1 n1 c1 xs m6 (HOK.out.later L0.out) (by omega))
        go_wp2_with fail
        refine HC.out.mono ?_
        clear HC
        rintro e m7 ⟨vr2, ys2, rfl, hov, hvy⟩
        have hl := hov.later
        replace Tt := Lib.hid (Tt.out.later hl); replace Tu := Lib.hid (Tu.out.later hl); replace L0 := Lib.hid (L0.out.trans hl)
        obtain ⟨Ar2, cr2, hvv, hcr, hnr⟩ := hov.row
        have hyl2 : ys2.length = n1 := by
          have := congrArg List.length hvy
          rw [valsN_length, valsN_length, hxl] at this
          exact this
        rw [hyl2] at hvv hnr
        subst hvv
        clear hyl2
        have HC := Lib.hid (group7_any Ar2 n1 cr2 ys2 m7 hnr (by omega))
        rw [hvy] at HC
        clear hov hl hcr hnr hvy
        go_wp2_with fail
        refine HC.out.mono ?_
        clear HC
        rintro e m8 ⟨vg, vt, gs, rs, rfl, og, ot, eg, et⟩
        have hl := og.later
        replace Tt := Lib.hid (Tt.out.later hl); replace Tu := Lib.hid (Tu.out.later hl); replace L0 := Lib.hid (L0.out.trans hl)
        obtain ⟨Ag, cg, rfl, -, hng⟩ := og.row
        obtain ⟨At, ct, rfl, -, hnt⟩ := ot.row
        have NG := Lib.hid hng; have NT := Lib.hid hnt; have EG := Lib.hid eg; have ET := Lib.hid et
        have hgl : gs.length ≤ 65536 := by
          have h1 := congrArg List.length eg; have h2 := groupN_length (valsN xs)
          rw [valsN_length] at h1
          rw [valsN_length, hxl] at h2
          omega
        have htl : rs.length ≤ 65536 := by
          have h1 := congrArg List.length et; have h2 := groupN_length (valsN xs)
          rw [valsN_length] at h1
          rw [valsN_length, hxl] at h2
          omega
        clear hl og ot hng hnt eg et
        have HA := Lib.hid (alive7_any m8)
        go_wp2_with fail
        refine HA.out.mono ?_
        rintro e m9 ⟨rfl, hl⟩
        replace Tt := Lib.hid (Tt.out.later hl); replace Tu := Lib.hid (Tu.out.later hl); replace L0 := Lib.hid (L0.out.trans hl); replace NG := Lib.hid (NG.out.later hl); replace NT := Lib.hid (NT.out.later hl)
        clear hl HA
        have HC := Lib.hid (applied_any pu Bu 80 8000 tr At rs.length ct rs m9 Tu.out NT.out HFIT.out htl (by rw [ET.out]; omega) (by rw [ET.out]; omega))
        rw [ET.out] at HC
        generalize rs.length = nr at *
        go_wp2_with fail
        refine HC.out.mono ?_
        clear HC
        rintro e m10 ⟨bo, s1, rfl, ht, hg10, hyes, hno⟩
        obtain rfl : bo = true := by
          cases bo with
          | true => rfl
          | false => exact absurd HR1.out (hno rfl sm)
        have hs1 := hyes rfl
        rw [HR1.out] at hs1
        cases hs1
        clear hyes hno
        obtain ⟨es, cc, hm⟩ := Tu.out.files.map
        replace NG := Lib.hid (NG.out.cells (hg10.cells hm))
        replace Tt := Lib.hid (Tt.out.other hg10 hne hm)
        replace L0 := Lib.hid (L0.out.turn hg10 hBu)
        replace Tu := Lib.hid ht
        clear hm hg10 ht
        have hsz2 : Sized (80 + (primsN (groupN (valsN xs)).2).length) (8000 + linesS (primsN (groupN (valsN xs)).2)) sm := by
          have := runS_sized (l := primsN (groupN (valsN xs)).2) HFIT.out
          rw [show runS tr (primsN (groupN (valsN xs)).2) = (sm, 0) from HR1.out] at this
          exact this
        have HC := Lib.hid (applied_any pu Bu _ _ sm Ag gs.length cg gs m10 Tu.out NG.out hsz2 hgl (by rw [EG.out]; omega) (by rw [EG.out]; omega))
        rw [EG.out] at HC
        generalize gs.length = ng at *
        clear hsz2
        go_wp2_with fail
        refine HC.out.mono ?_
        clear HC
        rintro e m11 ⟨bo, s2, rfl, ht, hg11, hyes, hno⟩
        obtain rfl : bo = true := by
          cases bo with
          | true => rfl
          | false => exact absurd HR2.out (hno rfl t1)
        have hs2 := hyes rfl
        rw [HR2.out] at hs2
        cases hs2
        clear hyes hno
        obtain ⟨es, cc, hm⟩ := Tu.out.files.map
        replace Tt := Lib.hid (Tt.out.other hg11 hne hm)
        replace L0 := Lib.hid (L0.out.turn hg11 hBu)
        replace Tu := Lib.hid ht
        clear hm hg11 ht
        have HC : Hid (Calls Tryz.prog 28 #[.pointer (some ⟨pt, 0, none⟩), .pointer (some ⟨pu, 0, none⟩)] m11 (Says true m11)) := by
          have := sameTree_any pt Bt pu Bu t1 t1 m11 Tt.out Tu.out HSZ.out HSZ.out
          rw [sameT_self] at this
          exact this
        go_wp2_with fail
        refine HC.out.mono ?_
        clear HC
        rintro e m12 ⟨rfl, hl⟩
        replace L0 := Lib.hid (L0.out.trans hl)
        clear hl
        go_wp2
        go_ret
        exact ⟨rfl, L0.out⟩

end Go.Proofs.YtomboeiaajggoaaGreat
