import Derived.Test.YtboffgmaohcpfaaDoorPk6
import Derived.Test.YtboffgmaohcpfaaDoorPk5
import Derived.Deep.LoopGhost
import Derived.Deep.QuietTactic
import Derived.BigQuiet
import Derived.Lib.Hide
import Derived.Test.YtboffgmaohcpfaaDoorPk3
import Derived.Sort.OwnSorted
import Derived.Test.YtboffgmaohcpfaaDoorChecked
import Derived.Test.YtboffgmaohcpfaaDoorPk1

/-
  What the document's Right comes to, as a call.
-/
namespace Go.Proofs.YtboffgmaohcpfaaDoor
open Go.RowKit

set_option maxRecDepth 100000 in
set_option maxHeartbeats 800000 in
theorem refRightP_any (x : PrC) (w : World) (hx : PrOk w x) :
    Calls Tryd.prog 10 #[prV x] w (Says (rightP x.v) w) := by
  obtain ⟨⟨kd, nm, to, pl, old, new⟩, A, n, c, B, m, d⟩ := x
  have hlb : Later w (w.alloc (.cells #[.int .i64 kd, .string nm, .string to, .int .i64 pl, .slice A n c, .slice B m d] 24)) := (Later.refl w).alloc _
  have hn := refNamed_any nm (w.alloc (.cells #[.int .i64 kd, .string nm, .string to, .int .i64 pl, .slice A n c, .slice B m d] 24)) hx.name
  have ht := refNamed_any to (w.alloc (.cells #[.int .i64 kd, .string nm, .string to, .int .i64 pl, .slice A n c, .slice B m d] 24)) hx.to
  have H1 := Lib.hid (refAll_any A n c old _ (hx.old.later hlb) hx.omost hx.olds)
  have H2 := Lib.hid (refAll_any B m d new _ (hx.new.later hlb) hx.nmost hx.news)
  have H3 := Lib.hid (refSame_any A B n c m d old new _ (hx.old.later hlb) (hx.new.later hlb) hx.omost hx.nmost)
  have hnl := hx.old.len
  have hml := hx.new.len
  have hn1 := hx.omost
  have hm1 := hx.nmost
  have HLB := Lib.hid hlb
  unfold prV
  dsimp only at hnl hml hn1 hm1 ⊢
  clear hx hlb
  cases h1 : namedB nm
  · rw [h1] at hn
    have HN := Lib.hid hn
    rw [rightP_name kd nm to pl old new h1]
    clear hn ht h1
    go_enter Tryd.func10, Tryd.ntmps10
    go_wp2_with fail
    refine HN.out.mono ?_
    rintro e w1 ⟨rfl, rfl⟩
    go_wp2
    go_ret
    exact ⟨rfl, HLB.out⟩
  rw [h1] at hn
  have HN := Lib.hid hn
  have HT := Lib.hid ht
  clear hn ht
  by_cases k0 : kd = 0
  · subst k0
    rw [rightP_hunk nm to pl old new h1]
    clear h1
    by_cases h2 : to = ByteArray.empty
    · subst h2
      by_cases h3 : 0 ≤ pl
      · by_cases h4 : pl ≤ 1048576
        · rw [decide_eq_true (show 0 ≤ pl ∧ pl ≤ 1048576 from ⟨h3, h4⟩), decide_eq_true (rfl : ByteArray.empty = ByteArray.empty), Bool.true_and, Bool.true_and]
          have d3 : ¬ pl < 0 := by omega
          have d4 : ¬ 1048576 < pl := by omega
          cases h5 : allB old
          · rw [h5] at H1
            go_enter Tryd.func10, Tryd.ntmps10
            go_wp2_with fail
            refine HN.out.mono ?_
            rintro e w1 ⟨rfl, rfl⟩
            go_wp2_with fail
            refine H1.out.mono ?_
            rintro e w1 ⟨rfl, rfl⟩
            go_wp2
            go_ret
            exact ⟨rfl, HLB.out⟩
          · rw [h5] at H1
            cases h6 : allB new
            · rw [h6] at H2
              go_enter Tryd.func10, Tryd.ntmps10
              go_wp2_with fail
              refine HN.out.mono ?_
              rintro e w1 ⟨rfl, rfl⟩
              go_wp2_with fail
              refine H1.out.mono ?_
              rintro e w1 ⟨rfl, rfl⟩
              go_wp2_with fail
              refine H2.out.mono ?_
              rintro e w1 ⟨rfl, rfl⟩
              go_wp2
              go_ret
              exact ⟨rfl, HLB.out⟩
            · rw [h6] at H2
              generalize sameB old new = b at H3 ⊢
              go_enter Tryd.func10, Tryd.ntmps10
              go_wp2_with fail
              refine HN.out.mono ?_
              rintro e w1 ⟨rfl, rfl⟩
              go_wp2_with fail
              refine H1.out.mono ?_
              rintro e w1 ⟨rfl, rfl⟩
              go_wp2_with fail
              refine H2.out.mono ?_
              rintro e w1 ⟨rfl, rfl⟩
              go_wp2_with fail
              refine H3.out.mono ?_
              rintro e w1 ⟨rfl, q, rfl⟩
              go_wp2
              go_ret
              exact ⟨rfl, HLB.out.drewN q⟩
        · have e : ¬ (0 ≤ pl ∧ pl ≤ 1048576) := fun h => h4 h.2
          rw [decide_eq_false e, Bool.and_false, Bool.false_and]
          have d3 : ¬ pl < 0 := by omega
          have d4 : 1048576 < pl := by omega
          clear e
          go_enter Tryd.func10, Tryd.ntmps10
          go_wp2_with fail
          refine HN.out.mono ?_
          rintro e w1 ⟨rfl, rfl⟩
          go_wp2
          go_ret
          exact ⟨rfl, HLB.out⟩
      · have e : ¬ (0 ≤ pl ∧ pl ≤ 1048576) := fun h => h3 h.1
        rw [decide_eq_false e, Bool.and_false, Bool.false_and]
        have d3 : pl < 0 := by omega
        clear e
        go_enter Tryd.func10, Tryd.ntmps10
        go_wp2_with fail
        refine HN.out.mono ?_
        rintro e w1 ⟨rfl, rfl⟩
        go_wp2
        go_ret
        exact ⟨rfl, HLB.out⟩
    · have hb := list_ne h2
      rw [decide_eq_false h2, Bool.false_and, Bool.false_and]
      go_enter Tryd.func10, Tryd.ntmps10
      go_wp2_with fail
      refine HN.out.mono ?_
      rintro e w1 ⟨rfl, rfl⟩
      go_wp2
      go_ret
      exact ⟨rfl, HLB.out⟩
  by_cases kb : kd < 0 ∨ 3 < kd
  · rw [rightP_none kd nm to pl old new (by omega) (by omega) (by omega) (by omega)]
    clear h1
    rcases kb with kb | kb
    · go_enter Tryd.func10, Tryd.ntmps10
      go_wp2_with fail
      refine HN.out.mono ?_
      rintro e w1 ⟨rfl, rfl⟩
      go_wp2
      go_ret
      exact ⟨rfl, HLB.out⟩
    · have kb' : ¬ kd < 0 := by omega
      go_enter Tryd.func10, Tryd.ntmps10
      go_wp2_with fail
      refine HN.out.mono ?_
      rintro e w1 ⟨rfl, rfl⟩
      go_wp2
      go_ret
      exact ⟨rfl, HLB.out⟩
  have kc : kd = 1 ∨ kd = 2 ∨ kd = 3 := by omega
  clear kb
  by_cases hbare : pl = 0 ∧ n = 0 ∧ m = 0
  · obtain ⟨rfl, rfl, rfl⟩ := hbare
    obtain rfl : old = [] := List.eq_nil_of_length_eq_zero hnl
    obtain rfl : new = [] := List.eq_nil_of_length_eq_zero hml
    rcases kc with rfl | rfl | rfl
    · by_cases h2 : to = ByteArray.empty
      · subst h2
        have E : Hid (rightP ⟨1, nm, ByteArray.empty, 0, [], []⟩ = true) := by simp [Hid, rightP, h1]
        clear h1
        go_enter Tryd.func10, Tryd.ntmps10
        go_wp2_with fail
        refine HN.out.mono ?_
        rintro e w1 ⟨rfl, rfl⟩
        go_wp2
        go_ret
        exact ⟨ret_bool E.out.symm, HLB.out⟩
      · have hb := list_ne h2
        have E : Hid (rightP ⟨1, nm, to, 0, [], []⟩ = false) := by simp [Hid, rightP, h1, h2]
        clear h1
        go_enter Tryd.func10, Tryd.ntmps10
        go_wp2_with fail
        refine HN.out.mono ?_
        rintro e w1 ⟨rfl, rfl⟩
        go_wp2
        go_ret
        exact ⟨by rw [E.out]; first | rfl | simp [hb], HLB.out⟩
    · by_cases h2 : to = ByteArray.empty
      · subst h2
        have E : Hid (rightP ⟨2, nm, ByteArray.empty, 0, [], []⟩ = true) := by simp [Hid, rightP, h1]
        clear h1
        go_enter Tryd.func10, Tryd.ntmps10
        go_wp2_with fail
        refine HN.out.mono ?_
        rintro e w1 ⟨rfl, rfl⟩
        go_wp2
        go_ret
        exact ⟨ret_bool E.out.symm, HLB.out⟩
      · have hb := list_ne h2
        have E : Hid (rightP ⟨2, nm, to, 0, [], []⟩ = false) := by simp [Hid, rightP, h1, h2]
        clear h1
        go_enter Tryd.func10, Tryd.ntmps10
        go_wp2_with fail
        refine HN.out.mono ?_
        rintro e w1 ⟨rfl, rfl⟩
        go_wp2
        go_ret
        exact ⟨by rw [E.out]; first | rfl | simp [hb], HLB.out⟩
    · rw [rightP_move nm to 0 [] [] h1]
      have eb : bareP ⟨3, nm, to, 0, [], []⟩ = true := by simp [bareP]
      rw [eb, Bool.and_true]
      clear h1 eb
      cases h2 : namedB to
      · rw [h2] at HT
        rw [Bool.false_and]
        go_enter Tryd.func10, Tryd.ntmps10
        go_wp2_with fail
        refine HN.out.mono ?_
        rintro e w1 ⟨rfl, rfl⟩
        go_wp2_with fail
        refine HT.out.mono ?_
        rintro e w1 ⟨rfl, rfl⟩
        go_wp2
        go_ret
        exact ⟨rfl, HLB.out⟩
      · rw [h2] at HT
        rw [Bool.true_and]
        by_cases h3 : to = nm
        · subst h3
          rw [decide_eq_false (fun h : to ≠ to => h rfl)]
          go_enter Tryd.func10, Tryd.ntmps10
          go_wp2_with fail
          refine HN.out.mono ?_
          rintro e w1 ⟨rfl, rfl⟩
          go_wp2_with fail
          refine HT.out.mono ?_
          rintro e w1 ⟨rfl, rfl⟩
          go_wp2
          go_ret
          exact ⟨by simp, HLB.out⟩
        · rw [decide_eq_true h3]
          have hb := text_ne h3
          go_enter Tryd.func10, Tryd.ntmps10
          go_wp2_with fail
          refine HN.out.mono ?_
          rintro e w1 ⟨rfl, rfl⟩
          go_wp2_with fail
          refine HT.out.mono ?_
          rintro e w1 ⟨rfl, rfl⟩
          go_wp2
          go_ret
          exact ⟨by first | rfl | simp [hb], HLB.out⟩
  · have E : Hid (rightP ⟨kd, nm, to, pl, old, new⟩ = false) := by
      have hb : bareP ⟨kd, nm, to, pl, old, new⟩ = false := by
        cases hq : bareP ⟨kd, nm, to, pl, old, new⟩
        · rfl
        · simp only [bareP, Bool.and_eq_true, decide_eq_true_eq] at hq
          obtain ⟨⟨rfl, rfl⟩, rfl⟩ := hq
          exact absurd ⟨rfl, hnl.symm, hml.symm⟩ hbare
      rcases kc with rfl | rfl | rfl
      · show _ = _
        rw [rightP_one 1 nm to pl old new h1 (.inl rfl), hb, Bool.and_false]
      · show _ = _
        rw [rightP_one 2 nm to pl old new h1 (.inr rfl), hb, Bool.and_false]
      · show _ = _
        rw [rightP_move nm to pl old new h1, hb, Bool.and_false, Bool.and_false]
    rw [E.out]
    clear h1 hnl hml E
    have c0 : ¬ kd < 0 := by omega
    have c3 : ¬ 3 < kd := by omega
    by_cases hp : pl = 0
    · subst hp
      by_cases hz : 0 < n
      · clear hbare kc
        go_enter Tryd.func10, Tryd.ntmps10
        go_wp2_with fail
        refine HN.out.mono ?_
        rintro e w1 ⟨rfl, rfl⟩
        go_wp2
        go_ret
        exact ⟨rfl, HLB.out⟩
      · obtain rfl : n = 0 := by omega
        have hq : 0 < m := by omega
        clear hbare kc
        go_enter Tryd.func10, Tryd.ntmps10
        go_wp2_with fail
        refine HN.out.mono ?_
        rintro e w1 ⟨rfl, rfl⟩
        go_wp2
        go_ret
        exact ⟨rfl, HLB.out⟩
    · clear hbare kc
      go_enter Tryd.func10, Tryd.ntmps10
      go_wp2_with fail
      refine HN.out.mono ?_
      rintro e w1 ⟨rfl, rfl⟩
      go_wp2
      go_ret
      exact ⟨rfl, HLB.out⟩

end Go.Proofs.YtboffgmaohcpfaaDoor

/-
  What the document's Same on prims comes to, as a call.
-/
namespace Go.Proofs.YtboffgmaohcpfaaDoor
open Go.RowKit

set_option maxRecDepth 100000 in
set_option maxHeartbeats 800000 in
theorem refSameP_any (x y : PrC) (w : World) (hx : PrOk w x) (hy : PrOk w y) :
    Calls Tryd.prog 11 #[prV x, prV y] w (Says (sameP x.v y.v) w) := by
  obtain ⟨⟨kd, nm, to, pl, old, new⟩, A, n, c, B, m, d⟩ := x
  obtain ⟨⟨kd', nm', to', pl', old', new'⟩, A', n', c', B', m', d'⟩ := y
  have hlb : Later w ((w.alloc (.cells #[.int .i64 kd, .string nm, .string to, .int .i64 pl, .slice A n c, .slice B m d] 24)).alloc (.cells #[.int .i64 kd', .string nm', .string to', .int .i64 pl', .slice A' n' c', .slice B' m' d'] 24)) := ((Later.refl w).alloc _).alloc _
  have H1 := Lib.hid (refSame_any A A' n c n' c' old old' _ (hx.old.later hlb) (hy.old.later hlb) hx.omost hy.omost)
  have H2 := Lib.hid (fun (w1 : World) (h : Later w w1) => refSame_any B B' m d m' d' new new' w1 (hx.new.later h) (hy.new.later h) hx.nmost hy.nmost)
  have HLB := Lib.hid hlb
  have HX := Lib.hid hx; have HY := Lib.hid hy
  unfold prV
  dsimp only
  clear hx hy hlb
  by_cases h1 : kd = kd'
  · subst h1
    by_cases h2 : nm = nm'
    · subst h2
      by_cases h3 : to = to'
      · subst h3
        by_cases h4 : pl = pl'
        · subst h4
          have E : Hid (sameP ⟨kd, nm, to, pl, old, new⟩ ⟨kd, nm, to, pl, old', new'⟩ = (sameB old old' && sameB new new')) := by simp [Hid, sameP]
          rw [E.out]
          clear E
          cases h5 : sameB old old'
          · rw [h5] at H1
            rw [Bool.false_and]
            go_enter Tryd.func11, Tryd.ntmps11
            go_wp2_with fail
            refine H1.out.mono ?_
            rintro e w1 ⟨rfl, q, rfl⟩
            go_wp2
            go_ret
            exact ⟨rfl, HLB.out.drewN q⟩
          · rw [h5] at H1
            rw [Bool.true_and]
            generalize sameB new new' = b at H2 ⊢
            go_enter Tryd.func11, Tryd.ntmps11
            go_wp2_with fail
            refine H1.out.mono ?_
            rintro e w1 ⟨rfl, q, rfl⟩
            go_wp2_with fail
            refine (H2.out _ (HLB.out.drewN q)).mono ?_
            rintro e w1 ⟨rfl, q2, rfl⟩
            go_wp2
            go_ret
            exact ⟨rfl, HLB.out.drewN _⟩
        · have E : Hid (sameP ⟨kd, nm, to, pl, old, new⟩ ⟨kd, nm, to, pl', old', new'⟩ = false) := by simp [Hid, sameP, h4]
          rw [E.out]
          clear E
          go_enter Tryd.func11, Tryd.ntmps11
          go_wp2
          go_ret
          exact ⟨rfl, HLB.out⟩
      · have E : Hid (sameP ⟨kd, nm, to, pl, old, new⟩ ⟨kd, nm, to', pl', old', new'⟩ = false) := by simp [Hid, sameP, h3]
        rw [E.out]
        have hb := text_ne h3
        clear E
        go_enter Tryd.func11, Tryd.ntmps11
        go_wp2
        go_ret
        exact ⟨rfl, HLB.out⟩
    · have E : Hid (sameP ⟨kd, nm, to, pl, old, new⟩ ⟨kd, nm', to', pl', old', new'⟩ = false) := by simp [Hid, sameP, h2]
      rw [E.out]
      have hb := text_ne h2
      clear E
      go_enter Tryd.func11, Tryd.ntmps11
      go_wp2
      go_ret
      exact ⟨rfl, HLB.out⟩
  · have E : Hid (sameP ⟨kd, nm, to, pl, old, new⟩ ⟨kd', nm', to', pl', old', new'⟩ = false) := by simp [Hid, sameP, h1]
    rw [E.out]
    clear E
    go_enter Tryd.func11, Tryd.ntmps11
    go_wp2
    go_ret
    exact ⟨rfl, HLB.out⟩

end Go.Proofs.YtboffgmaohcpfaaDoor

/-
  What the document's Invert comes to, as a call.
-/
namespace Go.Proofs.YtboffgmaohcpfaaDoor
open Go.RowKit

/-- The prim that undoes it, over the same rows. -/
def invC (x : PrC) : PrC := if x.v.kind = 0 then ⟨invertP x.v, x.B, x.m, x.d, x.A, x.n, x.c⟩ else ⟨invertP x.v, x.A, x.n, x.c, x.B, x.m, x.d⟩
theorem invC_v (x : PrC) : (invC x).v = invertP x.v := by unfold invC; split <;> rfl
theorem Tryd.refPrimSize : (Tryd.prog.info? 24).map (·.size) = some 6 := by kernel_rfl

set_option maxRecDepth 100000 in
set_option maxHeartbeats 800000 in
theorem refInvert_any (x : PrC) (w : World) :
    Calls Tryd.prog 13 #[prV x] w fun e w' => e = .returned (prV (invC x)) ∧ Later w w' := by
  obtain ⟨⟨kd, nm, to, pl, old, new⟩, A, n, c, B, m, d⟩ := x
  unfold prV
  dsimp only
  by_cases h0 : kd = 0
  · subst h0
    have E : Hid (invC ⟨⟨0, nm, to, pl, old, new⟩, A, n, c, B, m, d⟩ = ⟨⟨0, nm, to, pl, new, old⟩, B, m, d, A, n, c⟩) := by simp [Hid, invC, invertP]
    rw [E.out]
    clear E
    dsimp only
    go_enter Tryd.func13, Tryd.ntmps13
    go_wp2
    exact bodyPost_ret (results_cell_row rfl _ _ (w.heap.size + 1) 24 _ (0, 0) _ rfl (heap_alloc2_new w _ _) Tryd.underlying24 rfl Tryd.refPrimSize) rfl ⟨rfl, ((Later.refl w).alloc _).alloc _⟩
  by_cases h1 : kd = 1
  · subst h1
    have E : Hid (invC ⟨⟨1, nm, to, pl, old, new⟩, A, n, c, B, m, d⟩ = ⟨⟨2, nm, to, pl, old, new⟩, A, n, c, B, m, d⟩) := by simp [Hid, invC, invertP]
    rw [E.out]
    clear E
    dsimp only
    go_enter Tryd.func13, Tryd.ntmps13
    go_wp2
    exact bodyPost_ret (results_cell_row rfl _ _ (w.heap.size + 1) 24 _ (0, 0) _ rfl (heap_alloc2_new w _ _) Tryd.underlying24 rfl Tryd.refPrimSize) rfl ⟨rfl, ((Later.refl w).alloc _).alloc _⟩
  by_cases h2 : kd = 2
  · subst h2
    have E : Hid (invC ⟨⟨2, nm, to, pl, old, new⟩, A, n, c, B, m, d⟩ = ⟨⟨1, nm, to, pl, old, new⟩, A, n, c, B, m, d⟩) := by simp [Hid, invC, invertP]
    rw [E.out]
    clear E
    dsimp only
    go_enter Tryd.func13, Tryd.ntmps13
    go_wp2
    exact bodyPost_ret (results_cell_row rfl _ _ (w.heap.size + 1) 24 _ (0, 0) _ rfl (heap_alloc2_new w _ _) Tryd.underlying24 rfl Tryd.refPrimSize) rfl ⟨rfl, ((Later.refl w).alloc _).alloc _⟩
  by_cases h3 : kd = 3
  · subst h3
    have E : Hid (invC ⟨⟨3, nm, to, pl, old, new⟩, A, n, c, B, m, d⟩ = ⟨⟨3, to, nm, pl, old, new⟩, A, n, c, B, m, d⟩) := by simp [Hid, invC, invertP]
    rw [E.out]
    clear E
    dsimp only
    go_enter Tryd.func13, Tryd.ntmps13
    go_wp2
    exact bodyPost_ret (results_cell_row rfl _ _ (w.heap.size + 1) 24 _ (0, 0) _ rfl (heap_alloc2_new w _ _) Tryd.underlying24 rfl Tryd.refPrimSize) rfl ⟨rfl, ((Later.refl w).alloc _).alloc _⟩
  have E : Hid (invC ⟨⟨kd, nm, to, pl, old, new⟩, A, n, c, B, m, d⟩ = ⟨⟨kd, nm, to, pl, old, new⟩, A, n, c, B, m, d⟩) := by simp [Hid, invC, invertP, h0, h1, h2, h3]
  rw [E.out]
  clear E
  dsimp only
  go_enter Tryd.func13, Tryd.ntmps13
  go_wp2
  exact bodyPost_ret (results_cell_row rfl _ _ (w.heap.size + 1) 24 _ (0, 0) _ rfl (heap_alloc2_new w _ _) Tryd.underlying24 rfl Tryd.refPrimSize) rfl ⟨rfl, ((Later.refl w).alloc _).alloc _⟩

end Go.Proofs.YtboffgmaohcpfaaDoor

/-
  What prim's Names comes to, as a call.
-/
namespace Go.Proofs.YtboffgmaohcpfaaDoor
open Go.RowKit Go.Maps Go.Sort

theorem Row.lit2 (w : World) (o : Obj) (ss : List ByteArray) (t : TypeId) : Row ((w.alloc o).alloc (.cells (ss.map Value.string).toArray t)) (some ⟨w.heap.size + 1, 0, .none⟩) ss.length ss := by
  have := Row.lit (w.alloc o) ss t
  rw [show (w.alloc o).heap.size = w.heap.size + 1 from by simp] at this
  exact this
theorem enc_bytes (s : ByteArray) : encStr (bytes s) = .string s := by
  show Value.string (txt (bytes s)) = _
  rw [txt_bytes]

theorem sorted_two (a b : ByteArray) : ([bytes a, bytes b]).mergeSort (fun x y => decide (x ≤ y)) = (if ltN a b = true then [a, b] else [b, a]).map bytes := by
  by_cases h : ltN a b = true
  · rw [if_pos h]
    refine List.mergeSort_of_pairwise (List.pairwise_cons.2 ⟨fun y hy => ?_, List.pairwise_singleton _ _⟩)
    simp at hy
    subst hy
    simp only [decide_eq_true_eq]
    exact List.le_of_lt ((before_lt _ _).1 h)
  · rw [if_neg h]
    have e : ([bytes a, bytes b]).mergeSort leB = ([bytes b, bytes a]).mergeSort leB := mergeSort_of_perm (List.Perm.swap _ _ _)
    rw [show (fun x y : List UInt8 => decide (x ≤ y)) = leB from rfl, e]
    refine List.mergeSort_of_pairwise (List.pairwise_cons.2 ⟨fun y hy => ?_, List.pairwise_singleton _ _⟩)
    simp at hy
    subst hy
    simp only [leB, decide_eq_true_eq]
    exact List.not_lt.1 fun hl => h ((before_lt _ _).2 hl)

theorem namesP_move (nm to : ByteArray) (pl : Int) (old new : List ByteArray) : namesP ⟨3, nm, to, pl, old, new⟩ = if ltN nm to = true then [nm, to] else [to, nm] := by simp [namesP]
theorem namesP_one (k : Int) (nm to : ByteArray) (pl : Int) (old new : List ByteArray) (h : k ≠ 3) : namesP ⟨k, nm, to, pl, old, new⟩ = [nm] := by simp [namesP, h]

set_option maxRecDepth 100000 in
set_option maxHeartbeats 800000 in
theorem primNames_any (x : PrC) (w : World) : Calls Tryd.prog 15 #[prV x] w (GivesRow (namesP x.v) w) := by
  obtain ⟨⟨kd, nm, to, pl, old, new⟩, A, n, c, B, m, d⟩ := x
  unfold prV
  dsimp only
  by_cases h3 : kd = 3
  · subst h3
    have hb : ((w.alloc (.cells #[.int .i64 3, .string nm, .string to, .int .i64 pl, .slice A n c, .slice B m d] 28)).alloc (.cells #[.string nm, .string to] 9)).heap[w.heap.size + 1]? = some (.cells #[.string nm, .string to] 9 (0, 0)) := heap_alloc2_new w _ _
    have hh := holds_of_block (ss := [bytes nm, bytes to]) hb (by simp [enc_bytes])
    have hs := AnyM.slices_Sort_string Tryd.laysSort (w.heap.size + 1) 0 2 [bytes nm, bytes to] _ hh (by simp) (by simp)
    rw [sorted_two] at hs
    have hl : Later w ((w.alloc (.cells #[.int .i64 3, .string nm, .string to, .int .i64 pl, .slice A n c, .slice B m d] 28)).alloc (.cells #[.string nm, .string to] 9)) := ((Later.refl w).alloc _).alloc _
    rw [namesP_move]
    have hlen : (if ltN nm to = true then [nm, to] else [to, nm]).length = 2 := by split <;> rfl
    generalize (if ltN nm to = true then [nm, to] else [to, nm]) = l at hs hlen ⊢
    have HS := Lib.hid hs; have HB := Lib.hid hb; have HL := Lib.hid hl; have HN := Lib.hid hlen
    clear hs hb hh hl hlen
    go_enter Tryd.func15, Tryd.ntmps15
    go_wp2_with (go_at_call 31; refine HS.out.mono ?_; rintro e w1 ⟨rfl, k1, os1, rfl⟩)
    go_ret
    have h1 := ownsRow_sorted (n := k1) (os := os1) (base := w.heap.size) (g := w.heap.size + 1) (cap := 2) (ss := [bytes nm, bytes to]) (ts := l.map bytes) (by simp [HN.out]) (by omega) HB.out (by simp) (by decide) rfl
    have h2 : (l.map bytes).map encStr = l.map Value.string := by
      rw [List.map_map]
      exact List.map_congr_left fun s _ => enc_bytes s
    rw [h2] at h1
    have hl2 := HL.out.turn (B := w.heap.size + 1) (grownBy_sorted (n := k1) (os := os1) (l.map bytes).toArray) (by omega)
    have h3 : Own 9 w _ (.slice (some ⟨w.heap.size + 1, 0, none⟩) 2 2) l := ⟨by rw [HN.out]; exact h1, hl2⟩
    obtain ⟨A9, c9, hv9, hc9, hr9⟩ := h3.row
    exact ⟨A9, c9, by rw [← hv9]; rfl, hc9, hr9, hl2⟩
  · rw [namesP_one kd nm to pl old new h3]
    go_enter Tryd.func15, Tryd.ntmps15
    go_wp2
    go_ret
    exact ⟨_, _, rfl, Nat.le_refl _, Row.lit2 w _ [nm] 9, ((Later.refl w).alloc _).alloc _⟩

end Go.Proofs.YtboffgmaohcpfaaDoor

/-
  What the document's Names comes to, as a call.
-/
namespace Go.Proofs.YtboffgmaohcpfaaDoor
open Go.RowKit Go.Maps

set_option maxRecDepth 100000 in
set_option maxHeartbeats 800000 in
theorem refNamesP_any (x : PrC) (w : World) : Calls Tryd.prog 16 #[prV x] w (GivesRow (namesP x.v) w) := by
  obtain ⟨⟨kd, nm, to, pl, old, new⟩, A, n, c, B, m, d⟩ := x
  unfold prV
  dsimp only
  by_cases h3 : kd = 3
  · subst h3
    rw [namesP_move]
    have hlt := less_is nm to
    by_cases h : ltN nm to = true
    · rw [if_pos h]
      rw [h] at hlt
      go_enter Tryd.func16, Tryd.ntmps16
      go_wp2
      go_ret
      exact ⟨_, _, rfl, Nat.le_refl _, Row.lit2 w _ [nm, to] 9, ((Later.refl w).alloc _).alloc _⟩
    · rw [if_neg h]
      rw [Bool.eq_false_iff.2 h] at hlt
      go_enter Tryd.func16, Tryd.ntmps16
      go_wp2
      go_ret
      exact ⟨_, _, rfl, Nat.le_refl _, Row.lit2 w _ [to, nm] 9, ((Later.refl w).alloc _).alloc _⟩
  · rw [namesP_one kd nm to pl old new h3]
    go_enter Tryd.func16, Tryd.ntmps16
    go_wp2
    go_ret
    exact ⟨_, _, rfl, Nat.le_refl _, Row.lit2 w _ [nm] 9, ((Later.refl w).alloc _).alloc _⟩

end Go.Proofs.YtboffgmaohcpfaaDoor

/-
  Prims as values, and what the document's calls on them tell.
-/
namespace Go.Proofs.YtboffgmaohcpfaaDoor
open Go.RowKit Go.Maps

/-- A row of lines, nothing else has turned. -/
def GivesL (l : List ByteArray) (w : World) (e : Ending) (w' : World) : Prop := ∃ v, e = .returned v ∧ Reads w' v l ∧ Later w w'
theorem GivesRow.l {l : List ByteArray} {w w' : World} {e : Ending} (h : GivesRow l w e w') : GivesL l w e w' := by
  obtain ⟨A, c, rfl, hc, hr, hl⟩ := h
  exact ⟨_, rfl, ⟨A, _, c, rfl, hc, hr⟩, hl⟩

section
variable {w : World} {v u : Value} {p q : Pr}
theorem refRight_v (h : PrimAt w v p) : Calls Tryd.prog 10 #[v] w (Says (rightP p) w) := by
  obtain ⟨x, rfl, rfl, hx⟩ := h; exact refRightP_any x w hx
theorem refSame_v (h : PrimAt w v p) (k : PrimAt w u q) : Calls Tryd.prog 11 #[v, u] w (Says (sameP p q) w) := by
  obtain ⟨x, rfl, rfl, hx⟩ := h; obtain ⟨y, rfl, rfl, hy⟩ := k; exact refSameP_any x y w hx hy
theorem invC_ok {x : PrC} (h : PrOk w x) : PrOk w (invC x) := by
  have hm := h.mild.invert
  unfold invC
  split
  · rename_i h0
    have e : invertP x.v = { x.v with old := x.v.new, new := x.v.old } := by simp [invertP, h0]
    exact ⟨by rw [e]; exact h.new, by rw [e]; exact h.old, h.nroom, h.oroom, h.nmost, h.omost, hm.name, hm.to, hm.lo, hm.hi, hm.olds, hm.news⟩
  · rename_i h0
    have e1 : (invertP x.v).old = x.v.old := by unfold invertP; rw [if_neg h0]; (repeat' split) <;> rfl
    have e2 : (invertP x.v).new = x.v.new := by unfold invertP; rw [if_neg h0]; (repeat' split) <;> rfl
    exact ⟨by show Row w x.A x.n (invertP x.v).old; rw [e1]; exact h.old, by show Row w x.B x.m (invertP x.v).new; rw [e2]; exact h.new, h.oroom, h.nroom, h.omost, h.nmost, hm.name, hm.to, hm.lo, hm.hi, hm.olds, hm.news⟩
theorem refInvert_v (h : PrimAt w v p) : Calls Tryd.prog 13 #[v] w (GivesP (invertP p) w) := by
  obtain ⟨x, rfl, rfl, hx⟩ := h
  refine (refInvert_any x w).mono ?_
  rintro e w' ⟨rfl, hl⟩
  exact ⟨_, rfl, ⟨invC x, rfl, invC_v x, (invC_ok hx).later hl⟩, hl⟩
theorem names_v (h : PrimAt w v p) : Calls Tryd.prog 15 #[v] w (GivesL (namesP p) w) := by
  obtain ⟨x, rfl, rfl, hx⟩ := h; exact (primNames_any x w).mono fun e w' he => GivesRow.l he
theorem refNames_v (h : PrimAt w v p) : Calls Tryd.prog 16 #[v] w (GivesL (namesP p) w) := by
  obtain ⟨x, rfl, rfl, hx⟩ := h; exact (refNamesP_any x w).mono fun e w' he => GivesRow.l he
theorem lineSame_v {l r : List ByteArray} (h : Reads w v l) (k : Reads w u r) (hl : l.length ≤ 65536) (hr : r.length ≤ 65536) : Calls Tryd.prog 14 #[v, u] w (Says (sameB l r) w) := by
  obtain ⟨A, n, c, rfl, hc, h1⟩ := h
  obtain ⟨B, m, d, rfl, hd, h2⟩ := k
  refine (same_any A B n c m d l r w h1 h2 (by rw [← h1.len]; exact hl) (by rw [← h2.len]; exact hr)).mono ?_
  rintro e w' ⟨rfl, q, rfl⟩
  exact ⟨rfl, (Later.refl w).drewN q⟩
theorem namesP_length (p : Pr) : (namesP p).length ≤ 65536 := by
  unfold namesP
  split
  · simp
  · split <;> simp
end

end Go.Proofs.YtboffgmaohcpfaaDoor

/-
  What the statements' own Many comes to, as a call: what prims weigh.
-/
namespace Go.Proofs.YtboffgmaohcpfaaDoor
open Go.RowKit

theorem sizesP_take {l : List ByteArray} {k : Nat} (h : k < l.length) : ((l.take (k + 1)).map ByteArray.size).sum = ((l.take k).map ByteArray.size).sum + (l.getD k ByteArray.empty).size := by
  rw [List.take_succ_eq_append_getElem h, List.map_append, List.sum_append]
  simp [List.getD, List.getElem?_eq_getElem h]
theorem sizesP_take_le (l : List ByteArray) (k : Nat) : ((l.take k).map ByteArray.size).sum ≤ (l.map ByteArray.size).sum := by
  have : (l.map ByteArray.size).sum = ((l.take k).map ByteArray.size).sum + ((l.drop k).map ByteArray.size).sum := by
    rw [← List.sum_append, ← List.map_append, List.take_append_drop]
  omega

set_option maxRecDepth 100000 in
set_option maxHeartbeats 1000000 in
theorem manyP_any (A : Option Addr) (n c : Nat) (xs : List PrC) (w : World) (hx : Prims w A n xs) (hn : n ≤ 1048576) (hW : weightPs xs ≤ 4194304) :
    Calls Tryd.prog 7 #[.slice A n c] w fun e w' => e = .returned (.int .i64 (n + weightPs xs : Nat)) ∧ Later w w' := by
  have HX := Lib.hid hx; clear hx
  go_enter Tryd.func7, Tryd.ntmps7
  go_wp2
  go_loopg [3, 14] (n + 1) (fun g s3 s14 wr => ∃ k : Nat, k ≤ n ∧ n - k ≤ g ∧ s14 = .int .i64 k ∧ s3 = .int .i64 (n + weightPs (xs.take k) : Nat) ∧ Later w wr)
  case atStart => exact ⟨0, Nat.zero_le _, by omega, rfl, rfl, Later.refl w⟩
  case round =>
    obtain ⟨k, hk, hg, rfl, rfl, hwr⟩ := hrel
    by_cases hlt : k < n
    · obtain ⟨b, o, x, rfl, hz, g0, g1, g2, g3, g4, g5⟩ := (HX.out.later hwr).get hlt
      have hstep := weightPs_take hz
      have hle := weightPs_take_le xs (k + 1)
      rw [hstep] at hle
      have hcm := (HX.out.later hwr).each x (List.mem_of_getElem? hz)
      have hlen := hcm.old.len
      have hlen2 := hcm.new.len
      have HW := Lib.hid hwr; have HROW := Lib.hid hcm.old; have HROW2 := Lib.hid hcm.new
      have hwt : weightP x.v = x.v.name.size + x.v.to.size + x.n + x.m + (x.v.old.map ByteArray.size).sum + (x.v.new.map ByteArray.size).sum := by unfold weightP; rw [hlen, hlen2]
      rw [hwt] at hle hstep
      have hle2 : n + weightPs (xs.take k) + x.v.name.size + x.v.to.size + x.n + x.m + (x.v.old.map ByteArray.size).sum + (x.v.new.map ByteArray.size).sum ≤ 6000000 := by omega
      have HST := Lib.hid hstep
      clear hle hstep hwt hcm hwr hz
      generalize weightPs (xs.take k) = W0 at HST hle2 ⊢
      generalize x.v.name = nm at *
      generalize x.v.to = to at *
      generalize x.v.old = l at *
      generalize x.v.new = r at *
      generalize x.v.kind = kd at *
      generalize x.v.place = pl at *
      generalize x.n = nl at *
      generalize x.A = Al at *
      generalize x.c = cl at *
      generalize x.m = nr at *
      generalize x.B = Ar at *
      generalize x.d = cr at *
      have hlb : Later wr (wr.alloc (.cells #[.int .i64 kd, .string nm, .string to, .int .i64 pl, .slice Al nl cl, .slice Ar nr cr] 24)) := (Later.refl wr).alloc _
      have HLB := Lib.hid hlb; clear hlb
      have HLEN := Lib.hid hlen; have HLEN2 := Lib.hid hlen2; clear hlen hlen2
      go_wp2
      go_loopg [3, 38] (nl + 1) (fun g s3 s38 wx => ∃ j : Nat, j ≤ nl ∧ nl - j ≤ g ∧ s38 = .int .i64 j ∧ s3 = .int .i64 (n + W0 + nm.size + to.size + nl + nr + ((l.take j).map ByteArray.size).sum : Nat) ∧ wx = wr.alloc (.cells #[.int .i64 kd, .string nm, .string to, .int .i64 pl, .slice Al nl cl, .slice Ar nr cr] 24))
      case atStart => exact ⟨0, Nat.zero_le _, by omega, rfl, by simp; go_num, rfl⟩
      case round =>
        obtain ⟨j, hj, hgj, rfl, rfl, rfl⟩ := hrel
        by_cases hjl : j < nl
        · obtain ⟨b1, o1, rfl, h4⟩ := (HROW.out.later HLB.out).get hjl
          have h1 := sizesP_take (l := l) (k := j) (by rw [HLEN.out]; exact hjl)
          have h2 := sizesP_take_le l (j + 1)
          rw [h1] at h2
          have H1 := Lib.hid h1; clear h1
          generalize l.getD j ByteArray.empty = sx at *
          generalize ((l.take j).map ByteArray.size).sum = S at *
          go_wp2
          go_roundg (nl - (j + 1))
          case measure => omega
          case rel => exact ⟨j + 1, by omega, Nat.le_refl _, by go_num, by rw [H1.out]; go_num, rfl⟩
        · have e : l.take j = l := List.take_of_length_le (by rw [HLEN.out]; omega)
          rw [e]
          clear e
          generalize (l.map ByteArray.size).sum = S1 at *
          go_wp2
          go_loopg [3, 50] (nr + 1) (fun g s3 s50 wx => ∃ j : Nat, j ≤ nr ∧ nr - j ≤ g ∧ s50 = .int .i64 j ∧ s3 = .int .i64 (n + W0 + nm.size + to.size + nl + nr + S1 + ((r.take j).map ByteArray.size).sum : Nat) ∧ wx = wr.alloc (.cells #[.int .i64 kd, .string nm, .string to, .int .i64 pl, .slice Al nl cl, .slice Ar nr cr] 24))
          case atStart => exact ⟨0, Nat.zero_le _, by omega, rfl, by simp, rfl⟩
          case round =>
            obtain ⟨i, hi, hgi, rfl, rfl, rfl⟩ := hrel
            by_cases hil : i < nr
            · obtain ⟨b1, o1, rfl, h4⟩ := (HROW2.out.later HLB.out).get hil
              have h1 := sizesP_take (l := r) (k := i) (by rw [HLEN2.out]; exact hil)
              have h2 := sizesP_take_le r (i + 1)
              rw [h1] at h2
              have H1 := Lib.hid h1; clear h1
              generalize r.getD i ByteArray.empty = sx at *
              generalize ((r.take i).map ByteArray.size).sum = S at *
              go_wp2
              go_roundg (nr - (i + 1))
              case measure => omega
              case rel => exact ⟨i + 1, by omega, Nat.le_refl _, by go_num, by rw [H1.out]; go_num, rfl⟩
            · have e : r.take i = r := List.take_of_length_le (by rw [HLEN2.out]; omega)
              rw [e]
              clear e
              go_wp2
              go_roundg (n - (k + 1))
              case measure => omega
              case rel => exact ⟨k + 1, by omega, Nat.le_refl _, by go_num, by rw [HST.out]; go_num, HW.out.trans HLB.out⟩
    · have e : xs.take k = xs := List.take_of_length_le (by rw [HX.out.len]; omega)
      rw [e]
      have HW := Lib.hid hwr
      clear e hwr
      go_wp2
      go_ret
      exact ⟨rfl, HW.out⟩

end Go.Proofs.YtboffgmaohcpfaaDoor

/-
  What tree.New, Named, has and Get come to, as calls.
-/
namespace Go.Proofs.YtboffgmaohcpfaaDoor
open Go.RowKit Go.Maps

set_option maxHeartbeats 400000 in
theorem has_any (p B : Nat) (nm : ByteArray) (t : Tr) (w : World) (ht : TreeAt w p B t) (hs : nm.size ≤ maxLen) :
    Calls Tryd.prog 33 #[.pointer (some ⟨p, 0, none⟩), .string nm] w fun e w' => e = .returned (.bool (hasT t nm)) ∧ w = w' := by
  obtain ⟨hc, z, hz, rfl⟩ := ht
  rw [hasT_map]
  cases hg : getT z nm with
  | none =>
    have e : hasT z nm = false := hasT_no.2 (getT_none.1 hg)
    have E := Lib.hid e
    have hl := hz.look_no hs hg
    clear e hz hg
    go_enter Tryd.func33, Tryd.ntmps33
    go_wp2
    go_ret
    exact ⟨ret_bool E.out.symm, rfl⟩
  | some x =>
    have e : hasT z nm = true := getT_has hg
    have E := Lib.hid e
    have hl := hz.look_yes hs hg
    clear e hz hg
    go_enter Tryd.func33, Tryd.ntmps33
    go_wp2
    go_ret
    exact ⟨ret_bool E.out.symm, rfl⟩

/-- A new tree. -/
def NewTree (t : Tr) (w : World) (e : Ending) (w' : World) : Prop :=
  ∃ p B, e = .returned (.pointer (some ⟨p, 0, none⟩)) ∧ TreeAt w' p B t ∧ w.heap.size ≤ p ∧ w.heap.size ≤ B ∧ Later w w'

set_option maxHeartbeats 400000 in
theorem new_any (w : World) : Calls Tryd.prog 19 #[] w (NewTree [] w) := by
  have hmm := @run_makeMap Tryd.prog
  go_enter Tryd.func19, Tryd.ntmps19
  go_wp2
  go_ret
  refine ⟨_, _, rfl, ⟨?_, [], (FA.made w).later ((Later.refl _).alloc _), rfl⟩, by simp, Nat.le_refl _, ((Later.refl _).alloc _).alloc _⟩
  simp

end Go.Proofs.YtboffgmaohcpfaaDoor

/-
  What prim's deeds comes to, as a call: a new map from kinds to functions.
-/
namespace Go.Proofs.YtboffgmaohcpfaaDoor
open Go.RowKit Go.Maps

/-- How a function reads: as itself. -/
def rawF (v : Value) : Option (DataW Value × List MemPlace) := some (.held v, [])

def deedV (f : FuncId) : Value := .func (.func f) #[] #[]
def deedsD : DataW Value := ((((DataW.map []).put (.int .i64 0) (.held (deedV 46))).put (.int .i64 1) (.held (deedV 47))).put (.int .i64 2) (.held (deedV 48))).put (.int .i64 3) (.held (deedV 49))

/-- Block B is the map of deeds. -/
def Deeds (w : World) (B : Nat) : Prop := w.ownsMap Tryd.prog 3 rawF B 4 deedsD

theorem keyed3 : Keyed Tryd.prog 3 := int_keyed Tryd.underlying3
theorem key3 {a : Int} (h : (Lit.int .i64 a).wf = true) : keyOf Tryd.prog 3 (.int .i64 a) = some (.int .i64 a) := keyOf_int_mk Tryd.underlying3 h

set_option maxHeartbeats 400000 in
theorem deeds_any (w : World) : Calls Tryd.prog 35 #[] w fun e w' => ∃ B, e = .returned (.map (some B)) ∧ Deeds w' B ∧ Later w w' := by
  have hmm := @run_makeMap Tryd.prog
  have o1 := World.ownsMap_made (H := Value) w Tryd.prog 3 rawF
  obtain ⟨w2, r2, o2, t2⟩ := o1.store keyed3 Tryd.underlying53 (by decide) (key3 (a := 0) (by decide)) (show rawF (deedV 46) = _ from rfl)
  obtain ⟨w3, r3, o3, t3⟩ := o2.store keyed3 Tryd.underlying53 (by decide) (key3 (a := 1) (by decide)) (show rawF (deedV 47) = _ from rfl)
  obtain ⟨w4, r4, o4, t4⟩ := o3.store keyed3 Tryd.underlying53 (by decide) (key3 (a := 2) (by decide)) (show rawF (deedV 48) = _ from rfl)
  obtain ⟨w5, r5, o5, t5⟩ := o4.store keyed3 Tryd.underlying53 (by decide) (key3 (a := 3) (by decide)) (show rawF (deedV 49) = _ from rfl)
  have hl : Later w w5 := ((((Later.refl w).alloc _).turn (Turned.of_map t2) (Nat.le_refl _)).turn (Turned.of_map t3) (Nat.le_refl _)).turn (Turned.of_map t4) (Nat.le_refl _) |>.turn (Turned.of_map t5) (Nat.le_refl _)
  have O5 := Lib.hid o5; have HL := Lib.hid hl
  unfold deedV at r2 r3 r4 r5
  clear o1 o2 o3 o4 o5 t2 t3 t4 t5 hl
  go_enter Tryd.func35, Tryd.ntmps35
  go_wp2
  go_ret
  exact ⟨_, rfl, O5.out, HL.out⟩

/-- What is found there. -/
def deedAt (k : Int) : FuncId := if k = 0 then 46 else if k = 1 then 47 else if k = 2 then 48 else 49
theorem Deeds.look {w : World} {B : Nat} (h : Deeds w B) {k : Int} (hk : k = 0 ∨ k = 1 ∨ k = 2 ∨ k = 3) :
    (Instr.lookup 53 (.map (some B)) (.int .i64 k) false).run Tryd.prog w = .ok (.func (.func (deedAt k)) #[] #[]) w := by
  have hz : (zeroValue 52).run Tryd.prog w = .ok .nilFunc w := by kernel_rfl
  have hw : (Lit.int .i64 k).wf = true := by rcases hk with rfl | rfl | rfl | rfl <;> decide
  obtain ⟨v, ps, hrun, hv⟩ := World.ownsMap.lookup h keyed3 Tryd.underlying53 hz (show rawF .nilFunc = _ from rfl) (key3 hw)
  have e : deedsD.atKey (.int .i64 k) (.held .nilFunc) = .held (deedV (deedAt k)) := by rcases hk with rfl | rfl | rfl | rfl <;> rfl
  rw [e] at hv
  simp only [rawF, Option.some.injEq, Prod.mk.injEq, DataW.held.injEq] at hv
  rw [hrun, hv.1]
  rfl
theorem Deeds.later {w w' : World} {B : Nat} (h : Deeds w B) (hl : Later w w') : Deeds w' B := h.kept (row := none) ⟨hl.os, hl.tape, hl.output, hl.size, fun i hi _ => hl.block i hi⟩ (by simp)

end Go.Proofs.YtboffgmaohcpfaaDoor

/-
  What tree's Add, Remove, Move, Put and Get come to, as calls.
-/
namespace Go.Proofs.YtboffgmaohcpfaaDoor
open Go.RowKit Go.Maps

/-- An error's number; the tree is what the document says; nothing else has turned. -/
def Does (r : Tr × Int) (p B : Nat) (w : World) (e : Ending) (w' : World) : Prop := e = .returned (.int .i64 r.2) ∧ TreeAt w' p B r.1 ∧ Turned B w w'

theorem Does.same {t : Tr} {p B : Nat} {w : World} {k : Int} (h : TreeAt w p B t) : Does (t, k) p B w (.returned (.int .i64 k)) w := ⟨rfl, h, Turned.refl _ _⟩

set_option maxHeartbeats 400000 in
theorem add_any (p B : Nat) (nm : ByteArray) (t : Tr) (w : World) (ht : TreeAt w p B t) (hs : nm.size ≤ maxLen) (hl : t.length ≤ 65536) :
    Calls Tryd.prog 20 #[.pointer (some ⟨p, 0, none⟩), .string nm] w (Does (addT t nm) p B w) := by
  have hn := named_any nm w hs
  have hh := has_any p B nm t w ht hs
  cases h1 : namedB nm
  · rw [h1] at hn
    have E : Hid (addT t nm = (t, 20)) := by simp [Hid, addT, h1]
    rw [E.out]
    have HN := Lib.hid hn; have HT := Lib.hid ht
    clear hn hh h1 ht E
    go_enter Tryd.func20, Tryd.ntmps20
    go_wp2_with (go_at_call 24; refine HN.out.mono ?_; rintro e w' ⟨rfl, rfl⟩)
    go_ret
    exact Does.same HT.out
  · rw [h1] at hn
    cases h2 : hasT t nm
    · rw [h2] at hh
      have E : Hid (addT t nm = (withT t nm [], 0)) := by simp [Hid, addT, h1, h2]
      rw [E.out]
      have HT := Lib.hid ht
      obtain ⟨hc, z, hz, rfl⟩ := ht
      have HZ := Lib.hid hz
      have HN := Lib.hid hn; have HH := Lib.hid hh
      have hzl : z.length < maxLen := by rw [mapT_length] at hl; simp only [maxLen]; omega
      clear hn hh h1 h2 E hl hz
      go_enter Tryd.func20, Tryd.ntmps20
      go_wp2_with (first
        | (go_at_call 24; refine HN.out.mono ?_; rintro e w' ⟨rfl, rfl⟩)
        | (go_at_call 33; refine HH.out.mono ?_; rintro e w' ⟨rfl, rfl⟩)
        | (at_mapUpdate; refine wpList_mapUpdate_in _ rfl _ _ _ 49 rfl 9 22 keyed9 Tryd.underlying49 raw B z.length _ rfl HZ.out.own hzl _ _ _ rfl rfl (key9 hs) _ [] (raw_mk none 0 0) ?_; intro w1 hown1 hturn1; have HO := Lib.hid hown1; have HU := Lib.hid hturn1; clear hown1 hturn1))
      go_ret
      have hg := Turned.of_map HU.out
      exact ⟨rfl, HT.out.to hg ⟨_, HZ.out.put HO.out HU.out (Reads.nil w), (withT_map (fun x : Held => x.2) z nm (_, [])).symm⟩, hg⟩
    · rw [h2] at hh
      have E : Hid (addT t nm = (t, 21)) := by simp [Hid, addT, h1, h2]
      rw [E.out]
      have HN := Lib.hid hn; have HH := Lib.hid hh; have HT := Lib.hid ht
      clear hn hh h1 h2 ht E
      go_enter Tryd.func20, Tryd.ntmps20
      go_wp2_with (first
        | (go_at_call 24; refine HN.out.mono ?_; rintro e w' ⟨rfl, rfl⟩)
        | (go_at_call 33; refine HH.out.mono ?_; rintro e w' ⟨rfl, rfl⟩))
      go_ret
      exact Does.same HT.out

set_option maxHeartbeats 400000 in
theorem remove_any (p B : Nat) (nm : ByteArray) (t : Tr) (w : World) (ht : TreeAt w p B t) (hs : nm.size ≤ maxLen) (hl : ∀ f ∈ t, f.2.length ≤ 65536) :
    Calls Tryd.prog 68 #[.pointer (some ⟨p, 0, none⟩), .string nm] w (Does (removeT t nm) p B w) := by
  have HT := Lib.hid ht
  obtain ⟨hc, z, hz, rfl⟩ := ht
  cases hg : getT z nm with
  | none =>
    have E : Hid (removeT (mapT (·.2) z) nm = (mapT (·.2) z, 20)) := by simp [Hid, removeT, getT_map, hg]
    rw [E.out]
    have hl := hz.look_no hs hg
    clear hz hg E
    go_enter Tryd.func68, Tryd.ntmps68
    go_wp2
    go_ret
    exact Does.same HT.out
  | some x =>
    have hlk := hz.look_yes hs hg
    obtain ⟨A, n, c, hv, hnc, hr⟩ := hz.get hg
    have hlen : n ≤ 65536 := by
      have := hl (nm, x.2) (by simp only [mapT, List.mem_map]; exact ⟨_, getT_mem hg, rfl⟩)
      rw [← hr.len]; exact this
    rw [hv] at hlk
    by_cases h0 : 0 < n
    · have E : Hid (removeT (mapT (·.2) z) nm = (mapT (·.2) z, 22)) := by simp [Hid, removeT, getT_map, hg, hr.len, h0]
      rw [E.out]
      have hd : decide (0 < n) = true := by simpa using h0
      clear hz hg E hr hv hl
      go_enter Tryd.func68, Tryd.ntmps68
      go_wp2
      go_ret
      exact Does.same HT.out
    · have E : Hid (removeT (mapT (·.2) z) nm = (withoutT (mapT (·.2) z) nm, 0)) := by simp [Hid, removeT, getT_map, hg, hr.len, h0]
      rw [E.out]
      have hd : decide (0 < n) = false := by simpa using h0
      have HZ := Lib.hid hz
      clear hz hg E hr hv hl
      go_enter Tryd.func68, Tryd.ntmps68
      go_wp2_with (at_delete; refine wpList_delete_own _ rfl _ _ 49 9 rfl 22 keyed9 Tryd.underlying49 raw B z.length _ rfl HZ.out.own _ _ rfl (key9 hs) ?_; intro w1 hown1 hturn1; have HO := Lib.hid hown1; have HU := Lib.hid hturn1; clear hown1 hturn1)
      go_ret
      have hg := Turned.of_map HU.out
      exact ⟨rfl, HT.out.to hg ⟨_, HZ.out.del HO.out HU.out, (withoutT_map (fun x : Held => x.2) z nm).symm⟩, hg⟩

end Go.Proofs.YtboffgmaohcpfaaDoor
