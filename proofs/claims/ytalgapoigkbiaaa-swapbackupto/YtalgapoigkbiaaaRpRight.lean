/-
  What the document's Right comes to, as a call.
-/
import Derived.Test.YtalgapoigkbiaaaPmRight
import Derived.Test.YtalgapoigkbiaaaRAll
import Derived.Test.YtalgapoigkbiaaaRSame
namespace Go.Proofs.Ytalgapoigkbiaaa
open Go.RowKit

set_option maxRecDepth 100000 in
set_option maxHeartbeats 800000 in
theorem refRightP_any (x : PrC) (w : World) (hx : PrOk w x) :
    Calls Try.prog 30 #[prV x] w (Says (rightP x.v) w) := by
  obtain ⟨⟨kd, nm, to, pl, old, new⟩, A, n, c, B, m, d⟩ := x
  have hlb : Later w (w.alloc (.cells #[.int .i64 kd, .string nm, .string to, .int .i64 pl, .slice A n c, .slice B m d] 24)) := (Later.refl w).alloc _
  have hn := refNamed_any nm (w.alloc (.cells #[.int .i64 kd, .string nm, .string to, .int .i64 pl, .slice A n c, .slice B m d] 24)) hx.name
  have ht := refNamed_any to (w.alloc (.cells #[.int .i64 kd, .string nm, .string to, .int .i64 pl, .slice A n c, .slice B m d] 24)) hx.to
  have H1 := Lib.hid (refAll_any A n c old _ (hx.old.later hlb) hx.omost hx.olds)
  have H2 := Lib.hid (refAll_any B m d new _ (hx.new.later hlb) hx.nmost hx.news)
  have H3 := Lib.hid (refSame_any A B n c m d old new _ (hx.old.later hlb) (hx.new.later hlb) hx.omost hx.nmost)
  have hnl := hx.old.len
  have hml := hx.new.len
  have hn1 := hx.omost
  have hm1 := hx.nmost
  have HLB := Lib.hid hlb
  unfold prV
  dsimp only at hnl hml hn1 hm1 ⊢
  clear hx hlb
  cases h1 : namedB nm
  · rw [h1] at hn
    have HN := Lib.hid hn
    rw [rightP_name kd nm to pl old new h1]
    clear hn ht h1
    go_enter Try.func30, Try.ntmps30
    go_wp2_with fail
    refine HN.out.mono ?_
    rintro e w1 ⟨rfl, rfl⟩
    go_wp2
    go_ret
    exact ⟨rfl, HLB.out⟩
  rw [h1] at hn
  have HN := Lib.hid hn
  have HT := Lib.hid ht
  clear hn ht
  by_cases k0 : kd = 0
  · subst k0
    rw [rightP_hunk nm to pl old new h1]
    clear h1
    by_cases h2 : to = ByteArray.empty
    · subst h2
      by_cases h3 : 0 ≤ pl
      · by_cases h4 : pl ≤ 1048576
        · rw [decide_eq_true (show 0 ≤ pl ∧ pl ≤ 1048576 from ⟨h3, h4⟩), decide_eq_true (rfl : ByteArray.empty = ByteArray.empty), Bool.true_and, Bool.true_and]
          have d3 : ¬ pl < 0 := by omega
          have d4 : ¬ 1048576 < pl := by omega
          cases h5 : allB old
          · rw [h5] at H1
            go_enter Try.func30, Try.ntmps30
            go_wp2_with fail
            refine HN.out.mono ?_
            rintro e w1 ⟨rfl, rfl⟩
            go_wp2_with fail
            refine H1.out.mono ?_
            rintro e w1 ⟨rfl, rfl⟩
            go_wp2
            go_ret
            exact ⟨rfl, HLB.out⟩
          · rw [h5] at H1
            cases h6 : allB new
            · rw [h6] at H2
              go_enter Try.func30, Try.ntmps30
              go_wp2_with fail
              refine HN.out.mono ?_
              rintro e w1 ⟨rfl, rfl⟩
              go_wp2_with fail
              refine H1.out.mono ?_
              rintro e w1 ⟨rfl, rfl⟩
              go_wp2_with fail
              refine H2.out.mono ?_
              rintro e w1 ⟨rfl, rfl⟩
              go_wp2
              go_ret
              exact ⟨rfl, HLB.out⟩
            · rw [h6] at H2
              generalize sameB old new = b at H3 ⊢
              go_enter Try.func30, Try.ntmps30
              go_wp2_with fail
              refine HN.out.mono ?_
              rintro e w1 ⟨rfl, rfl⟩
              go_wp2_with fail
              refine H1.out.mono ?_
              rintro e w1 ⟨rfl, rfl⟩
              go_wp2_with fail
              refine H2.out.mono ?_
              rintro e w1 ⟨rfl, rfl⟩
              go_wp2_with fail
              refine H3.out.mono ?_
              rintro e w1 ⟨rfl, q, rfl⟩
              go_wp2
              go_ret
              exact ⟨rfl, HLB.out.drewN q⟩
        · have e : ¬ (0 ≤ pl ∧ pl ≤ 1048576) := fun h => h4 h.2
          rw [decide_eq_false e, Bool.and_false, Bool.false_and]
          have d3 : ¬ pl < 0 := by omega
          have d4 : 1048576 < pl := by omega
          clear e
          go_enter Try.func30, Try.ntmps30
          go_wp2_with fail
          refine HN.out.mono ?_
          rintro e w1 ⟨rfl, rfl⟩
          go_wp2
          go_ret
          exact ⟨rfl, HLB.out⟩
      · have e : ¬ (0 ≤ pl ∧ pl ≤ 1048576) := fun h => h3 h.1
        rw [decide_eq_false e, Bool.and_false, Bool.false_and]
        have d3 : pl < 0 := by omega
        clear e
        go_enter Try.func30, Try.ntmps30
        go_wp2_with fail
        refine HN.out.mono ?_
        rintro e w1 ⟨rfl, rfl⟩
        go_wp2
        go_ret
        exact ⟨rfl, HLB.out⟩
    · have hb := list_ne h2
      rw [decide_eq_false h2, Bool.false_and, Bool.false_and]
      go_enter Try.func30, Try.ntmps30
      go_wp2_with fail
      refine HN.out.mono ?_
      rintro e w1 ⟨rfl, rfl⟩
      go_wp2
      go_ret
      exact ⟨rfl, HLB.out⟩
  by_cases kb : kd < 0 ∨ 3 < kd
  · rw [rightP_none kd nm to pl old new (by omega) (by omega) (by omega) (by omega)]
    clear h1
    rcases kb with kb | kb
    · go_enter Try.func30, Try.ntmps30
      go_wp2_with fail
      refine HN.out.mono ?_
      rintro e w1 ⟨rfl, rfl⟩
      go_wp2
      go_ret
      exact ⟨rfl, HLB.out⟩
    · have kb' : ¬ kd < 0 := by omega
      go_enter Try.func30, Try.ntmps30
      go_wp2_with fail
      refine HN.out.mono ?_
      rintro e w1 ⟨rfl, rfl⟩
      go_wp2
      go_ret
      exact ⟨rfl, HLB.out⟩
  have kc : kd = 1 ∨ kd = 2 ∨ kd = 3 := by omega
  clear kb
  by_cases hbare : pl = 0 ∧ n = 0 ∧ m = 0
  · obtain ⟨rfl, rfl, rfl⟩ := hbare
    obtain rfl : old = [] := List.eq_nil_of_length_eq_zero hnl
    obtain rfl : new = [] := List.eq_nil_of_length_eq_zero hml
    rcases kc with rfl | rfl | rfl
    · by_cases h2 : to = ByteArray.empty
      · subst h2
        have E : Hid (rightP ⟨1, nm, ByteArray.empty, 0, [], []⟩ = true) := by simp [Hid, rightP, h1]
        clear h1
        go_enter Try.func30, Try.ntmps30
        go_wp2_with fail
        refine HN.out.mono ?_
        rintro e w1 ⟨rfl, rfl⟩
        go_wp2
        go_ret
        exact ⟨ret_bool E.out.symm, HLB.out⟩
      · have hb := list_ne h2
        have E : Hid (rightP ⟨1, nm, to, 0, [], []⟩ = false) := by simp [Hid, rightP, h1, h2]
        clear h1
        go_enter Try.func30, Try.ntmps30
        go_wp2_with fail
        refine HN.out.mono ?_
        rintro e w1 ⟨rfl, rfl⟩
        go_wp2
        go_ret
        exact ⟨by rw [E.out]; first | rfl | simp [hb], HLB.out⟩
    · by_cases h2 : to = ByteArray.empty
      · subst h2
        have E : Hid (rightP ⟨2, nm, ByteArray.empty, 0, [], []⟩ = true) := by simp [Hid, rightP, h1]
        clear h1
        go_enter Try.func30, Try.ntmps30
        go_wp2_with fail
        refine HN.out.mono ?_
        rintro e w1 ⟨rfl, rfl⟩
        go_wp2
        go_ret
        exact ⟨ret_bool E.out.symm, HLB.out⟩
      · have hb := list_ne h2
        have E : Hid (rightP ⟨2, nm, to, 0, [], []⟩ = false) := by simp [Hid, rightP, h1, h2]
        clear h1
        go_enter Try.func30, Try.ntmps30
        go_wp2_with fail
        refine HN.out.mono ?_
        rintro e w1 ⟨rfl, rfl⟩
        go_wp2
        go_ret
        exact ⟨by rw [E.out]; first | rfl | simp [hb], HLB.out⟩
    · rw [rightP_move nm to 0 [] [] h1]
      have eb : bareP ⟨3, nm, to, 0, [], []⟩ = true := by simp [bareP]
      rw [eb, Bool.and_true]
      clear h1 eb
      cases h2 : namedB to
      · rw [h2] at HT
        rw [Bool.false_and]
        go_enter Try.func30, Try.ntmps30
        go_wp2_with fail
        refine HN.out.mono ?_
        rintro e w1 ⟨rfl, rfl⟩
        go_wp2_with fail
        refine HT.out.mono ?_
        rintro e w1 ⟨rfl, rfl⟩
        go_wp2
        go_ret
        exact ⟨rfl, HLB.out⟩
      · rw [h2] at HT
        rw [Bool.true_and]
        by_cases h3 : to = nm
        · subst h3
          rw [decide_eq_false (fun h : to ≠ to => h rfl)]
          go_enter Try.func30, Try.ntmps30
          go_wp2_with fail
          refine HN.out.mono ?_
          rintro e w1 ⟨rfl, rfl⟩
          go_wp2_with fail
          refine HT.out.mono ?_
          rintro e w1 ⟨rfl, rfl⟩
          go_wp2
          go_ret
          exact ⟨by simp, HLB.out⟩
        · rw [decide_eq_true h3]
          have hb := text_ne h3
          go_enter Try.func30, Try.ntmps30
          go_wp2_with fail
          refine HN.out.mono ?_
          rintro e w1 ⟨rfl, rfl⟩
          go_wp2_with fail
          refine HT.out.mono ?_
          rintro e w1 ⟨rfl, rfl⟩
          go_wp2
          go_ret
          exact ⟨by first | rfl | simp [hb], HLB.out⟩
  · have E : Hid (rightP ⟨kd, nm, to, pl, old, new⟩ = false) := by
      have hb : bareP ⟨kd, nm, to, pl, old, new⟩ = false := by
        cases hq : bareP ⟨kd, nm, to, pl, old, new⟩
        · rfl
        · simp only [bareP, Bool.and_eq_true, decide_eq_true_eq] at hq
          obtain ⟨⟨rfl, rfl⟩, rfl⟩ := hq
          exact absurd ⟨rfl, hnl.symm, hml.symm⟩ hbare
      rcases kc with rfl | rfl | rfl
      · show _ = _
        rw [rightP_one 1 nm to pl old new h1 (.inl rfl), hb, Bool.and_false]
      · show _ = _
        rw [rightP_one 2 nm to pl old new h1 (.inr rfl), hb, Bool.and_false]
      · show _ = _
        rw [rightP_move nm to pl old new h1, hb, Bool.and_false, Bool.and_false]
    rw [E.out]
    clear h1 hnl hml E
    have c0 : ¬ kd < 0 := by omega
    have c3 : ¬ 3 < kd := by omega
    by_cases hp : pl = 0
    · subst hp
      by_cases hz : 0 < n
      · clear hbare kc
        go_enter Try.func30, Try.ntmps30
        go_wp2_with fail
        refine HN.out.mono ?_
        rintro e w1 ⟨rfl, rfl⟩
        go_wp2
        go_ret
        exact ⟨rfl, HLB.out⟩
      · obtain rfl : n = 0 := by omega
        have hq : 0 < m := by omega
        clear hbare kc
        go_enter Try.func30, Try.ntmps30
        go_wp2_with fail
        refine HN.out.mono ?_
        rintro e w1 ⟨rfl, rfl⟩
        go_wp2
        go_ret
        exact ⟨rfl, HLB.out⟩
    · clear hbare kc
      go_enter Try.func30, Try.ntmps30
      go_wp2_with fail
      refine HN.out.mono ?_
      rintro e w1 ⟨rfl, rfl⟩
      go_wp2
      go_ret
      exact ⟨rfl, HLB.out⟩

end Go.Proofs.Ytalgapoigkbiaaa
