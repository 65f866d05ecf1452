/-
  What prim's Right comes to, as a call.
-/
import Derived.Test.YtalgapoigkbiaaaPmLines
import Derived.Test.YtalgapoigkbiaaaTrNamed
namespace Go.Proofs.Ytalgapoigkbiaaa
open Go.RowKit

theorem rightP_hunk (nm to : ByteArray) (pl : Int) (old new : List ByteArray) (hn : namedB nm = true) : rightP ⟨0, nm, to, pl, old, new⟩ = (decide (to = ByteArray.empty) && decide (0 ≤ pl ∧ pl ≤ 1048576) && (allB old && allB new && !sameB old new)) := by
  simp only [rightP, hn, Bool.true_and, if_true, Bool.and_assoc]
theorem rightP_one (k : Int) (nm to : ByteArray) (pl : Int) (old new : List ByteArray) (hn : namedB nm = true) (hk : k = 1 ∨ k = 2) : rightP ⟨k, nm, to, pl, old, new⟩ = (decide (to = ByteArray.empty) && bareP ⟨k, nm, to, pl, old, new⟩) := by
  have h0 : k ≠ 0 := by omega
  have h3 : k ≠ 3 := by omega
  simp only [rightP, bareP, hn, Bool.true_and, if_neg h0, if_neg h3, decide_eq_true hk]
  rw [Bool.and_comm]
theorem rightP_move (nm to : ByteArray) (pl : Int) (old new : List ByteArray) (hn : namedB nm = true) : rightP ⟨3, nm, to, pl, old, new⟩ = (namedB to && (decide (to ≠ nm) && bareP ⟨3, nm, to, pl, old, new⟩)) := by
  simp only [rightP, bareP, hn, Bool.true_and, Int.reduceEq, if_false, if_true]
  rw [Bool.and_comm, Bool.and_assoc]
theorem rightP_none (k : Int) (nm to : ByteArray) (pl : Int) (old new : List ByteArray) (h0 : k ≠ 0) (h1 : k ≠ 1) (h2 : k ≠ 2) (h3 : k ≠ 3) : rightP ⟨k, nm, to, pl, old, new⟩ = false := by
  simp [rightP, h0, h1, h2, h3]
theorem rightP_name (k : Int) (nm to : ByteArray) (pl : Int) (old new : List ByteArray) (hn : namedB nm = false) : rightP ⟨k, nm, to, pl, old, new⟩ = false := by
  simp [rightP, hn]

set_option maxRecDepth 100000 in
set_option maxHeartbeats 800000 in
theorem primRight_any (x : PrC) (w : World) (hx : PrOk w x) :
    Calls Try.prog 26 #[prV x] w (Says (rightP x.v) w) := by
  have hlb0 : Later w (w.alloc (.cells #[.int .i64 x.v.kind, .string x.v.name, .string x.v.to, .int .i64 x.v.place, .slice x.A x.n x.c, .slice x.B x.m x.d] 27)) := (Later.refl w).alloc _
  have HC := Lib.hid (changes_any x _ (hx.later hlb0))
  have HB := Lib.hid (bare_any x _ (hx.later hlb0))
  obtain ⟨⟨kd, nm, to, pl, old, new⟩, A, n, c, B, m, d⟩ := x
  have hn := named_any nm (w.alloc (.cells #[.int .i64 kd, .string nm, .string to, .int .i64 pl, .slice A n c, .slice B m d] 27)) hx.name
  have ht := named_any to (w.alloc (.cells #[.int .i64 kd, .string nm, .string to, .int .i64 pl, .slice A n c, .slice B m d] 27)) hx.to
  have HLB := Lib.hid hlb0
  unfold prV at HC HB ⊢
  dsimp only at HC HB HLB ⊢
  clear hx hlb0
  cases h1 : namedB nm
  · rw [h1] at hn
    have HN := Lib.hid hn
    rw [rightP_name kd nm to pl old new h1]
    clear hn ht h1
    go_enter Try.func26, Try.ntmps26
    go_wp2_with fail
    refine HN.out.mono ?_
    rintro e w1 ⟨rfl, rfl⟩
    go_wp2
    go_ret
    exact ⟨rfl, HLB.out⟩
  rw [h1] at hn
  have HN := Lib.hid hn
  have HT := Lib.hid ht
  clear hn ht
  by_cases k0 : kd = 0
  · subst k0
    rw [rightP_hunk nm to pl old new h1]
    clear h1
    by_cases h2 : to = ByteArray.empty
    · subst h2
      by_cases h3 : 0 ≤ pl
      · by_cases h4 : pl ≤ 1048576
        · rw [decide_eq_true (show 0 ≤ pl ∧ pl ≤ 1048576 from ⟨h3, h4⟩), decide_eq_true (rfl : ByteArray.empty = ByteArray.empty), Bool.true_and, Bool.true_and]
          generalize (allB old && allB new && !sameB old new) = b at HC ⊢
          go_enter Try.func26, Try.ntmps26
          go_wp2_with fail
          refine HN.out.mono ?_
          rintro e w1 ⟨rfl, rfl⟩
          go_wp2_with fail
          refine HC.out.mono ?_
          rintro e w1 ⟨rfl, hl1⟩
          have HL1 := Lib.hid hl1; clear hl1
          go_wp2
          go_ret
          exact ⟨rfl, HLB.out.trans HL1.out⟩
        · have e : ¬ (0 ≤ pl ∧ pl ≤ 1048576) := fun h => h4 h.2
          rw [decide_eq_false e, Bool.and_false, Bool.false_and]
          clear e
          go_enter Try.func26, Try.ntmps26
          go_wp2_with fail
          refine HN.out.mono ?_
          rintro e w1 ⟨rfl, rfl⟩
          go_wp2
          go_ret
          exact ⟨rfl, HLB.out⟩
      · have e : ¬ (0 ≤ pl ∧ pl ≤ 1048576) := fun h => h3 h.1
        rw [decide_eq_false e, Bool.and_false, Bool.false_and]
        clear e
        go_enter Try.func26, Try.ntmps26
        go_wp2_with fail
        refine HN.out.mono ?_
        rintro e w1 ⟨rfl, rfl⟩
        go_wp2
        go_ret
        exact ⟨rfl, HLB.out⟩
    · have hb := list_ne h2
      rw [decide_eq_false h2, Bool.false_and, Bool.false_and]
      go_enter Try.func26, Try.ntmps26
      go_wp2_with fail
      refine HN.out.mono ?_
      rintro e w1 ⟨rfl, rfl⟩
      go_wp2
      go_ret
      exact ⟨rfl, HLB.out⟩
  by_cases k12 : kd = 1 ∨ kd = 2
  · rw [rightP_one kd nm to pl old new h1 k12]
    clear h1
    by_cases h2 : to = ByteArray.empty
    · subst h2
      rw [decide_eq_true (rfl : ByteArray.empty = ByteArray.empty), Bool.true_and]
      generalize bareP ⟨kd, nm, ByteArray.empty, pl, old, new⟩ = b at HB ⊢
      rcases k12 with rfl | rfl
      all_goals
        go_enter Try.func26, Try.ntmps26
        go_wp2_with fail
        refine HN.out.mono ?_
        rintro e w1 ⟨rfl, rfl⟩
        go_wp2_with fail
        refine HB.out.mono ?_
        rintro e w1 ⟨rfl, hl1⟩
        have HL1 := Lib.hid hl1; clear hl1
        go_wp2
        go_ret
        exact ⟨rfl, HLB.out.trans HL1.out⟩
    · have hb := list_ne h2
      rw [decide_eq_false h2, Bool.false_and]
      rcases k12 with rfl | rfl
      all_goals
        go_enter Try.func26, Try.ntmps26
        go_wp2_with fail
        refine HN.out.mono ?_
        rintro e w1 ⟨rfl, rfl⟩
        go_wp2
        go_ret
        exact ⟨rfl, HLB.out⟩
  by_cases k3 : kd = 3
  · subst k3
    rw [rightP_move nm to pl old new h1]
    clear h1 k0 k12
    cases h2 : namedB to
    · rw [h2] at HT
      rw [Bool.false_and]
      go_enter Try.func26, Try.ntmps26
      go_wp2_with fail
      refine HN.out.mono ?_
      rintro e w1 ⟨rfl, rfl⟩
      go_wp2_with fail
      refine HT.out.mono ?_
      rintro e w1 ⟨rfl, rfl⟩
      go_wp2
      go_ret
      exact ⟨rfl, HLB.out⟩
    · rw [h2] at HT
      rw [Bool.true_and]
      clear h2
      by_cases h3 : to = nm
      · subst h3
        rw [decide_eq_false (fun h : to ≠ to => h rfl), Bool.false_and]
        go_enter Try.func26, Try.ntmps26
        go_wp2_with fail
        refine HN.out.mono ?_
        rintro e w1 ⟨rfl, rfl⟩
        go_wp2_with fail
        refine HT.out.mono ?_
        rintro e w1 ⟨rfl, rfl⟩
        go_wp2
        go_ret
        exact ⟨rfl, HLB.out⟩
      · rw [decide_eq_true h3, Bool.true_and]
        have hb := text_ne h3
        generalize bareP ⟨3, nm, to, pl, old, new⟩ = b at HB ⊢
        go_enter Try.func26, Try.ntmps26
        go_wp2_with fail
        refine HN.out.mono ?_
        rintro e w1 ⟨rfl, rfl⟩
        go_wp2_with fail
        refine HT.out.mono ?_
        rintro e w1 ⟨rfl, rfl⟩
        go_wp2_with fail
        refine HB.out.mono ?_
        rintro e w1 ⟨rfl, hl1⟩
        have HL1 := Lib.hid hl1; clear hl1
        go_wp2
        go_ret
        exact ⟨rfl, HLB.out.trans HL1.out⟩
  · have k1 : kd ≠ 1 := fun h => k12 (.inl h)
    have k2 : kd ≠ 2 := fun h => k12 (.inr h)
    rw [rightP_none kd nm to pl old new k0 k1 k2 k3]
    clear h1 k12
    go_enter Try.func26, Try.ntmps26
    go_wp2_with fail
    refine HN.out.mono ?_
    rintro e w1 ⟨rfl, rfl⟩
    go_wp2
    go_ret
    exact ⟨rfl, HLB.out⟩

end Go.Proofs.Ytalgapoigkbiaaa
