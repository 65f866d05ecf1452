/-
  What prim's changesLines and hasNoLines come to, as calls.
-/
import Derived.Test.YtalgapoigkbiaaaPrMem
import Derived.Test.YtalgapoigkbiaaaLAll
import Derived.Test.YtalgapoigkbiaaaLSame
import Derived.Deep.LoopGhost
import Derived.Deep.QuietTactic
import Derived.BigQuiet
import Derived.Lib.Hide
namespace Go.Proofs.Ytalgapoigkbiaaa
open Go.RowKit

set_option maxHeartbeats 400000 in
theorem changes_any (x : PrC) (w : World) (hx : PrOk w x) :
    Calls Try.prog 41 #[prV x] w (Says (allB x.v.old && allB x.v.new && !sameB x.v.old x.v.new) w) := by
  obtain ⟨⟨kd, nm, to, pl, old, new⟩, A, n, c, B, m, d⟩ := x
  unfold prV
  dsimp only
  have hlb : Later w (w.alloc (.cells #[.int .i64 kd, .string nm, .string to, .int .i64 pl, .slice A n c, .slice B m d] 27)) := (Later.refl w).alloc _
  have H1 := Lib.hid (all_any A n c old _ (hx.old.later hlb) hx.omost hx.olds)
  have H2 := Lib.hid (all_any B m d new _ (hx.new.later hlb) hx.nmost hx.news)
  have H3 := Lib.hid (same_any A B n c m d old new _ (hx.old.later hlb) (hx.new.later hlb) hx.omost hx.nmost)
  have HLB := Lib.hid hlb
  clear hx hlb
  cases h1 : allB old
  · rw [h1] at H1
    go_enter Try.func41, Try.ntmps41
    go_wp2_with fail
    refine H1.out.mono ?_
    rintro e w1 ⟨rfl, rfl⟩
    go_wp2
    go_ret
    exact ⟨rfl, HLB.out⟩
  · rw [h1] at H1
    cases h2 : allB new
    · rw [h2] at H2
      go_enter Try.func41, Try.ntmps41
      go_wp2_with fail
      refine H1.out.mono ?_
      rintro e w1 ⟨rfl, rfl⟩
      go_wp2_with fail
      refine H2.out.mono ?_
      rintro e w1 ⟨rfl, rfl⟩
      go_wp2
      go_ret
      exact ⟨rfl, HLB.out⟩
    · rw [h2] at H2
      generalize sameB old new = b at H3 ⊢
      go_enter Try.func41, Try.ntmps41
      go_wp2_with fail
      refine H1.out.mono ?_
      rintro e w1 ⟨rfl, rfl⟩
      go_wp2_with fail
      refine H2.out.mono ?_
      rintro e w1 ⟨rfl, rfl⟩
      go_wp2_with fail
      refine H3.out.mono ?_
      rintro e w1 ⟨rfl, q, rfl⟩
      go_wp2
      go_ret
      exact ⟨rfl, HLB.out.drewN q⟩

/-- No place, no lines. -/
def bareP (p : Pr) : Bool := decide (p.place = 0) && decide (p.old = []) && decide (p.new = [])

set_option maxHeartbeats 400000 in
theorem bare_any (x : PrC) (w : World) (hx : PrOk w x) :
    Calls Try.prog 42 #[prV x] w (Says (bareP x.v) w) := by
  obtain ⟨⟨kd, nm, to, pl, old, new⟩, A, n, c, B, m, d⟩ := x
  unfold prV
  dsimp only
  have hlb : Later w (w.alloc (.cells #[.int .i64 kd, .string nm, .string to, .int .i64 pl, .slice A n c, .slice B m d] 27)) := (Later.refl w).alloc _
  have HLB := Lib.hid hlb
  have hn := hx.old.len
  have hm := hx.new.len
  have hn1 := hx.omost
  have hm1 := hx.nmost
  dsimp only at hn hm hn1 hm1
  clear hx hlb
  by_cases h0 : pl = 0
  · subst h0
    by_cases h1 : n = 0
    · have e1 : old = [] := List.eq_nil_of_length_eq_zero (hn.trans h1)
      by_cases h2 : m = 0
      · have e2 : new = [] := List.eq_nil_of_length_eq_zero (hm.trans h2)
        have E : Hid (bareP ⟨kd, nm, to, 0, old, new⟩ = true) := by simp [Hid, bareP, e1, e2]
        subst h1 h2
        clear e1 e2
        go_enter Try.func42, Try.ntmps42
        go_wp2
        go_ret
        exact ⟨ret_bool E.out.symm, HLB.out⟩
      · have e2 : new ≠ [] := by rintro rfl; exact h2 hm.symm
        have E : Hid (bareP ⟨kd, nm, to, 0, old, new⟩ = false) := by simp [Hid, bareP, e2]
        subst h1
        have h2' : ¬ (m : Int) = 0 := by omega
        clear e1 e2
        go_enter Try.func42, Try.ntmps42
        go_wp2
        go_ret
        exact ⟨by rw [E.out]; simp [h2], HLB.out⟩
    · have e1 : old ≠ [] := by rintro rfl; exact h1 hn.symm
      have E : Hid (bareP ⟨kd, nm, to, 0, old, new⟩ = false) := by simp [Hid, bareP, e1]
      have h1' : ¬ (n : Int) = 0 := by omega
      clear e1
      go_enter Try.func42, Try.ntmps42
      go_wp2
      go_ret
      exact ⟨ret_bool E.out.symm, HLB.out⟩
  · have E : Hid (bareP ⟨kd, nm, to, pl, old, new⟩ = false) := by simp [Hid, bareP, h0]
    go_enter Try.func42, Try.ntmps42
    go_wp2
    go_ret
    exact ⟨ret_bool E.out.symm, HLB.out⟩

end Go.Proofs.Ytalgapoigkbiaaa
