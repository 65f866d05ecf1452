/-
  Package bytes: Equal, HasPrefix, and Repeat of one byte, as calls.
-/
import Derived.Test.YtknjkkdoeanhbaaBtClone
import Derived.Test.YtknjkkdoeanhbaaBkLaws
import Derived.Test.YtknjkkdoeanhbaaBtStr
import Derived.Deep.LoopGhost
import Derived.Deep.QuietTactic
import Derived.BigQuiet
import Derived.Lib.Hide
namespace Go.Proofs.Ytknjkkdoeanhbaa
open Go.RowKit

section
variable {w w' : World} {A B : Option Addr} {n m c e : Nat} {xs ys : Bs}
set_option maxRecDepth 100000 in
set_option maxHeartbeats 400000 in
theorem bytesEqual_any (hx : BsAt w A n xs) (hy : BsAt w B m ys) :
    Calls Try.prog 24 #[.slice A n c, .slice B m e] w fun e w' => e = .returned (.bool (decide (xs = ys))) ∧ w' = w := by
  have c1 := string_bytes w A n c xs hx
  have c2 := string_bytes w B m e ys hy
  clear hx hy
  go_enter Try.func24, Try.ntmps24
  go_wp2
  go_ret
  exact ⟨ret_bool (by by_cases h : xs = ys <;> simp [h]), rfl⟩
def hasP (xs ys : Bs) : Bool := decide (ys.length ≤ xs.length) && decide (xs.take ys.length = ys)
set_option maxRecDepth 100000 in
set_option maxHeartbeats 400000 in
theorem hasPrefix_any (hx : BsAt w A n xs) (hy : BsAt w B m ys) (hc : n ≤ c) :
    Calls Try.prog 19 #[.slice A n c, .slice B m e] w fun e w' => e = .returned (.bool (hasP xs ys)) ∧ w' = w := by
  have hlx := hx.len; have hly := hy.len
  by_cases h : m ≤ n
  · have hge : ((n : Int) ≥ (m : Int)) = True := by simp; omega
    have HE := Lib.hid (bytesEqual_any (c := c) (e := e) (hx.take h) hy)
    have hr : hasP xs ys = decide (xs.take m = ys) := by unfold hasP; rw [hlx, hly, decide_eq_true h, Bool.true_and]
    rw [hr]
    clear hx hy hr
    go_enter Try.func19, Try.ntmps19
    go_wp2_with fail
    refine HE.out.mono ?_
    rintro e w1 ⟨rfl, rfl⟩
    go_wp2
    go_ret
    exact ⟨rfl, rfl⟩
  · have hge : ((n : Int) ≥ (m : Int)) = False := by simp; omega
    have hr : hasP xs ys = false := by unfold hasP; rw [hlx, hly, decide_eq_false h, Bool.false_and]
    rw [hr]
    clear hx hy hr
    go_enter Try.func19, Try.ntmps19
    go_wp2
    go_ret
    exact ⟨rfl, rfl⟩

set_option maxRecDepth 100000 in
set_option maxHeartbeats 400000 in
theorem mul64_one (w : World) : Calls Try.prog 50 #[.int .u64 1, .int .u64 64] w fun e w' => e = .returned (.tuple #[.int .u64 0, .int .u64 64]) ∧ w' = w := by
  go_enter Try.func50, Try.ntmps50
  go_wp2
  go_ret2
  exact ⟨rfl, rfl⟩
set_option maxRecDepth 100000 in
set_option maxHeartbeats 400000 in
theorem mul_one (w : World) : Calls Try.prog 46 #[.int .u64 1, .int .u64 64] w fun e w' => e = .returned (.tuple #[.int .u64 0, .int .u64 64]) ∧ w' = w := by
  have HM := Lib.hid (mul64_one w)
  go_enter Try.func46, Try.ntmps46
  go_wp2_with fail
  refine HM.out.mono ?_
  rintro e w1 ⟨rfl, rfl⟩
  go_wp2
  go_ret2
  exact ⟨rfl, rfl⟩
end

end Go.Proofs.Ytknjkkdoeanhbaa
