/-
  What Same, Head, Tail of the document's own answers come to.
-/
import Derived.Test.YtimljhmbaobgnaaWalk3
namespace Go.Proofs.Ytimljhmbaobgnaa
open Go.RowKit

set_option maxHeartbeats 400000 in
theorem refSame_any (A B : Option Addr) (n c m d : Nat) (xs ys : List ByteArray) (w : World) (hx : Row w A n xs) (hy : Row w B m ys) (hn : n ≤ 65536) (hm : m ≤ 65536) :
    Calls Try.prog 26 #[.slice A n c, .slice B m d] w fun e w' => e = .returned (.bool (sameB xs ys)) ∧ ∃ q, w' = w.drewN q := by
  by_cases hnm : n = m
  · subst hnm
    have HX := Lib.hid hx; clear hx
    have HY := Lib.hid hy; clear hy
    go_enter Try.func26, Try.ntmps26
    go_wp2
    go_loopg [5] n (fun g s5 wr => ∃ k q : Nat, k ≤ n ∧ n - k ≤ g ∧ s5 = .int .i64 k ∧ wr = w.drewN q ∧ Hid (xs.take k = ys.take k))
    case atStart => exact ⟨0, 0, Nat.zero_le _, by omega, rfl, rfl, by simp [Hid]⟩
    case round =>
      obtain ⟨k, q, hk, hg, rfl, rfl, heq⟩ := hrel
      by_cases hlt : k < n
      · obtain ⟨b1, o1, rfl, g1⟩ := HX.out.get hlt
        obtain ⟨b2, o2, rfl, g2⟩ := HY.out.get hlt
        generalize hxk : xs.getD k ByteArray.empty = x at g1
        generalize hyk : ys.getD k ByteArray.empty = y at g2
        have X := Lib.hid hxk; clear hxk
        have Y := Lib.hid hyk; clear hyk
        by_cases hxy : x = y
        · subst hxy
          go_wp2_with fail
          go_quiet (fail)
          go_wp2
          go_roundg (n - (k + 1))
          case measure => omega
          case rel => exact ⟨k + 1, _, by omega, by omega, by go_num, rfl, take_same (by rw [HX.out.len]; exact hlt) (by rw [HY.out.len]; exact hlt) heq.out (X.out.trans Y.out.symm)⟩
        · have hb := text_ne hxy
          go_wp2_with fail
          go_quiet (fail)
          go_wp2
          go_ret
          exact ⟨ret_bool (beq_of_other (by rw [X.out, Y.out]; exact hxy)).symm, _, World.drewN_drewN _ _ _⟩
      · have hkn : k = n := by omega
        have e : sameB xs ys = true := by
          rw [hkn, List.take_of_length_le (by rw [HX.out.len]; omega), List.take_of_length_le (by rw [HY.out.len]; omega)] at heq
          exact sameB_yes heq.out
        have E := Lib.hid e; clear e heq
        go_wp2
        go_ret
        exact ⟨ret_bool E.out.symm, _, rfl⟩
  · have e : sameB xs ys = false := by
      refine sameB_no fun h => ?_; rw [h] at hx; exact hnm (hx.len.symm.trans hy.len)
    have E := Lib.hid e; clear e hx hy
    have hnm' : ¬ (n : Int) = (m : Int) := by omega
    go_enter Try.func26, Try.ntmps26
    go_wp2
    go_ret
    exact ⟨ret_bool E.out.symm, 0, rfl⟩

set_option maxHeartbeats 400000 in
theorem refHead_any (A B : Option Addr) (n c m d : Nat) (xs ys : List ByteArray) (w : World) (hx : Row w A n xs) (hy : Row w B m ys) (hc : n ≤ c) (hd : m ≤ d) (hn : n ≤ 65536) (hm : m ≤ 65536) :
    Calls Try.prog 30 #[.slice A n c, .slice B m d] w fun e w' => e = .returned (.int .i64 (headN xs ys)) ∧ ∃ q, w' = w.drewN q := by
  have HX := Lib.hid hx; clear hx
  have HY := Lib.hid hy; clear hy
  go_enter Try.func30, Try.ntmps30
  go_wp2
  go_loopg [5, 6] (n + 1) (fun g s5 s6 wr => ∃ k p : Nat, k ≤ n ∧ k ≤ m ∧ n - k ≤ g ∧ s6 = .int .i64 (k + 1 : Nat) ∧ s5 = .int .i64 p ∧ Drew w wr ∧ Hid (p = min k (headN xs ys)))
  case atStart => exact ⟨0, 0, Nat.zero_le _, Nat.zero_le _, by omega, by go_num, rfl, Drew.refl w, by simp [Hid]⟩
  case round =>
    obtain ⟨k, p, hk, hk2, hg, rfl, rfl, hwr, hp⟩ := hrel
    by_cases hlt : k < n
    · by_cases hlt2 : k < m
      · have hst := fun W (hW : Drew wr W) => refSame_any A B (k + 1) c (k + 1) d (xs.take (k + 1)) (ys.take (k + 1)) W
          ((HX.out.later (hwr.later.trans hW.later)).take (by omega)) ((HY.out.later (hwr.later.trans hW.later)).take (by omega)) (by omega) (by omega)
        have hcz : ¬ c = 0 := by omega
        have hdz : ¬ d = 0 := by omega
        have hk0 : (0 : Int) ≤ (k : Int) + 1 := by omega
        have hkc : (k : Int) + 1 ≤ (c : Int) := by omega
        have hkd : (k : Int) + 1 ≤ (d : Int) := by omega
        have ht : ((k : Int) + 1).toNat = k + 1 := by omega
        have hle := le_headN (k + 1) xs ys (by rw [HX.out.len]; omega) (by rw [HY.out.len]; omega)
        by_cases hxy : xs.take (k + 1) = ys.take (k + 1)
        · have hmin : k + 1 = min (k + 1) (headN xs ys) := by have := hle.1 hxy; omega
          have HM := Lib.hid hmin; clear hmin
          rw [sameB_yes hxy] at hst
          have HS := Lib.hid hst; clear hst hle hxy
          go_wp2_with fail
          go_quiet ((go_at_call 26; exact Calls.quiet_of (HS.out _ ⟨_, rfl⟩)))
          go_wp2
          go_roundg (n - (k + 1))
          case measure => omega
          case rel => exact ⟨k + 1, k + 1, by omega, by omega, by omega, by go_num, by go_num, hwr.more _, HM⟩
        · have hmin : p = min (k + 1) (headN xs ys) := by have := hp.out; have := mt hle.2 hxy; omega
          have HM := Lib.hid hmin; clear hmin
          rw [sameB_no hxy] at hst
          have HS := Lib.hid hst; clear hst hle hxy
          go_wp2_with fail
          go_quiet ((go_at_call 26; exact Calls.quiet_of (HS.out _ ⟨_, rfl⟩)))
          go_wp2
          go_roundg (n - (k + 1))
          case measure => omega
          case rel => exact ⟨k + 1, p, by omega, by omega, by omega, by go_num, rfl, hwr.more _, HM⟩
      · have e : (p : Int) = headN xs ys := by have := hp.out; have := headN_right xs ys; rw [HY.out.len] at this; omega
        have E := Lib.hid e; clear e hp
        obtain ⟨q, hq⟩ := hwr
        have Q := Lib.hid hq; clear hq
        have hd : decide ((k : Int) + 1 ≤ m) = false := by simp; omega
        go_wp2
        go_ret
        exact ⟨ret_int E.out, q, Q.out⟩
    · have e : (p : Int) = headN xs ys := by have := hp.out; have := headN_left xs ys; rw [HX.out.len] at this; omega
      have E := Lib.hid e; clear e hp
      obtain ⟨q, hq⟩ := hwr
      have Q := Lib.hid hq; clear hq
      have hd : decide ((k : Int) + 1 ≤ n) = false := by simp; omega
      go_wp2
      go_ret
      exact ⟨ret_int E.out, q, Q.out⟩

set_option maxHeartbeats 400000 in
theorem refTail_any (A B : Option Addr) (n c m d : Nat) (xs ys : List ByteArray) (w : World) (hx : Row w A n xs) (hy : Row w B m ys) (hc : n ≤ c) (hd : m ≤ d) (hn : n ≤ 65536) (hm : m ≤ 65536) :
    Calls Try.prog 32 #[.slice A n c, .slice B m d] w fun e w' => e = .returned (.int .i64 (tailN xs ys)) ∧ ∃ q, w' = w.drewN q := by
  have HX := Lib.hid hx; clear hx
  have HY := Lib.hid hy; clear hy
  go_enter Try.func32, Try.ntmps32
  go_wp2
  go_loopg [5, 6] (n + 1) (fun g s5 s6 wr => ∃ k p : Nat, k ≤ n ∧ k ≤ m ∧ n - k ≤ g ∧ s6 = .int .i64 (k + 1 : Nat) ∧ s5 = .int .i64 p ∧ Drew w wr ∧ Hid (p = min k (tailN xs ys)))
  case atStart => exact ⟨0, 0, Nat.zero_le _, Nat.zero_le _, by omega, by go_num, rfl, Drew.refl w, by simp [Hid]⟩
  case round =>
    obtain ⟨k, p, hk, hk2, hg, rfl, rfl, hwr, hp⟩ := hrel
    by_cases hlt : k < n
    · by_cases hlt2 : k < m
      · have hst := fun W (hW : Drew wr W) => refSame_any (A.map (·.add (n - (k + 1)))) (B.map (·.add (m - (k + 1)))) (n - (n - (k + 1))) (c - (n - (k + 1))) (m - (m - (k + 1))) (d - (m - (k + 1))) (xs.drop (n - (k + 1))) (ys.drop (m - (k + 1))) W
          ((HX.out.later (hwr.later.trans hW.later)).drop (by omega)) ((HY.out.later (hwr.later.trans hW.later)).drop (by omega)) (by omega) (by omega)
        have hle := le_tailN (k := k + 1) (xs := xs) (ys := ys) (by rw [HX.out.len]; omega) (by rw [HY.out.len]; omega)
        rw [HX.out.len, HY.out.len] at hle
        have hcz : ¬ c = n - (k + 1) := by omega
        have hdz : ¬ d = m - (k + 1) := by omega
        have w1 : IntKind.i64.wrap ((n : Int) - ((k : Int) + 1)) = (n : Int) - ((k : Int) + 1) := IntWalk.i64_in _ (by omega)
        have w2 : IntKind.i64.wrap ((m : Int) - ((k : Int) + 1)) = (m : Int) - ((k : Int) + 1) := IntWalk.i64_in _ (by omega)
        have t1 : ((n : Int) - ((k : Int) + 1)).toNat = n - (k + 1) := by omega
        have t2 : ((m : Int) - ((k : Int) + 1)).toNat = m - (k + 1) := by omega
        have p1 : (0 : Int) ≤ (n : Int) - ((k : Int) + 1) := by omega
        have p2 : (0 : Int) ≤ (m : Int) - ((k : Int) + 1) := by omega
        have p3 : (n : Int) - ((k : Int) + 1) ≤ n := by omega
        have p4 : (m : Int) - ((k : Int) + 1) ≤ m := by omega
        by_cases hxy : xs.drop (n - (k + 1)) = ys.drop (m - (k + 1))
        · have hmin : k + 1 = min (k + 1) (tailN xs ys) := by have := hle.1 hxy; omega
          have HM := Lib.hid hmin; clear hmin
          rw [sameB_yes hxy] at hst
          have HS := Lib.hid hst; clear hst hle hxy
          go_wp2_with fail
          go_quiet ((go_at_call 26; exact Calls.quiet_of (HS.out _ ⟨_, rfl⟩)))
          clear w1 w2 t1 t2 p1 p2 p3 p4
          go_wp2
          go_roundg (n - (k + 1))
          case measure => omega
          case rel => exact ⟨k + 1, k + 1, by omega, by omega, by omega, by go_num, by go_num, hwr.more _, HM⟩
        · have hmin : p = min (k + 1) (tailN xs ys) := by have := hp.out; have := mt hle.2 hxy; omega
          have HM := Lib.hid hmin; clear hmin
          rw [sameB_no hxy] at hst
          have HS := Lib.hid hst; clear hst hle hxy
          go_wp2_with fail
          go_quiet ((go_at_call 26; exact Calls.quiet_of (HS.out _ ⟨_, rfl⟩)))
          clear w1 w2 t1 t2 p1 p2 p3 p4
          go_wp2
          go_roundg (n - (k + 1))
          case measure => omega
          case rel => exact ⟨k + 1, p, by omega, by omega, by omega, by go_num, rfl, hwr.more _, HM⟩
      · have e : (p : Int) = tailN xs ys := by have := hp.out; have := tailN_right xs ys; rw [HY.out.len] at this; omega
        have E := Lib.hid e; clear e hp
        obtain ⟨q, hq⟩ := hwr
        have Q := Lib.hid hq; clear hq
        have hd : decide ((k : Int) + 1 ≤ m) = false := by simp; omega
        go_wp2
        go_ret
        exact ⟨ret_int E.out, q, Q.out⟩
    · have e : (p : Int) = tailN xs ys := by have := hp.out; have := tailN_left xs ys; rw [HX.out.len] at this; omega
      have E := Lib.hid e; clear e hp
      obtain ⟨q, hq⟩ := hwr
      have Q := Lib.hid hq; clear hq
      have hd : decide ((k : Int) + 1 ≤ n) = false := by simp; omega
      go_wp2
      go_ret
      exact ⟨ret_int E.out, q, Q.out⟩

end Go.Proofs.Ytimljhmbaobgnaa
