/-
  What Head, Tail and Find of the program come to.
-/
import Derived.Test.YtimljhmbaobgnaaWalk1
namespace Go.Proofs.Ytimljhmbaobgnaa
open Go.RowKit

set_option maxHeartbeats 400000 in
theorem head_any (A B : Option Addr) (n c m d : Nat) (xs ys : List ByteArray) (w : World) (hx : Row w A n xs) (hy : Row w B m ys) (hn : n ≤ 65536) :
    Calls Try.prog 29 #[.slice A n c, .slice B m d] w fun e w' => e = .returned (.int .i64 (headN xs ys)) ∧ ∃ q, w' = w.drewN q := by
  have HX := Lib.hid hx; clear hx
  have HY := Lib.hid hy; clear hy
  go_enter Try.func29, Try.ntmps29
  go_wp2
  go_loopg [5] n (fun g s5 wr => ∃ k q : Nat, k ≤ n ∧ k ≤ m ∧ n - k ≤ g ∧ s5 = .int .i64 k ∧ wr = w.drewN q ∧ Hid (xs.take k = ys.take k))
  case atStart => exact ⟨0, 0, Nat.zero_le _, Nat.zero_le _, by omega, rfl, rfl, by simp [Hid]⟩
  case round =>
    obtain ⟨k, q, hk, hk2, hg, rfl, rfl, heq⟩ := hrel
    have fin : (k = n ∨ k = m ∨ xs.getD k ByteArray.empty ≠ ys.getD k ByteArray.empty) → headN xs ys = k := fun hs =>
      headN_stop (by rw [HX.out.len]; exact hk) (by rw [HY.out.len]; exact hk2) heq.out (by rw [HX.out.len, HY.out.len]; exact hs)
    by_cases hlt : k < n
    · by_cases hlt2 : k < m
      · obtain ⟨b1, o1, rfl, g1⟩ := HX.out.get hlt
        obtain ⟨b2, o2, rfl, g2⟩ := HY.out.get hlt2
        by_cases hxy : xs.getD k ByteArray.empty = ys.getD k ByteArray.empty
        · have hst := take_same (by rw [HX.out.len]; exact hlt) (by rw [HY.out.len]; exact hlt2) heq.out hxy
          rw [hxy] at g1
          generalize ys.getD k ByteArray.empty = y at g1 g2
          clear fin hxy heq
          go_wp2_with fail
          go_quiet (fail)
          go_wp2
          go_roundg (n - (k + 1))
          case measure => omega
          case rel => exact ⟨k + 1, _, by omega, by omega, by omega, by go_num, rfl, hst⟩
        · have F := Lib.hid (fin (.inr (.inr hxy)))
          have hb := text_ne hxy
          generalize xs.getD k ByteArray.empty = x at g1 hb
          generalize ys.getD k ByteArray.empty = y at g2 hb
          clear fin hxy heq
          go_wp2_with fail
          go_quiet (fail)
          go_wp2
          go_ret
          exact ⟨by rw [F.out]; rfl, _, World.drewN_drewN _ _ _⟩
      · have F := Lib.hid (fin (.inr (.inl (by omega))))
        have hd : decide ((k : Int) < m) = false := by simp; omega
        clear fin heq
        go_wp2_with fail
        go_quiet (fail)
        go_wp2
        go_ret
        exact ⟨by rw [F.out]; rfl, _, World.drewN_drewN _ _ _⟩
    · have F := Lib.hid (fin (.inl (by omega)))
      clear fin heq
      go_wp2_with fail
      go_quiet (fail)
      go_wp2
      go_ret
      exact ⟨by rw [F.out]; rfl, _, World.drewN_drewN _ _ _⟩

set_option maxHeartbeats 400000 in
theorem tail_any (A B : Option Addr) (n c m d : Nat) (xs ys : List ByteArray) (w : World) (hx : Row w A n xs) (hy : Row w B m ys) (hn : n ≤ 65536) (hm : m ≤ 65536) :
    Calls Try.prog 31 #[.slice A n c, .slice B m d] w fun e w' => e = .returned (.int .i64 (tailN xs ys)) ∧ ∃ q, w' = w.drewN q := by
  have HX := Lib.hid hx; clear hx
  have HY := Lib.hid hy; clear hy
  go_enter Try.func31, Try.ntmps31
  go_wp2
  go_loopg [5] n (fun g s5 wr => ∃ k q : Nat, k ≤ n ∧ k ≤ m ∧ n - k ≤ g ∧ s5 = .int .i64 k ∧ wr = w.drewN q ∧ Hid (xs.reverse.take k = ys.reverse.take k))
  case atStart => exact ⟨0, 0, Nat.zero_le _, Nat.zero_le _, by omega, rfl, rfl, by simp [Hid]⟩
  case round =>
    obtain ⟨k, q, hk, hk2, hg, rfl, rfl, heq⟩ := hrel
    have fin : (k = n ∨ k = m ∨ (k < n ∧ k < m ∧ xs.getD (n - 1 - k) ByteArray.empty ≠ ys.getD (m - 1 - k) ByteArray.empty)) → tailN xs ys = k := fun hs =>
      tailN_stop (by rw [HX.out.len]; exact hk) (by rw [HY.out.len]; exact hk2) heq.out (by rw [HX.out.len, HY.out.len]; exact hs)
    by_cases hlt : k < n
    · by_cases hlt2 : k < m
      · obtain ⟨b1, o1, rfl, g1⟩ := HX.out.get (show n - 1 - k < n by omega)
        obtain ⟨b2, o2, rfl, g2⟩ := HY.out.get (show m - 1 - k < m by omega)
        have w1 : IntKind.i64.wrap ((n : Int) - 1) = (n : Int) - 1 := IntWalk.i64_in _ (by omega)
        have w2 : IntKind.i64.wrap ((n : Int) - 1 - (k : Int)) = (n : Int) - 1 - (k : Int) := IntWalk.i64_in _ (by omega)
        have w3 : IntKind.i64.wrap ((m : Int) - 1) = (m : Int) - 1 := IntWalk.i64_in _ (by omega)
        have w4 : IntKind.i64.wrap ((m : Int) - 1 - (k : Int)) = (m : Int) - 1 - (k : Int) := IntWalk.i64_in _ (by omega)
        have t1 : ((n : Int) - 1 - (k : Int)).toNat = n - 1 - k := by omega
        have t2 : ((m : Int) - 1 - (k : Int)).toNat = m - 1 - k := by omega
        have p1 : (0 : Int) ≤ (n : Int) - 1 - (k : Int) := by omega
        have p2 : (0 : Int) ≤ (m : Int) - 1 - (k : Int) := by omega
        have p3 : (n : Int) - 1 - (k : Int) < n := by omega
        have p4 : (m : Int) - 1 - (k : Int) < m := by omega
        by_cases hxy : xs.getD (n - 1 - k) ByteArray.empty = ys.getD (m - 1 - k) ByteArray.empty
        · have hst := tail_same (by rw [HX.out.len]; exact hlt) (by rw [HY.out.len]; exact hlt2) heq.out (by rw [HX.out.len, HY.out.len]; exact hxy)
          rw [hxy] at g1
          generalize ys.getD (m - 1 - k) ByteArray.empty = y at g1 g2
          clear fin hxy heq
          go_wp2_with fail
          go_quiet (fail)
          clear w1 w2 w3 w4 t1 t2 p1 p2 p3 p4
          go_wp2
          go_roundg (n - (k + 1))
          case measure => omega
          case rel => exact ⟨k + 1, _, by omega, by omega, by omega, by go_num, rfl, hst⟩
        · have F := Lib.hid (fin (.inr (.inr ⟨hlt, hlt2, hxy⟩)))
          have hb := text_ne hxy
          generalize xs.getD (n - 1 - k) ByteArray.empty = x at g1 hb
          generalize ys.getD (m - 1 - k) ByteArray.empty = y at g2 hb
          clear fin hxy heq
          go_wp2_with fail
          go_quiet (fail)
          clear w1 w2 w3 w4 t1 t2 p1 p2 p3 p4
          go_wp2
          go_ret
          exact ⟨by rw [F.out]; rfl, _, World.drewN_drewN _ _ _⟩
      · have F := Lib.hid (fin (.inr (.inl (by omega))))
        have hd : decide ((k : Int) < m) = false := by simp; omega
        clear fin heq
        go_wp2_with fail
        go_quiet (fail)
        go_wp2
        go_ret
        exact ⟨by rw [F.out]; rfl, _, World.drewN_drewN _ _ _⟩
    · have F := Lib.hid (fin (.inl (by omega)))
      clear fin heq
      go_wp2_with fail
      go_quiet (fail)
      go_wp2
      go_ret
      exact ⟨by rw [F.out]; rfl, _, World.drewN_drewN _ _ _⟩

set_option maxHeartbeats 400000 in
theorem find_any (A B : Option Addr) (n c m d : Nat) (l part : List ByteArray) (f : Int) (w : World) (hx : Row w A n l) (hy : Row w B m part) (hc : n ≤ c) (hn : n ≤ 65536) (hm : m ≤ 65536)
    (hf0 : -9223372036854775808 ≤ f) (hf1 : f ≤ 9223372036854775807) :
    Calls Try.prog 27 #[.slice A n c, .slice B m d, .int .i64 f] w fun e w' => e = .returned (.int .i64 (findZ l part f)) ∧ ∃ q, w' = w.drewN q := by
  have HX := Lib.hid hx; clear hx
  have HY := Lib.hid hy; clear hy
  go_enter Try.func27, Try.ntmps27
  go_wp2
  all_goals
    go_loopg [7] (n + 1) (fun g s7 wr => ∃ (k : Int) (q : Nat), 0 ≤ k ∧ f ≤ k ∧ k ≤ 9223372036854775807 ∧ (n + 1 - k).toNat ≤ g ∧ s7 = .int .i64 k ∧ wr = w.drewN q ∧ Hid (∀ j : Nat, f ≤ (j : Int) → (j : Int) < k → standsB l j part = false))
    case atStart =>
      first
        | exact ⟨0, 0, by omega, by omega, by omega, by omega, rfl, rfl, fun j h1 h2 => by omega⟩
        | exact ⟨f, 0, by omega, by omega, by omega, by omega, rfl, rfl, fun j h1 h2 => by omega⟩
    case round =>
      obtain ⟨k, q, h0, hfk, hkm, hg, rfl, rfl, hno⟩ := hrel
      by_cases hle : k ≤ (n : Int) - m
      · have hst := stands_any A B n c m d l part k (w.drewN q) (HX.out.later ((Later.refl w).drewN q)) (HY.out.later ((Later.refl w).drewN q)) hc hn hm (by omega) (by omega)
        cases hs : standsB l k part
        · rw [hs] at hst
          have HS := Lib.hid hst; clear hst
          have HN : Hid (∀ j : Nat, f ≤ (j : Int) → (j : Int) < k + 1 → standsB l j part = false) := fun j h1 h2 => by
            by_cases e : (j : Int) = k
            · rw [e]; exact hs
            · exact hno.out j h1 (by omega)
          clear hs hno
          go_wp2_with (go_at_call 40; refine HS.out.mono ?_; rintro e w' ⟨rfl, q2, rfl⟩)
          go_roundg (n + 1 - (k + 1)).toNat
          case measure => omega
          case rel => exact ⟨k + 1, _, by omega, by omega, by omega, by omega, by go_num, rfl, HN⟩
        · rw [hs] at hst
          have HS := Lib.hid hst; clear hst
          obtain ⟨i, rfl⟩ := Int.eq_ofNat_of_zero_le h0
          have e : findZ l part f = i := findZ_at hfk hs fun j hj hf => hno.out j hf (by omega)
          have E := Lib.hid e; clear e hs hno
          go_wp2_with (go_at_call 40; refine HS.out.mono ?_; rintro e w' ⟨rfl, q2, rfl⟩)
          go_ret
          exact ⟨by rw [E.out]; rfl, _, rfl⟩
      · have e : findZ l part f = -1 := findZ_none fun j hf => by
          by_cases hj : (j : Int) < k
          · exact hno.out j hf hj
          · cases hs : standsB l j part
            · rfl
            · have := standsB_le hs
              rw [HX.out.len, HY.out.len] at this; omega
        have E := Lib.hid e; clear e hno
        go_wp2
        go_ret
        exact ⟨by rw [E.out]; rfl, _, rfl⟩

end Go.Proofs.Ytimljhmbaobgnaa
