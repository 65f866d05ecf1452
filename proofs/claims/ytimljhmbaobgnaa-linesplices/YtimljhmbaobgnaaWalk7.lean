/-
  What Find of the document's own answers comes to.
-/
import Derived.Test.YtimljhmbaobgnaaWalk6
namespace Go.Proofs.Ytimljhmbaobgnaa
open Go.RowKit

theorem refSplice_any (A B C : Option Addr) (n c m d p q : Nat) (l old with_ : List ByteArray) (k : Int) (w : World) (hx : Row w A n l) (hy : Row w B m old) (hz : Row w C p with_) (hc : n ≤ c) (hn : n ≤ 65536) (hm : m ≤ 65536) (hp : p ≤ 65536)
    (hk0 : -9223372036854775808 ≤ k) (hk1 : k ≤ 9223372036854775807) :
    Calls Try.prog 25 #[.slice A n c, .int .i64 k, .slice B m d, .slice C p q] w (Spl l k m old with_ w) := by
  by_cases h : 0 ≤ k ∧ k + m ≤ n
  · obtain ⟨i, rfl⟩ := Int.eq_ofNat_of_zero_le h.1
    exact refSplice_in A B C n c m d p q l old with_ i w hx hy hz hc hn hm hp (by omega)
  · exact refSplice_out A B C n c m d p q l old with_ k w hx hy hn hk0 hk1 h

set_option maxHeartbeats 400000 in
theorem refFind_any (A B : Option Addr) (n c m d : Nat) (l part : List ByteArray) (f : Int) (w : World) (hx : Row w A n l) (hy : Row w B m part) (hc : n ≤ c) (hn : n ≤ 65536) (hm : m ≤ 65536) :
    Calls Try.prog 28 #[.slice A n c, .slice B m d, .int .i64 f] w fun e w' => e = .returned (.int .i64 (findZ l part f)) ∧ Later w w' := by
  have HX := Lib.hid hx; clear hx
  have HY := Lib.hid hy; clear hy
  rcases (by by_cases h0 : f < 0 <;> simp [h0] : decide (f < 0) = true ∨ decide (f < 0) = false) with hd | hd
  all_goals
    go_enter Try.func28, Try.ntmps28
    go_wp2
    go_loopg [7] (n + 1) (fun g s7 wr => ∃ k : Nat, k ≤ n + 1 ∧ n + 1 - k ≤ g ∧ s7 = .int .i64 k ∧ Later w wr ∧ Hid (∀ j : Nat, f ≤ (j : Int) → j < k → standsB l j part = false))
    case atStart => exact ⟨0, by omega, by omega, rfl, Later.refl w, fun j _ h => absurd h (Nat.not_lt_zero _)⟩
    case round =>
      obtain ⟨k, hk, hg, rfl, hwr, hno⟩ := hrel
      have hd' := hd
      simp at hd'
      by_cases hle : k ≤ n
      · have hst := refSplice_any A B none n c m d 0 0 l part [] k wr (HX.out.later hwr) (HY.out.later hwr) Row.none hc hn hm (by omega) (by omega) (by omega)
        have HS := Lib.hid hst; clear hst
        go_wp2_with fail
        refine HS.out.mono ?_
        rintro e w' h
        rcases h with ⟨hs, rfl, hl⟩ | ⟨hs, A', c', rfl, _, _, hl⟩
        · have HN : Hid (∀ j : Nat, f ≤ (j : Int) → j < k + 1 → standsB l j part = false) := fun j h1 h2 => by
            by_cases e : j = k
            · rw [e]; exact hs
            · exact hno.out j h1 (by omega)
          clear hs hno
          have hlw := hwr.trans hl
          go_wp2
          all_goals
            go_roundg (n + 1 - (k + 1))
            case measure => omega
            case rel => exact ⟨k + 1, by omega, by omega, by go_num, hlw, HN⟩
        · have hlw := hwr.trans hl
          by_cases hfk : f ≤ k
          · have e : findZ l part f = k := findZ_at hfk hs fun j hj hf => hno.out j hf hj
            have E := Lib.hid e; clear e hs hno
            go_wp2
            go_ret
            exact ⟨ret_int E.out.symm, hlw⟩
          · have HN : Hid (∀ j : Nat, f ≤ (j : Int) → j < k + 1 → standsB l j part = false) := fun j h1 h2 => hno.out j h1 (by omega)
            clear hs hno
            first
              | (exfalso; omega)
              | (go_wp2
                 go_roundg (n + 1 - (k + 1))
                 case measure => omega
                 case rel => exact ⟨k + 1, by omega, by omega, by go_num, hlw, HN⟩)
      · have e : findZ l part f = -1 := findZ_none fun j hf => by
          by_cases hj : j < k
          · exact hno.out j hf hj
          · cases hs : standsB l j part
            · rfl
            · have := standsB_le hs
              rw [HX.out.len, HY.out.len] at this; omega
        have E := Lib.hid e; clear e hno
        go_wp2
        go_ret
        exact ⟨ret_int E.out.symm, hwr⟩

end Go.Proofs.Ytimljhmbaobgnaa
