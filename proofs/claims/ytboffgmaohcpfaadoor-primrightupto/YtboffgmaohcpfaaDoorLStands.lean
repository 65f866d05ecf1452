/-
  What line.stands comes to, as a call.
-/
import Derived.Test.YtboffgmaohcpfaaDoorChecked
import Derived.Test.YtboffgmaohcpfaaDoorBase
import Derived.Test.YtboffgmaohcpfaaDoorPlain
import Derived.Test.YtboffgmaohcpfaaDoorOwn
import Derived.Test.YtboffgmaohcpfaaDoorWords
import Derived.Test.YtboffgmaohcpfaaDoorLPiece
import Derived.Test.YtboffgmaohcpfaaDoorLSame
import Derived.Deep.LoopGhost
import Derived.Deep.QuietTactic
import Derived.BigQuiet
import Derived.Lib.Hide
namespace Go.Proofs.YtboffgmaohcpfaaDoor
open Go.RowKit

set_option maxHeartbeats 400000 in
theorem stands_any (A B : Option Addr) (n c m d : Nat) (l part : List ByteArray) (k : Int) (w : World) (hx : Row w A n l) (hy : Row w B m part) (hc : n ≤ c) (hn : n ≤ 65536) (hm : m ≤ 65536)
    (hk0 : -9223372036854775808 ≤ k) (hk1 : k ≤ 9223372036854775807) :
    Calls Tryd.prog 81 #[.slice A n c, .int .i64 k, .slice B m d] w fun e w' => e = .returned (.bool (standsB l k part)) ∧ ∃ q, w' = w.drewN q := by
  by_cases h0 : k < 0
  · have e : standsB l k part = false := by unfold standsB; rw [decide_eq_false (by omega)]; rfl
    have E := Lib.hid e; clear e hx hy
    go_enter Tryd.func81, Tryd.ntmps81
    go_wp2
    go_ret
    exact ⟨by rw [E.out]; rfl, 0, rfl⟩
  · by_cases h1 : (n : Int) - k < m
    · have e : standsB l k part = false := by unfold standsB; rw [decide_eq_false (by rw [hx.len, hy.len]; omega)]; rfl
      have E := Lib.hid e; clear e hx hy
      go_enter Tryd.func81, Tryd.ntmps81
      go_wp2
      go_ret
      exact ⟨by rw [E.out]; rfl, 0, rfl⟩
    · have e : standsB l k part = sameB ((l.drop k.toNat).take part.length) part := by unfold standsB; rw [decide_eq_true (by rw [hx.len, hy.len]; omega)]; rfl
      have el : (k + m).toNat - k.toNat = part.length := by rw [hy.len]; omega
      rw [← el] at e
      have E := Lib.hid e; clear e el
      have HX := Lib.hid hx; clear hx
      have HY := Lib.hid hy; clear hy
      go_enter Tryd.func81, Tryd.ntmps81
      go_wp2_with fail
      refine (piece_any A n c l w HX.out hc k (k + m) (by omega) (by omega) (by omega)).mono ?_
      rintro e w' ⟨A', rfl, hr, rfl⟩
      generalize hout : (l.drop k.toNat).take ((k + m).toNat - k.toNat) = out at hr E
      have HO := Lib.hid hout; clear hout
      have HR := Lib.hid hr; clear hr
      go_wp2_with fail
      refine (same_any A' B _ _ m d out part _ HR.out HY.out ?_ ?_).mono ?_
      · rw [← HO.out, List.length_take, List.length_drop, HX.out.len]; omega
      · omega
      rintro e w' ⟨rfl, q, rfl⟩
      go_wp2
      go_ret
      exact ⟨by rw [E.out]; rfl, q, rfl⟩

end Go.Proofs.YtboffgmaohcpfaaDoor
