/-
  What line.Same comes to, as a call.
-/
import Derived.Test.YtboffgmaohcpfaaDoorChecked
import Derived.Test.YtboffgmaohcpfaaDoorBase
import Derived.Test.YtboffgmaohcpfaaDoorPlain
import Derived.Test.YtboffgmaohcpfaaDoorOwn
import Derived.Test.YtboffgmaohcpfaaDoorWords
import Derived.Test.YtboffgmaohcpfaaDoorLEqual
import Derived.Deep.LoopGhost
import Derived.Deep.QuietTactic
import Derived.BigQuiet
import Derived.Lib.Hide
namespace Go.Proofs.YtboffgmaohcpfaaDoor
open Go.RowKit

set_option maxHeartbeats 400000 in
theorem same_any (A B : Option Addr) (n c m d : Nat) (xs ys : List ByteArray) (w : World) (hx : Row w A n xs) (hy : Row w B m ys) (hn : n ≤ 65536) (hm : m ≤ 65536) :
    Calls Tryd.prog 14 #[.slice A n c, .slice B m d] w fun e w' => e = .returned (.bool (sameB xs ys)) ∧ ∃ q, w' = w.drewN q := by
  have H := Lib.hid (equal_any A B n c m d xs ys w hx hy hn hm)
  clear hx hy
  go_enter Tryd.func14, Tryd.ntmps14
  go_wp2_with (go_at_call 30; refine H.out.mono ?_; rintro e w' ⟨rfl, q, rfl⟩)
  go_ret
  exact ⟨rfl, q, rfl⟩

end Go.Proofs.YtboffgmaohcpfaaDoor
