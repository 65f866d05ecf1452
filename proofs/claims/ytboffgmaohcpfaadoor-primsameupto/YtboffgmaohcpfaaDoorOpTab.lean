/-
  The table of powers of ten, off the rows' list; a world in which the tables stand.
-/
import Derived.Test.YtboffgmaohcpfaaDoorRows
import Derived.Test.YtboffgmaohcpfaaDoorChecked
import Derived.Test.YtboffgmaohcpfaaDoorTrText
import Derived.ProofKit
import Derived.OpenShut
import Derived.SizedLaws
import Derived.SliceStrings
import Derived.Deep.Slices
import Derived.Deep.Fields
import Derived.ChangeSame
import Derived.Deep.DeepHandedRow
import Derived.Lib.LaidTab
import Derived.LaidSub
namespace Go.Proofs.YtboffgmaohcpfaaDoor
open Go.ChangeShapes Go.WideShapes Go.ChangeAt Go.RowKit Go.Deep

theorem Tryd.gTab : Tryd.prog.globalNamed "internal/strconv.uint64pow10" = some 0 := by kernel_rfl
theorem Tryd.gTabType : (Tryd.prog.globals[0]?).map (·.type) = some 115 := by kernel_rfl
theorem Tryd.gTabCells : Tryd.prog.cellsOf 115 = 20 := by kernel_rfl
theorem Tryd.cells97 : Tryd.prog.cellsOf 89 = 1 := by kernel_rfl

def laidList : List (String × DataW Unit) := [("math/bits.deBruijn32tab", Rows.laid_math_bits_deBruijn32tab), ("math/bits.deBruijn64tab", Rows.laid_math_bits_deBruijn64tab), ("internal/strconv.uint64pow10", Rows.laid_internal_strconv_uint64pow10)]

/-- What the rows' list gives: the table of powers of ten. -/
theorem tab_of {W : World} (h : laidMetH Tryd.prog laidList W) : Tab W := by
  have h1 := laidMetH.filter (fun x => x.1 == "internal/strconv.uint64pow10") h
  have e : laidList.filter (fun x => x.1 == "internal/strconv.uint64pow10") = [("internal/strconv.uint64pow10", Lib.tabData .u64 Lib.pow10Tab)] := by kernel_rfl
  rw [e] at h1
  exact Lib.tabIs_of_head (rest := []) Tryd.gTab Tryd.gTabType Tryd.underlying115 Tryd.underlying89 Tryd.cells97 Tryd.gTabCells h1

/-- A variable's cells, set. -/
def setVar (h : Array Obj) (g : Nat) (cs : List Value) : Array Obj := h.modify g fun | .cells _ t frozen => .cells cs.toArray t frozen | o => o

/-- A world in which the tables hold what their initialisers lay. -/
noncomputable def laidWorld (os : Os) : World :=
  { World.holding Tryd.prog os ⟨#[], #[], []⟩ with
    heap := setVar (setVar (setVar (World.holding Tryd.prog os ⟨#[], #[], []⟩).heap 0 (Lib.pow10Tab.map (Value.int .u64)))
      2 (([0, 1, 28, 2, 29, 14, 24, 3, 30, 22, 20, 15, 25, 17, 4, 8, 31, 27, 13, 23, 21, 19, 16, 7, 26, 12, 18, 6, 11, 5, 10, 9] : List Int).map (Value.int .u8)))
      3 (([0, 1, 56, 2, 57, 49, 28, 3, 61, 58, 42, 50, 38, 29, 17, 4, 62, 47, 59, 36, 45, 43, 51, 22, 53, 39, 33, 30, 24, 18, 12, 5, 63, 55, 48, 27, 60, 41, 37, 16, 46, 35, 44, 21, 52, 32, 23, 11, 54, 26, 40, 15, 34, 20, 31, 10, 25, 14, 19, 9, 13, 8, 7, 6] : List Int).map (Value.int .u8)) }

end Go.Proofs.YtboffgmaohcpfaaDoor
