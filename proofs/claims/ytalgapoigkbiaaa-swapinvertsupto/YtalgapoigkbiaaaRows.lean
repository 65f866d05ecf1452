/-
  No cell of these rows narrows 'for every input' (looked for: loops, veiled, ifaces, maps, wideKeys, modest, calm, conditions, laid).
  DERIVED. THE GIVEN ROWS OF THIS SEAT. 7 by the template 'for every input the law returns true; each argument reads behind the call as it read before'; 0 by the template 'total and deterministic' (their statements: YtalgapoigkbiaaaTotals.lean).
  GIVEN WITH THE SEED: the statements are not yours to turn. If you find one false, say at which input.
  Laid BY PROGRAM, IN A SANDBOX (cutbox-rows.mjs): the forced cells as the released guide's own fill.sh prints them over the translation 3c07d5caad502ad1… (all of the seat's roots in one cut). By AI agents, Wed Nov 11 2026. No macro, syntax, notation, axiom, sorry.
-/
import Derived.Test.YtalgapoigkbiaaaChecked
import GoSem.Claim
import GoSem.ClaimJoined
import GoSem.ClaimMapViews
import Derived.JoinedTies
import Derived.KernelRfl
namespace Go.Proofs.Ytalgapoigkbiaaa
/- THE CELL 'sum', in the pinned program and in every row, IS THE sha256 OF THE DUMP (.gsa) THAT YtalgapoigkbiaaaProg.lean LOADS. Nothing in Lean hashes anything: it is a label: what it is worth is what the hold of that sum in a sandbox is worth. -/
noncomputable def Try.pinned : Pinned := { name := "ytalgapoigkbiaaa", sum := "3c07d5caad502ad18a2b5152bece7ac1768a3d02acc15f4470f42bef37c2d4dd", checked := Try.checked }
namespace Rows
def none {H : Type} : Left H := { results := [], args := [] }

/-- 'quiltworklaw04.SwapTells': WHATEVER THE INPUT: true; the input reads as it did. -/
def swapTellsSpec : ChangeSpec := { name := "swapTells", fn := fun _ => fun
  | [d1, d2] => { results := [.lit (.bool true)], args := [d1, d2] }
  | _ => none }
def swapTellsRow : OpenClaim := { program := "ytalgapoigkbiaaa", sum := "3c07d5caad502ad18a2b5152bece7ac1768a3d02acc15f4470f42bef37c2d4dd", func := "quiltwork/quiltworklaw04.SwapTells", spec := "swapTells", inPlace := ["internal/bytealg.IndexByteString", "internal/bytealg.IndexString"], unfollowed := true, recurses := true, named := ["internal/bytealg.MaxLen"], apart := false }
def SwapTellsSaid : Prop := swapTellsRow.holds Try.pinned (OpenSpec.ofChange swapTellsSpec)

/-- ITS FALSE NEIGHBOUR: 'it returns false'. Refute it at one input. -/
def swapTellsWrong : ChangeSpec := { name := "swapTells", fn := fun _ => fun
  | [d1, d2] => { results := [.lit (.bool false)], args := [d1, d2] }
  | _ => none }
def SwapTellsWrongFalsely : Prop := swapTellsRow.holds Try.pinned (OpenSpec.ofChange swapTellsWrong)

/-- 'quiltworklaw04.SwapFits': WHATEVER THE INPUT: true; the input reads as it did. -/
def swapFitsSpec : ChangeSpec := { name := "swapFits", fn := fun _ => fun
  | [d1, d2, d3] => { results := [.lit (.bool true)], args := [d1, d2, d3] }
  | _ => none }
def swapFitsRow : OpenClaim := { program := "ytalgapoigkbiaaa", sum := "3c07d5caad502ad18a2b5152bece7ac1768a3d02acc15f4470f42bef37c2d4dd", func := "quiltwork/quiltworklaw04.SwapFits", spec := "swapFits", inPlace := ["internal/bytealg.IndexByteString", "internal/bytealg.IndexString"], unfollowed := true, recurses := true, named := ["internal/bytealg.MaxLen"], apart := false }
def SwapFitsSaid : Prop := swapFitsRow.holds Try.pinned (OpenSpec.ofChange swapFitsSpec)

/-- ITS FALSE NEIGHBOUR: 'it returns false'. Refute it at one input. -/
def swapFitsWrong : ChangeSpec := { name := "swapFits", fn := fun _ => fun
  | [d1, d2, d3] => { results := [.lit (.bool false)], args := [d1, d2, d3] }
  | _ => none }
def SwapFitsWrongFalsely : Prop := swapFitsRow.holds Try.pinned (OpenSpec.ofChange swapFitsWrong)

/-- 'quiltworklaw04.SwapBack': WHATEVER THE INPUT: true; the input reads as it did. -/
def swapBackSpec : ChangeSpec := { name := "swapBack", fn := fun _ => fun
  | [d1, d2] => { results := [.lit (.bool true)], args := [d1, d2] }
  | _ => none }
def swapBackRow : OpenClaim := { program := "ytalgapoigkbiaaa", sum := "3c07d5caad502ad18a2b5152bece7ac1768a3d02acc15f4470f42bef37c2d4dd", func := "quiltwork/quiltworklaw04.SwapBack", spec := "swapBack", inPlace := ["internal/bytealg.IndexByteString", "internal/bytealg.IndexString"], unfollowed := true, recurses := true, named := ["internal/bytealg.MaxLen"], apart := false }
def SwapBackSaid : Prop := swapBackRow.holds Try.pinned (OpenSpec.ofChange swapBackSpec)

/-- ITS FALSE NEIGHBOUR: 'it returns false'. Refute it at one input. -/
def swapBackWrong : ChangeSpec := { name := "swapBack", fn := fun _ => fun
  | [d1, d2] => { results := [.lit (.bool false)], args := [d1, d2] }
  | _ => none }
def SwapBackWrongFalsely : Prop := swapBackRow.holds Try.pinned (OpenSpec.ofChange swapBackWrong)

/-- 'quiltworklaw04.SwapSquare': WHATEVER THE INPUT: true; the input reads as it did. -/
def swapSquareSpec : ChangeSpec := { name := "swapSquare", fn := fun _ => fun
  | [d1, d2] => { results := [.lit (.bool true)], args := [d1, d2] }
  | _ => none }
def swapSquareRow : OpenClaim := { program := "ytalgapoigkbiaaa", sum := "3c07d5caad502ad18a2b5152bece7ac1768a3d02acc15f4470f42bef37c2d4dd", func := "quiltwork/quiltworklaw04.SwapSquare", spec := "swapSquare", inPlace := ["internal/bytealg.IndexByteString", "internal/bytealg.IndexString"], unfollowed := true, recurses := true, named := ["internal/bytealg.MaxLen"], apart := false }
def SwapSquareSaid : Prop := swapSquareRow.holds Try.pinned (OpenSpec.ofChange swapSquareSpec)

/-- ITS FALSE NEIGHBOUR: 'it returns false'. Refute it at one input. -/
def swapSquareWrong : ChangeSpec := { name := "swapSquare", fn := fun _ => fun
  | [d1, d2] => { results := [.lit (.bool false)], args := [d1, d2] }
  | _ => none }
def SwapSquareWrongFalsely : Prop := swapSquareRow.holds Try.pinned (OpenSpec.ofChange swapSquareWrong)

/-- 'quiltworklaw04.SwapThree': WHATEVER THE INPUT: true; the input reads as it did. -/
def swapThreeSpec : ChangeSpec := { name := "swapThree", fn := fun _ => fun
  | [d] => { results := [.lit (.bool true)], args := [d] }
  | _ => none }
def swapThreeRow : OpenClaim := { program := "ytalgapoigkbiaaa", sum := "3c07d5caad502ad18a2b5152bece7ac1768a3d02acc15f4470f42bef37c2d4dd", func := "quiltwork/quiltworklaw04.SwapThree", spec := "swapThree", inPlace := ["internal/bytealg.IndexByteString", "internal/bytealg.IndexString"], unfollowed := true, recurses := true, named := ["internal/bytealg.MaxLen"], apart := false }
def SwapThreeSaid : Prop := swapThreeRow.holds Try.pinned (OpenSpec.ofChange swapThreeSpec)

/-- ITS FALSE NEIGHBOUR: 'it returns false'. Refute it at one input. -/
def swapThreeWrong : ChangeSpec := { name := "swapThree", fn := fun _ => fun
  | [d] => { results := [.lit (.bool false)], args := [d] }
  | _ => none }
def SwapThreeWrongFalsely : Prop := swapThreeRow.holds Try.pinned (OpenSpec.ofChange swapThreeWrong)

/-- 'quiltworklaw04.SwapInverts': WHATEVER THE INPUT: true; the input reads as it did. -/
def swapInvertsSpec : ChangeSpec := { name := "swapInverts", fn := fun _ => fun
  | [d1, d2] => { results := [.lit (.bool true)], args := [d1, d2] }
  | _ => none }
def swapInvertsRow : OpenClaim := { program := "ytalgapoigkbiaaa", sum := "3c07d5caad502ad18a2b5152bece7ac1768a3d02acc15f4470f42bef37c2d4dd", func := "quiltwork/quiltworklaw04.SwapInverts", spec := "swapInverts", inPlace := ["internal/bytealg.IndexByteString", "internal/bytealg.IndexString"], unfollowed := true, recurses := true, named := ["internal/bytealg.MaxLen"], apart := false }
def SwapInvertsSaid : Prop := swapInvertsRow.holds Try.pinned (OpenSpec.ofChange swapInvertsSpec)

/-- ITS FALSE NEIGHBOUR: 'it returns false'. Refute it at one input. -/
def swapInvertsWrong : ChangeSpec := { name := "swapInverts", fn := fun _ => fun
  | [d1, d2] => { results := [.lit (.bool false)], args := [d1, d2] }
  | _ => none }
def SwapInvertsWrongFalsely : Prop := swapInvertsRow.holds Try.pinned (OpenSpec.ofChange swapInvertsWrong)

/-- 'quiltworklaw04.SwapKeeps': WHATEVER THE INPUT: true; the input reads as it did. -/
def swapKeepsSpec : ChangeSpec := { name := "swapKeeps", fn := fun _ => fun
  | [d1, d2] => { results := [.lit (.bool true)], args := [d1, d2] }
  | _ => none }
def swapKeepsRow : OpenClaim := { program := "ytalgapoigkbiaaa", sum := "3c07d5caad502ad18a2b5152bece7ac1768a3d02acc15f4470f42bef37c2d4dd", func := "quiltwork/quiltworklaw04.SwapKeeps", spec := "swapKeeps", inPlace := ["internal/bytealg.IndexByteString", "internal/bytealg.IndexString"], unfollowed := true, recurses := true, named := ["internal/bytealg.MaxLen"], apart := false }
def SwapKeepsSaid : Prop := swapKeepsRow.holds Try.pinned (OpenSpec.ofChange swapKeepsSpec)

/-- ITS FALSE NEIGHBOUR: 'it returns false'. Refute it at one input. -/
def swapKeepsWrong : ChangeSpec := { name := "swapKeeps", fn := fun _ => fun
  | [d1, d2] => { results := [.lit (.bool false)], args := [d1, d2] }
  | _ => none }
def SwapKeepsWrongFalsely : Prop := swapKeepsRow.holds Try.pinned (OpenSpec.ofChange swapKeepsWrong)

/- THE SECOND FORM. 'bulk': how many values and letters a reading holds, each counted each time it is reached (what is shared counts as often as it is met; a slice's spare places count too). A statement '..UptoSaid' is the law's where the arguments, and the package variables that the reading takes, are together of bulk at most 1048576: NARROWER than '..Said'. Prove '..Said' where nothing that the law and all that it calls make is longer than what came in: it says more and counts as full. Else prove '..UptoSaid'. A law counts once. -/
mutual
def uptoBulk {H : Type} : DataW H → Nat
  | .lit (.string bytes) => bytes.length + 1
  | .lit _ => 1
  | .nil => 1
  | .ptr d => uptoBulk d + 1
  | .slice elems spare => uptoBulkAll elems + uptoBulkAll spare + 1
  | .agg parts => uptoBulkAll parts + 1
  | .iface _ d => uptoBulk d + 1
  | .map entries => uptoBulkEntries entries + 1
  | .held _ => 1
def uptoBulkAll {H : Type} : List (DataW H) → Nat
  | [] => 0
  | d :: r => uptoBulk d + uptoBulkAll r
def uptoBulkEntries {H : Type} : List (Lit × DataW H) → Nat
  | [] => 0
  | x :: r => uptoBulkEntry x + uptoBulkEntries r
def uptoBulkEntry {H : Type} : Lit × DataW H → Nat
  | (.string bytes, d) => bytes.length + uptoBulk d + 1
  | (_, d) => uptoBulk d + 1
 end
def uptoSmall : (H : Type) → List (DataW H) → Bool := fun _ ds => decide (uptoBulkAll ds ≤ 1048576)
def OpenSpec.upto (s : _root_.Go.ChangeSpec) : _root_.Go.OpenSpec := { _root_.Go.OpenSpec.ofChange s with cond := some uptoSmall }

/-- 'quiltworklaw04.SwapTells', WHERE WHAT IT READS IS OF BULK AT MOST 1048576: true; the input reads as it did. -/
def swapTellsUptoRow : OpenClaim := { program := "ytalgapoigkbiaaa", sum := "3c07d5caad502ad18a2b5152bece7ac1768a3d02acc15f4470f42bef37c2d4dd", func := "quiltwork/quiltworklaw04.SwapTells", spec := "swapTells", inPlace := ["internal/bytealg.IndexByteString", "internal/bytealg.IndexString"], unfollowed := true, recurses := true, named := ["internal/bytealg.MaxLen"], apart := false, narrowed := true }
def SwapTellsUptoSaid : Prop := swapTellsUptoRow.holds Try.pinned (OpenSpec.upto swapTellsSpec)

/-- 'quiltworklaw04.SwapFits', WHERE WHAT IT READS IS OF BULK AT MOST 1048576: true; the input reads as it did. -/
def swapFitsUptoRow : OpenClaim := { program := "ytalgapoigkbiaaa", sum := "3c07d5caad502ad18a2b5152bece7ac1768a3d02acc15f4470f42bef37c2d4dd", func := "quiltwork/quiltworklaw04.SwapFits", spec := "swapFits", inPlace := ["internal/bytealg.IndexByteString", "internal/bytealg.IndexString"], unfollowed := true, recurses := true, named := ["internal/bytealg.MaxLen"], apart := false, narrowed := true }
def SwapFitsUptoSaid : Prop := swapFitsUptoRow.holds Try.pinned (OpenSpec.upto swapFitsSpec)

/-- 'quiltworklaw04.SwapBack', WHERE WHAT IT READS IS OF BULK AT MOST 1048576: true; the input reads as it did. -/
def swapBackUptoRow : OpenClaim := { program := "ytalgapoigkbiaaa", sum := "3c07d5caad502ad18a2b5152bece7ac1768a3d02acc15f4470f42bef37c2d4dd", func := "quiltwork/quiltworklaw04.SwapBack", spec := "swapBack", inPlace := ["internal/bytealg.IndexByteString", "internal/bytealg.IndexString"], unfollowed := true, recurses := true, named := ["internal/bytealg.MaxLen"], apart := false, narrowed := true }
def SwapBackUptoSaid : Prop := swapBackUptoRow.holds Try.pinned (OpenSpec.upto swapBackSpec)

/-- 'quiltworklaw04.SwapSquare', WHERE WHAT IT READS IS OF BULK AT MOST 1048576: true; the input reads as it did. -/
def swapSquareUptoRow : OpenClaim := { program := "ytalgapoigkbiaaa", sum := "3c07d5caad502ad18a2b5152bece7ac1768a3d02acc15f4470f42bef37c2d4dd", func := "quiltwork/quiltworklaw04.SwapSquare", spec := "swapSquare", inPlace := ["internal/bytealg.IndexByteString", "internal/bytealg.IndexString"], unfollowed := true, recurses := true, named := ["internal/bytealg.MaxLen"], apart := false, narrowed := true }
def SwapSquareUptoSaid : Prop := swapSquareUptoRow.holds Try.pinned (OpenSpec.upto swapSquareSpec)

/-- 'quiltworklaw04.SwapThree', WHERE WHAT IT READS IS OF BULK AT MOST 1048576: true; the input reads as it did. -/
def swapThreeUptoRow : OpenClaim := { program := "ytalgapoigkbiaaa", sum := "3c07d5caad502ad18a2b5152bece7ac1768a3d02acc15f4470f42bef37c2d4dd", func := "quiltwork/quiltworklaw04.SwapThree", spec := "swapThree", inPlace := ["internal/bytealg.IndexByteString", "internal/bytealg.IndexString"], unfollowed := true, recurses := true, named := ["internal/bytealg.MaxLen"], apart := false, narrowed := true }
def SwapThreeUptoSaid : Prop := swapThreeUptoRow.holds Try.pinned (OpenSpec.upto swapThreeSpec)

/-- 'quiltworklaw04.SwapInverts', WHERE WHAT IT READS IS OF BULK AT MOST 1048576: true; the input reads as it did. -/
def swapInvertsUptoRow : OpenClaim := { program := "ytalgapoigkbiaaa", sum := "3c07d5caad502ad18a2b5152bece7ac1768a3d02acc15f4470f42bef37c2d4dd", func := "quiltwork/quiltworklaw04.SwapInverts", spec := "swapInverts", inPlace := ["internal/bytealg.IndexByteString", "internal/bytealg.IndexString"], unfollowed := true, recurses := true, named := ["internal/bytealg.MaxLen"], apart := false, narrowed := true }
def SwapInvertsUptoSaid : Prop := swapInvertsUptoRow.holds Try.pinned (OpenSpec.upto swapInvertsSpec)

/-- 'quiltworklaw04.SwapKeeps', WHERE WHAT IT READS IS OF BULK AT MOST 1048576: true; the input reads as it did. -/
def swapKeepsUptoRow : OpenClaim := { program := "ytalgapoigkbiaaa", sum := "3c07d5caad502ad18a2b5152bece7ac1768a3d02acc15f4470f42bef37c2d4dd", func := "quiltwork/quiltworklaw04.SwapKeeps", spec := "swapKeeps", inPlace := ["internal/bytealg.IndexByteString", "internal/bytealg.IndexString"], unfollowed := true, recurses := true, named := ["internal/bytealg.MaxLen"], apart := false, narrowed := true }
def SwapKeepsUptoSaid : Prop := swapKeepsUptoRow.holds Try.pinned (OpenSpec.upto swapKeepsSpec)

end Rows
end Go.Proofs.Ytalgapoigkbiaaa
