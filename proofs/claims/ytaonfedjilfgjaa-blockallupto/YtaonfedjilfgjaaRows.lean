/-
  No cell of these rows narrows 'for every input' (looked for: loops, veiled, ifaces, maps, wideKeys, modest, calm, conditions, laid).
  DERIVED. THE GIVEN ROWS OF THIS SEAT. 8 by the template 'for every input the law returns true; each argument reads behind the call as it read before'; 0 by the template 'total and deterministic' (their statements: YtaonfedjilfgjaaTotals.lean).
  GIVEN WITH THE SEED: the statements are not yours to turn. If you find one false, say at which input.
  Laid BY PROGRAM, IN A SANDBOX (cutbox-rows.mjs): the forced cells as the released guide's own fill.sh prints them over the translation f593e616d5bb4eff… (all of the seat's roots in one cut). By AI agents, Wed Nov 11 2026. No macro, syntax, notation, axiom, sorry.
-/
import Derived.Test.YtaonfedjilfgjaaChecked
import GoSem.Claim
import GoSem.ClaimJoined
import GoSem.ClaimMapViews
import Derived.JoinedTies
import Derived.KernelRfl
namespace Go.Proofs.Ytaonfedjilfgjaa
/- THE CELL 'sum', in the pinned program and in every row, IS THE sha256 OF THE DUMP (.gsa) THAT YtaonfedjilfgjaaProg.lean LOADS. Nothing in Lean hashes anything: it is a label: what it is worth is what the hold of that sum in a sandbox is worth. -/
noncomputable def Try.pinned : Pinned := { name := "ytaonfedjilfgjaa", sum := "f593e616d5bb4effae4bdb12af5ee27b74a53ca036268309dead7d779e85bca5", checked := Try.checked }
namespace Rows
def none {H : Type} : Left H := { results := [], args := [] }

/-- 'quiltworklaw10.BlockAll': WHATEVER THE INPUT: true; the input reads as it did. -/
def blockAllSpec : ChangeSpec := { name := "blockAll", fn := fun _ => fun
  | [d1, d2] => { results := [.lit (.bool true)], args := [d1, d2] }
  | _ => none }
def blockAllRow : OpenClaim := { program := "ytaonfedjilfgjaa", sum := "f593e616d5bb4effae4bdb12af5ee27b74a53ca036268309dead7d779e85bca5", func := "quiltwork/quiltworklaw10.BlockAll", spec := "blockAll", inPlace := ["internal/bytealg.MakeNoZero"], unfollowed := true, recurses := true, apart := false }
def BlockAllSaid : Prop := blockAllRow.holds Try.pinned (OpenSpec.ofChange blockAllSpec)

/-- ITS FALSE NEIGHBOUR: 'it returns false'. Refute it at one input. -/
def blockAllWrong : ChangeSpec := { name := "blockAll", fn := fun _ => fun
  | [d1, d2] => { results := [.lit (.bool false)], args := [d1, d2] }
  | _ => none }
def BlockAllWrongFalsely : Prop := blockAllRow.holds Try.pinned (OpenSpec.ofChange blockAllWrong)

/-- 'quiltworklaw10.BlockHalves': WHATEVER THE INPUT: true; the input reads as it did. -/
def blockHalvesSpec : ChangeSpec := { name := "blockHalves", fn := fun _ => fun
  | [d1, d2, d3] => { results := [.lit (.bool true)], args := [d1, d2, d3] }
  | _ => none }
def blockHalvesRow : OpenClaim := { program := "ytaonfedjilfgjaa", sum := "f593e616d5bb4effae4bdb12af5ee27b74a53ca036268309dead7d779e85bca5", func := "quiltwork/quiltworklaw10.BlockHalves", spec := "blockHalves", inPlace := ["internal/bytealg.MakeNoZero"], unfollowed := true, recurses := true, apart := false }
def BlockHalvesSaid : Prop := blockHalvesRow.holds Try.pinned (OpenSpec.ofChange blockHalvesSpec)

/-- ITS FALSE NEIGHBOUR: 'it returns false'. Refute it at one input. -/
def blockHalvesWrong : ChangeSpec := { name := "blockHalves", fn := fun _ => fun
  | [d1, d2, d3] => { results := [.lit (.bool false)], args := [d1, d2, d3] }
  | _ => none }
def BlockHalvesWrongFalsely : Prop := blockHalvesRow.holds Try.pinned (OpenSpec.ofChange blockHalvesWrong)

/-- 'quiltworklaw11.RollAll': WHATEVER THE INPUT: true; the input reads as it did. -/
def rollAllSpec : ChangeSpec := { name := "rollAll", fn := fun _ => fun
  | [d1, d2, d3] => { results := [.lit (.bool true)], args := [d1, d2, d3] }
  | _ => none }
def rollAllRow : OpenClaim := { program := "ytaonfedjilfgjaa", sum := "f593e616d5bb4effae4bdb12af5ee27b74a53ca036268309dead7d779e85bca5", func := "quiltwork/quiltworklaw11.RollAll", spec := "rollAll", unfollowed := true, recurses := true, apart := false }
def RollAllSaid : Prop := rollAllRow.holds Try.pinned (OpenSpec.ofChange rollAllSpec)

/-- ITS FALSE NEIGHBOUR: 'it returns false'. Refute it at one input. -/
def rollAllWrong : ChangeSpec := { name := "rollAll", fn := fun _ => fun
  | [d1, d2, d3] => { results := [.lit (.bool false)], args := [d1, d2, d3] }
  | _ => none }
def RollAllWrongFalsely : Prop := rollAllRow.holds Try.pinned (OpenSpec.ofChange rollAllWrong)

/-- 'quiltworklaw11.RollOpens': WHATEVER THE INPUT: true; the input reads as it did. -/
def rollOpensSpec : ChangeSpec := { name := "rollOpens", fn := fun _ => fun
  | [d] => { results := [.lit (.bool true)], args := [d] }
  | _ => none }
def rollOpensRow : OpenClaim := { program := "ytaonfedjilfgjaa", sum := "f593e616d5bb4effae4bdb12af5ee27b74a53ca036268309dead7d779e85bca5", func := "quiltwork/quiltworklaw11.RollOpens", spec := "rollOpens", unfollowed := true, recurses := true, apart := false }
def RollOpensSaid : Prop := rollOpensRow.holds Try.pinned (OpenSpec.ofChange rollOpensSpec)

/-- ITS FALSE NEIGHBOUR: 'it returns false'. Refute it at one input. -/
def rollOpensWrong : ChangeSpec := { name := "rollOpens", fn := fun _ => fun
  | [d] => { results := [.lit (.bool false)], args := [d] }
  | _ => none }
def RollOpensWrongFalsely : Prop := rollOpensRow.holds Try.pinned (OpenSpec.ofChange rollOpensWrong)

/-- 'quiltworklaw11.RollKeeps': WHATEVER THE INPUT: true; the input reads as it did. -/
def rollKeepsSpec : ChangeSpec := { name := "rollKeeps", fn := fun _ => fun
  | [d1, d2, d3] => { results := [.lit (.bool true)], args := [d1, d2, d3] }
  | _ => none }
def rollKeepsRow : OpenClaim := { program := "ytaonfedjilfgjaa", sum := "f593e616d5bb4effae4bdb12af5ee27b74a53ca036268309dead7d779e85bca5", func := "quiltwork/quiltworklaw11.RollKeeps", spec := "rollKeeps", unfollowed := true, recurses := true, apart := false }
def RollKeepsSaid : Prop := rollKeepsRow.holds Try.pinned (OpenSpec.ofChange rollKeepsSpec)

/-- ITS FALSE NEIGHBOUR: 'it returns false'. Refute it at one input. -/
def rollKeepsWrong : ChangeSpec := { name := "rollKeeps", fn := fun _ => fun
  | [d1, d2, d3] => { results := [.lit (.bool false)], args := [d1, d2, d3] }
  | _ => none }
def RollKeepsWrongFalsely : Prop := rollKeepsRow.holds Try.pinned (OpenSpec.ofChange rollKeepsWrong)

/-- 'quiltworklaw11.RollAgain': WHATEVER THE INPUT: true; the input reads as it did. -/
def rollAgainSpec : ChangeSpec := { name := "rollAgain", fn := fun _ => fun
  | [d1, d2, d3] => { results := [.lit (.bool true)], args := [d1, d2, d3] }
  | _ => none }
def rollAgainRow : OpenClaim := { program := "ytaonfedjilfgjaa", sum := "f593e616d5bb4effae4bdb12af5ee27b74a53ca036268309dead7d779e85bca5", func := "quiltwork/quiltworklaw11.RollAgain", spec := "rollAgain", unfollowed := true, recurses := true, apart := false }
def RollAgainSaid : Prop := rollAgainRow.holds Try.pinned (OpenSpec.ofChange rollAgainSpec)

/-- ITS FALSE NEIGHBOUR: 'it returns false'. Refute it at one input. -/
def rollAgainWrong : ChangeSpec := { name := "rollAgain", fn := fun _ => fun
  | [d1, d2, d3] => { results := [.lit (.bool false)], args := [d1, d2, d3] }
  | _ => none }
def RollAgainWrongFalsely : Prop := rollAgainRow.holds Try.pinned (OpenSpec.ofChange rollAgainWrong)

/-- 'quiltworklaw11.RollFills': WHATEVER THE INPUT: true; the input reads as it did. -/
def rollFillsSpec : ChangeSpec := { name := "rollFills", fn := fun _ => fun
  | [d1, d2] => { results := [.lit (.bool true)], args := [d1, d2] }
  | _ => none }
def rollFillsRow : OpenClaim := { program := "ytaonfedjilfgjaa", sum := "f593e616d5bb4effae4bdb12af5ee27b74a53ca036268309dead7d779e85bca5", func := "quiltwork/quiltworklaw11.RollFills", spec := "rollFills", unfollowed := true, recurses := true, apart := false }
def RollFillsSaid : Prop := rollFillsRow.holds Try.pinned (OpenSpec.ofChange rollFillsSpec)

/-- ITS FALSE NEIGHBOUR: 'it returns false'. Refute it at one input. -/
def rollFillsWrong : ChangeSpec := { name := "rollFills", fn := fun _ => fun
  | [d1, d2] => { results := [.lit (.bool false)], args := [d1, d2] }
  | _ => none }
def RollFillsWrongFalsely : Prop := rollFillsRow.holds Try.pinned (OpenSpec.ofChange rollFillsWrong)

/-- 'quiltworklaw11.RollStages': WHATEVER THE INPUT: true; the input reads as it did. -/
def rollStagesSpec : ChangeSpec := { name := "rollStages", fn := fun _ => fun
  | [d1, d2, d3] => { results := [.lit (.bool true)], args := [d1, d2, d3] }
  | _ => none }
def rollStagesRow : OpenClaim := { program := "ytaonfedjilfgjaa", sum := "f593e616d5bb4effae4bdb12af5ee27b74a53ca036268309dead7d779e85bca5", func := "quiltwork/quiltworklaw11.RollStages", spec := "rollStages", unfollowed := true, recurses := true, apart := false }
def RollStagesSaid : Prop := rollStagesRow.holds Try.pinned (OpenSpec.ofChange rollStagesSpec)

/-- ITS FALSE NEIGHBOUR: 'it returns false'. Refute it at one input. -/
def rollStagesWrong : ChangeSpec := { name := "rollStages", fn := fun _ => fun
  | [d1, d2, d3] => { results := [.lit (.bool false)], args := [d1, d2, d3] }
  | _ => none }
def RollStagesWrongFalsely : Prop := rollStagesRow.holds Try.pinned (OpenSpec.ofChange rollStagesWrong)

/- THE SECOND FORM. 'bulk': how many values and letters a reading holds, each counted each time it is reached (what is shared counts as often as it is met; a slice's spare places count too). A statement '..UptoSaid' is the law's where the arguments, and the package variables that the reading takes, are together of bulk at most 1048576: NARROWER than '..Said'. Prove '..Said' where nothing that the law and all that it calls make is longer than what came in: it says more and counts as full. Else prove '..UptoSaid'. A law counts once. -/
mutual
def uptoBulk {H : Type} : DataW H → Nat
  | .lit (.string bytes) => bytes.length + 1
  | .lit _ => 1
  | .nil => 1
  | .ptr d => uptoBulk d + 1
  | .slice elems spare => uptoBulkAll elems + uptoBulkAll spare + 1
  | .agg parts => uptoBulkAll parts + 1
  | .iface _ d => uptoBulk d + 1
  | .map entries => uptoBulkEntries entries + 1
  | .held _ => 1
def uptoBulkAll {H : Type} : List (DataW H) → Nat
  | [] => 0
  | d :: r => uptoBulk d + uptoBulkAll r
def uptoBulkEntries {H : Type} : List (Lit × DataW H) → Nat
  | [] => 0
  | x :: r => uptoBulkEntry x + uptoBulkEntries r
def uptoBulkEntry {H : Type} : Lit × DataW H → Nat
  | (.string bytes, d) => bytes.length + uptoBulk d + 1
  | (_, d) => uptoBulk d + 1
 end
def uptoSmall : (H : Type) → List (DataW H) → Bool := fun _ ds => decide (uptoBulkAll ds ≤ 1048576)
def OpenSpec.upto (s : _root_.Go.ChangeSpec) : _root_.Go.OpenSpec := { _root_.Go.OpenSpec.ofChange s with cond := some uptoSmall }

/-- 'quiltworklaw10.BlockAll', WHERE WHAT IT READS IS OF BULK AT MOST 1048576: true; the input reads as it did. -/
def blockAllUptoRow : OpenClaim := { program := "ytaonfedjilfgjaa", sum := "f593e616d5bb4effae4bdb12af5ee27b74a53ca036268309dead7d779e85bca5", func := "quiltwork/quiltworklaw10.BlockAll", spec := "blockAll", inPlace := ["internal/bytealg.MakeNoZero"], unfollowed := true, recurses := true, apart := false, narrowed := true }
def BlockAllUptoSaid : Prop := blockAllUptoRow.holds Try.pinned (OpenSpec.upto blockAllSpec)

/-- 'quiltworklaw10.BlockHalves', WHERE WHAT IT READS IS OF BULK AT MOST 1048576: true; the input reads as it did. -/
def blockHalvesUptoRow : OpenClaim := { program := "ytaonfedjilfgjaa", sum := "f593e616d5bb4effae4bdb12af5ee27b74a53ca036268309dead7d779e85bca5", func := "quiltwork/quiltworklaw10.BlockHalves", spec := "blockHalves", inPlace := ["internal/bytealg.MakeNoZero"], unfollowed := true, recurses := true, apart := false, narrowed := true }
def BlockHalvesUptoSaid : Prop := blockHalvesUptoRow.holds Try.pinned (OpenSpec.upto blockHalvesSpec)

/-- 'quiltworklaw11.RollAll', WHERE WHAT IT READS IS OF BULK AT MOST 1048576: true; the input reads as it did. -/
def rollAllUptoRow : OpenClaim := { program := "ytaonfedjilfgjaa", sum := "f593e616d5bb4effae4bdb12af5ee27b74a53ca036268309dead7d779e85bca5", func := "quiltwork/quiltworklaw11.RollAll", spec := "rollAll", unfollowed := true, recurses := true, apart := false, narrowed := true }
def RollAllUptoSaid : Prop := rollAllUptoRow.holds Try.pinned (OpenSpec.upto rollAllSpec)

/-- 'quiltworklaw11.RollOpens', WHERE WHAT IT READS IS OF BULK AT MOST 1048576: true; the input reads as it did. -/
def rollOpensUptoRow : OpenClaim := { program := "ytaonfedjilfgjaa", sum := "f593e616d5bb4effae4bdb12af5ee27b74a53ca036268309dead7d779e85bca5", func := "quiltwork/quiltworklaw11.RollOpens", spec := "rollOpens", unfollowed := true, recurses := true, apart := false, narrowed := true }
def RollOpensUptoSaid : Prop := rollOpensUptoRow.holds Try.pinned (OpenSpec.upto rollOpensSpec)

/-- 'quiltworklaw11.RollKeeps', WHERE WHAT IT READS IS OF BULK AT MOST 1048576: true; the input reads as it did. -/
def rollKeepsUptoRow : OpenClaim := { program := "ytaonfedjilfgjaa", sum := "f593e616d5bb4effae4bdb12af5ee27b74a53ca036268309dead7d779e85bca5", func := "quiltwork/quiltworklaw11.RollKeeps", spec := "rollKeeps", unfollowed := true, recurses := true, apart := false, narrowed := true }
def RollKeepsUptoSaid : Prop := rollKeepsUptoRow.holds Try.pinned (OpenSpec.upto rollKeepsSpec)

/-- 'quiltworklaw11.RollAgain', WHERE WHAT IT READS IS OF BULK AT MOST 1048576: true; the input reads as it did. -/
def rollAgainUptoRow : OpenClaim := { program := "ytaonfedjilfgjaa", sum := "f593e616d5bb4effae4bdb12af5ee27b74a53ca036268309dead7d779e85bca5", func := "quiltwork/quiltworklaw11.RollAgain", spec := "rollAgain", unfollowed := true, recurses := true, apart := false, narrowed := true }
def RollAgainUptoSaid : Prop := rollAgainUptoRow.holds Try.pinned (OpenSpec.upto rollAgainSpec)

/-- 'quiltworklaw11.RollFills', WHERE WHAT IT READS IS OF BULK AT MOST 1048576: true; the input reads as it did. -/
def rollFillsUptoRow : OpenClaim := { program := "ytaonfedjilfgjaa", sum := "f593e616d5bb4effae4bdb12af5ee27b74a53ca036268309dead7d779e85bca5", func := "quiltwork/quiltworklaw11.RollFills", spec := "rollFills", unfollowed := true, recurses := true, apart := false, narrowed := true }
def RollFillsUptoSaid : Prop := rollFillsUptoRow.holds Try.pinned (OpenSpec.upto rollFillsSpec)

/-- 'quiltworklaw11.RollStages', WHERE WHAT IT READS IS OF BULK AT MOST 1048576: true; the input reads as it did. -/
def rollStagesUptoRow : OpenClaim := { program := "ytaonfedjilfgjaa", sum := "f593e616d5bb4effae4bdb12af5ee27b74a53ca036268309dead7d779e85bca5", func := "quiltwork/quiltworklaw11.RollStages", spec := "rollStages", unfollowed := true, recurses := true, apart := false, narrowed := true }
def RollStagesUptoSaid : Prop := rollStagesUptoRow.holds Try.pinned (OpenSpec.upto rollStagesSpec)

end Rows
end Go.Proofs.Ytaonfedjilfgjaa
