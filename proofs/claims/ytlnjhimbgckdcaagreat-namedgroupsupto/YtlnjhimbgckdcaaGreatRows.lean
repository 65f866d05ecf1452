/-
  No cell of these rows narrows 'for every input' (looked for: loops, veiled, ifaces, maps, wideKeys, modest, calm, conditions, laid).
  DERIVED. THE GIVEN ROWS OF THIS SEAT. 4 by the template 'for every input the law returns true; each argument reads behind the call as it read before'; 0 by the template 'total and deterministic' (their statements: YtlnjhimbgckdcaaGreatTotals.lean).
  GIVEN WITH THE SEED: the statements are not yours to turn. If you find one false, say at which input.
  Laid BY PROGRAM, IN A SANDBOX (cutbox-rows.mjs): the forced cells as the released guide's own fill.sh prints them over the translation 82232696fd51fe48… (all of the seat's roots in one cut). By AI agents, Wed Nov 11 2026. No macro, syntax, notation, axiom, sorry.
-/
import Derived.Test.YtlnjhimbgckdcaaGreatChecked
import GoSem.Claim
import GoSem.ClaimJoined
import GoSem.ClaimMapViews
import Derived.JoinedTies
import Derived.KernelRfl
namespace Go.Proofs.YtlnjhimbgckdcaaGreat
/- THE CELL 'sum', in the pinned program and in every row, IS THE sha256 OF THE DUMP (.gsa) THAT YtlnjhimbgckdcaaGreatProg.lean LOADS. Nothing in Lean hashes anything: it is a label: what it is worth is what the hold of that sum in a sandbox is worth. -/
noncomputable def Tryz.pinned : Pinned := { name := "ytlnjhimbgckdcaagreat", sum := "82232696fd51fe48cdf047be22a12e5601d177588722ea7f21f7d8980b5d2466", checked := Tryz.checked }
namespace Rows
def none {H : Type} : Left H := { results := [], args := [] }

/-- 'quiltworklaw07.NamedSwaps': WHATEVER THE INPUT: true; the input reads as it did. -/
def namedSwapsSpec : ChangeSpec := { name := "namedSwaps", fn := fun _ => fun
  | [d1, d2] => { results := [.lit (.bool true)], args := [d1, d2] }
  | _ => none }
def namedSwapsRow : OpenClaim := { program := "ytlnjhimbgckdcaagreat", sum := "82232696fd51fe48cdf047be22a12e5601d177588722ea7f21f7d8980b5d2466", func := "quiltwork/quiltworklaw07.NamedSwaps", spec := "namedSwaps", inPlace := ["internal/bytealg.IndexByteString", "internal/bytealg.IndexString"], unfollowed := true, recurses := true, named := ["internal/bytealg.MaxLen"], apart := false }
def NamedSwapsSaid : Prop := namedSwapsRow.holds Tryz.pinned (OpenSpec.ofChange namedSwapsSpec)

/-- ITS FALSE NEIGHBOUR: 'it returns false'. Refute it at one input. -/
def namedSwapsWrong : ChangeSpec := { name := "namedSwaps", fn := fun _ => fun
  | [d1, d2] => { results := [.lit (.bool false)], args := [d1, d2] }
  | _ => none }
def NamedSwapsWrongFalsely : Prop := namedSwapsRow.holds Tryz.pinned (OpenSpec.ofChange namedSwapsWrong)

/-- 'quiltworklaw07.NamedPast': WHATEVER THE INPUT: true; the input reads as it did. -/
def namedPastSpec : ChangeSpec := { name := "namedPast", fn := fun _ => fun
  | [d1, d2] => { results := [.lit (.bool true)], args := [d1, d2] }
  | _ => none }
def namedPastRow : OpenClaim := { program := "ytlnjhimbgckdcaagreat", sum := "82232696fd51fe48cdf047be22a12e5601d177588722ea7f21f7d8980b5d2466", func := "quiltwork/quiltworklaw07.NamedPast", spec := "namedPast", inPlace := ["internal/bytealg.IndexByteString", "internal/bytealg.IndexString"], unfollowed := true, recurses := true, named := ["internal/bytealg.MaxLen"], apart := false }
def NamedPastSaid : Prop := namedPastRow.holds Tryz.pinned (OpenSpec.ofChange namedPastSpec)

/-- ITS FALSE NEIGHBOUR: 'it returns false'. Refute it at one input. -/
def namedPastWrong : ChangeSpec := { name := "namedPast", fn := fun _ => fun
  | [d1, d2] => { results := [.lit (.bool false)], args := [d1, d2] }
  | _ => none }
def NamedPastWrongFalsely : Prop := namedPastRow.holds Tryz.pinned (OpenSpec.ofChange namedPastWrong)

/-- 'quiltworklaw07.NamedGroups': WHATEVER THE INPUT: true; the input reads as it did. -/
def namedGroupsSpec : ChangeSpec := { name := "namedGroups", fn := fun _ => fun
  | [d] => { results := [.lit (.bool true)], args := [d] }
  | _ => none }
def namedGroupsRow : OpenClaim := { program := "ytlnjhimbgckdcaagreat", sum := "82232696fd51fe48cdf047be22a12e5601d177588722ea7f21f7d8980b5d2466", func := "quiltwork/quiltworklaw07.NamedGroups", spec := "namedGroups", inPlace := ["internal/bytealg.IndexByteString", "internal/bytealg.IndexString"], unfollowed := true, recurses := true, named := ["internal/bytealg.MaxLen"], apart := false }
def NamedGroupsSaid : Prop := namedGroupsRow.holds Tryz.pinned (OpenSpec.ofChange namedGroupsSpec)

/-- ITS FALSE NEIGHBOUR: 'it returns false'. Refute it at one input. -/
def namedGroupsWrong : ChangeSpec := { name := "namedGroups", fn := fun _ => fun
  | [d] => { results := [.lit (.bool false)], args := [d] }
  | _ => none }
def NamedGroupsWrongFalsely : Prop := namedGroupsRow.holds Tryz.pinned (OpenSpec.ofChange namedGroupsWrong)

/-- 'quiltworklaw07.NamedOwn': WHATEVER THE INPUT: true; the input reads as it did. -/
def namedOwnSpec : ChangeSpec := { name := "namedOwn", fn := fun _ => fun
  | [d1, d2] => { results := [.lit (.bool true)], args := [d1, d2] }
  | _ => none }
def namedOwnRow : OpenClaim := { program := "ytlnjhimbgckdcaagreat", sum := "82232696fd51fe48cdf047be22a12e5601d177588722ea7f21f7d8980b5d2466", func := "quiltwork/quiltworklaw07.NamedOwn", spec := "namedOwn", inPlace := ["internal/bytealg.IndexByteString", "internal/bytealg.IndexString"], unfollowed := true, recurses := true, named := ["internal/bytealg.MaxLen"], apart := false }
def NamedOwnSaid : Prop := namedOwnRow.holds Tryz.pinned (OpenSpec.ofChange namedOwnSpec)

/-- ITS FALSE NEIGHBOUR: 'it returns false'. Refute it at one input. -/
def namedOwnWrong : ChangeSpec := { name := "namedOwn", fn := fun _ => fun
  | [d1, d2] => { results := [.lit (.bool false)], args := [d1, d2] }
  | _ => none }
def NamedOwnWrongFalsely : Prop := namedOwnRow.holds Tryz.pinned (OpenSpec.ofChange namedOwnWrong)

/- THE SECOND FORM. 'bulk': how many values and letters a reading holds, each counted each time it is reached (what is shared counts as often as it is met; a slice's spare places count too). A statement '..UptoSaid' is the law's where the arguments, and the package variables that the reading takes, are together of bulk at most 1048576: NARROWER than '..Said'. Prove '..Said' where nothing that the law and all that it calls make is longer than what came in: it says more and counts as full. Else prove '..UptoSaid'. A law counts once. -/
mutual
def uptoBulk {H : Type} : DataW H → Nat
  | .lit (.string bytes) => bytes.length + 1
  | .lit _ => 1
  | .nil => 1
  | .ptr d => uptoBulk d + 1
  | .slice elems spare => uptoBulkAll elems + uptoBulkAll spare + 1
  | .agg parts => uptoBulkAll parts + 1
  | .iface _ d => uptoBulk d + 1
  | .map entries => uptoBulkEntries entries + 1
  | .held _ => 1
def uptoBulkAll {H : Type} : List (DataW H) → Nat
  | [] => 0
  | d :: r => uptoBulk d + uptoBulkAll r
def uptoBulkEntries {H : Type} : List (Lit × DataW H) → Nat
  | [] => 0
  | x :: r => uptoBulkEntry x + uptoBulkEntries r
def uptoBulkEntry {H : Type} : Lit × DataW H → Nat
  | (.string bytes, d) => bytes.length + uptoBulk d + 1
  | (_, d) => uptoBulk d + 1
 end
def uptoSmall : (H : Type) → List (DataW H) → Bool := fun _ ds => decide (uptoBulkAll ds ≤ 1048576)
def OpenSpec.upto (s : _root_.Go.ChangeSpec) : _root_.Go.OpenSpec := { _root_.Go.OpenSpec.ofChange s with cond := some uptoSmall }

/-- 'quiltworklaw07.NamedSwaps', WHERE WHAT IT READS IS OF BULK AT MOST 1048576: true; the input reads as it did. -/
def namedSwapsUptoRow : OpenClaim := { program := "ytlnjhimbgckdcaagreat", sum := "82232696fd51fe48cdf047be22a12e5601d177588722ea7f21f7d8980b5d2466", func := "quiltwork/quiltworklaw07.NamedSwaps", spec := "namedSwaps", inPlace := ["internal/bytealg.IndexByteString", "internal/bytealg.IndexString"], unfollowed := true, recurses := true, named := ["internal/bytealg.MaxLen"], apart := false, narrowed := true }
def NamedSwapsUptoSaid : Prop := namedSwapsUptoRow.holds Tryz.pinned (OpenSpec.upto namedSwapsSpec)

/-- 'quiltworklaw07.NamedPast', WHERE WHAT IT READS IS OF BULK AT MOST 1048576: true; the input reads as it did. -/
def namedPastUptoRow : OpenClaim := { program := "ytlnjhimbgckdcaagreat", sum := "82232696fd51fe48cdf047be22a12e5601d177588722ea7f21f7d8980b5d2466", func := "quiltwork/quiltworklaw07.NamedPast", spec := "namedPast", inPlace := ["internal/bytealg.IndexByteString", "internal/bytealg.IndexString"], unfollowed := true, recurses := true, named := ["internal/bytealg.MaxLen"], apart := false, narrowed := true }
def NamedPastUptoSaid : Prop := namedPastUptoRow.holds Tryz.pinned (OpenSpec.upto namedPastSpec)

/-- 'quiltworklaw07.NamedGroups', WHERE WHAT IT READS IS OF BULK AT MOST 1048576: true; the input reads as it did. -/
def namedGroupsUptoRow : OpenClaim := { program := "ytlnjhimbgckdcaagreat", sum := "82232696fd51fe48cdf047be22a12e5601d177588722ea7f21f7d8980b5d2466", func := "quiltwork/quiltworklaw07.NamedGroups", spec := "namedGroups", inPlace := ["internal/bytealg.IndexByteString", "internal/bytealg.IndexString"], unfollowed := true, recurses := true, named := ["internal/bytealg.MaxLen"], apart := false, narrowed := true }
def NamedGroupsUptoSaid : Prop := namedGroupsUptoRow.holds Tryz.pinned (OpenSpec.upto namedGroupsSpec)

/-- 'quiltworklaw07.NamedOwn', WHERE WHAT IT READS IS OF BULK AT MOST 1048576: true; the input reads as it did. -/
def namedOwnUptoRow : OpenClaim := { program := "ytlnjhimbgckdcaagreat", sum := "82232696fd51fe48cdf047be22a12e5601d177588722ea7f21f7d8980b5d2466", func := "quiltwork/quiltworklaw07.NamedOwn", spec := "namedOwn", inPlace := ["internal/bytealg.IndexByteString", "internal/bytealg.IndexString"], unfollowed := true, recurses := true, named := ["internal/bytealg.MaxLen"], apart := false, narrowed := true }
def NamedOwnUptoSaid : Prop := namedOwnUptoRow.holds Tryz.pinned (OpenSpec.upto namedOwnSpec)

end Rows
end Go.Proofs.YtlnjhimbgckdcaaGreat
