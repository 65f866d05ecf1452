/-
  DERIVED. GIVEN WITH THE SEED: THE CARDS: each row of YtomboeiaajggoaaGreatDoorRows.lean that lists a variable, with what it lists TIED to the program's text (the seventh form; the later family's looks); each row that meets fmt, with fmt's text TOLD by the authors' own Lean function (tested against real Go, not proved from fmt's source: count such statements apart). THE CARD IS WHAT COUNTS. Prove the row's statement (the work); the ties are given (YtomboeiaajggoaaGreatDoorTie.lean); close each card by the builder's one call (the guide's Derived/Test/ToyasCard.lean, 'card_holds'). Laid BY PROGRAM, IN A SANDBOX (cutbox-door.mjs). By AI agents, Wed Nov 11 2026. No macro, syntax, notation, axiom, sorry.
-/
import Derived.Test.YtomboeiaajggoaaGreatDoorRows
import GoSem.ClaimSeven
namespace Go.Proofs.YtomboeiaajggoaaGreatDoor
namespace Rows

/-- THE TIED CARD OF 'quiltworklaw05.SeqTells'. -/
def seqTellsCard : Claim7 := { stood := { row := seqTellsRow, standIns := [], harness := (true, "203cd3b19147ea6732351c467927275a4b39b50417279bfa67f62e7a8e0cb4b8"), looks := false }, kinds := [], alts := [], laidByText := true, laidKinds := [.data, .data, .data], laidTests := true, laidLooks := .later }
def SeqTellsCardSaid : Prop := Claim7.holds Tryz.pinned (.plain (OpenSpec.ofChange seqTellsSpec)) seqTellsCard

/-- THE TIED CARD OF 'quiltworklaw05.SeqSwaps'. -/
def seqSwapsCard : Claim7 := { stood := { row := seqSwapsRow, standIns := [], harness := (true, "203cd3b19147ea6732351c467927275a4b39b50417279bfa67f62e7a8e0cb4b8"), looks := false }, kinds := [], alts := [], laidByText := true, laidKinds := [.data, .data, .data], laidTests := true, laidLooks := .later }
def SeqSwapsCardSaid : Prop := Claim7.holds Tryz.pinned (.plain (OpenSpec.ofChange seqSwapsSpec)) seqSwapsCard

/-- THE TIED CARD OF 'quiltworklaw05.SeqOnes'. -/
def seqOnesCard : Claim7 := { stood := { row := seqOnesRow, standIns := [], harness := (true, "203cd3b19147ea6732351c467927275a4b39b50417279bfa67f62e7a8e0cb4b8"), looks := false }, kinds := [], alts := [], laidByText := true, laidKinds := [.data, .data, .data], laidTests := true, laidLooks := .later }
def SeqOnesCardSaid : Prop := Claim7.holds Tryz.pinned (.plain (OpenSpec.ofChange seqOnesSpec)) seqOnesCard

/-- THE SECOND FORM's CARD OF 'quiltworklaw05.SeqTells'. -/
def seqTellsUptoCard : Claim7 := { stood := { row := seqTellsUptoRow, standIns := [], harness := (true, "203cd3b19147ea6732351c467927275a4b39b50417279bfa67f62e7a8e0cb4b8"), looks := false }, kinds := [], alts := [], laidByText := true, laidKinds := [.data, .data, .data], laidTests := true, laidLooks := .later }
def SeqTellsUptoCardSaid : Prop := Claim7.holds Tryz.pinned (.plain (OpenSpec.upto seqTellsSpec)) seqTellsUptoCard

/-- THE SECOND FORM's CARD OF 'quiltworklaw05.SeqSwaps'. -/
def seqSwapsUptoCard : Claim7 := { stood := { row := seqSwapsUptoRow, standIns := [], harness := (true, "203cd3b19147ea6732351c467927275a4b39b50417279bfa67f62e7a8e0cb4b8"), looks := false }, kinds := [], alts := [], laidByText := true, laidKinds := [.data, .data, .data], laidTests := true, laidLooks := .later }
def SeqSwapsUptoCardSaid : Prop := Claim7.holds Tryz.pinned (.plain (OpenSpec.upto seqSwapsSpec)) seqSwapsUptoCard

/-- THE SECOND FORM's CARD OF 'quiltworklaw05.SeqOnes'. -/
def seqOnesUptoCard : Claim7 := { stood := { row := seqOnesUptoRow, standIns := [], harness := (true, "203cd3b19147ea6732351c467927275a4b39b50417279bfa67f62e7a8e0cb4b8"), looks := false }, kinds := [], alts := [], laidByText := true, laidKinds := [.data, .data, .data], laidTests := true, laidLooks := .later }
def SeqOnesUptoCardSaid : Prop := Claim7.holds Tryz.pinned (.plain (OpenSpec.upto seqOnesSpec)) seqOnesUptoCard
end Rows
end Go.Proofs.YtomboeiaajggoaaGreatDoor
