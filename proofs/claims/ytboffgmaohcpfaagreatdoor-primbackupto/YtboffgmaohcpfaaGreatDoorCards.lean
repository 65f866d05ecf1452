/-
  DERIVED. GIVEN WITH THE SEED: THE CARDS: each row of YtboffgmaohcpfaaGreatDoorRows.lean that lists a variable, with what it lists TIED to the program's text (the seventh form; the later family's looks); each row that meets fmt, with fmt's text TOLD by the authors' own Lean function (tested against real Go, not proved from fmt's source: count such statements apart). THE CARD IS WHAT COUNTS. Prove the row's statement (the work); the ties are given (YtboffgmaohcpfaaGreatDoorTie.lean); close each card by the builder's one call (the guide's Derived/Test/ToyasCard.lean, 'card_holds'). Laid BY PROGRAM, IN A SANDBOX (cutbox-door.mjs). By AI agents, Wed Nov 11 2026. No macro, syntax, notation, axiom, sorry.
-/
import Derived.Test.YtboffgmaohcpfaaGreatDoorRows
import GoSem.ClaimSeven
namespace Go.Proofs.YtboffgmaohcpfaaGreatDoor
namespace Rows

/-- THE TIED CARD OF 'quiltworklaw03.PrimApplies'. -/
def primAppliesCard : Claim7 := { stood := { row := primAppliesRow, standIns := [], harness := (true, "6ad5a00407a4e5a64590528d7db6a46c8757507a26f37e79d273b3e4f5df40f5"), looks := false }, kinds := [], alts := [], laidByText := true, laidKinds := [.data, .data, .data], laidTests := true, laidLooks := .later }
def PrimAppliesCardSaid : Prop := Claim7.holds Tryz.pinned (.plain (OpenSpec.ofChange primAppliesSpec)) primAppliesCard

/-- THE TIED CARD OF 'quiltworklaw03.PrimBack'. -/
def primBackCard : Claim7 := { stood := { row := primBackRow, standIns := [], harness := (true, "6ad5a00407a4e5a64590528d7db6a46c8757507a26f37e79d273b3e4f5df40f5"), looks := false }, kinds := [], alts := [], laidByText := true, laidKinds := [.data, .data, .data], laidTests := true, laidLooks := .later }
def PrimBackCardSaid : Prop := Claim7.holds Tryz.pinned (.plain (OpenSpec.ofChange primBackSpec)) primBackCard

/-- THE SECOND FORM's CARD OF 'quiltworklaw03.PrimApplies'. -/
def primAppliesUptoCard : Claim7 := { stood := { row := primAppliesUptoRow, standIns := [], harness := (true, "6ad5a00407a4e5a64590528d7db6a46c8757507a26f37e79d273b3e4f5df40f5"), looks := false }, kinds := [], alts := [], laidByText := true, laidKinds := [.data, .data, .data], laidTests := true, laidLooks := .later }
def PrimAppliesUptoCardSaid : Prop := Claim7.holds Tryz.pinned (.plain (OpenSpec.upto primAppliesSpec)) primAppliesUptoCard

/-- THE SECOND FORM's CARD OF 'quiltworklaw03.PrimBack'. -/
def primBackUptoCard : Claim7 := { stood := { row := primBackUptoRow, standIns := [], harness := (true, "6ad5a00407a4e5a64590528d7db6a46c8757507a26f37e79d273b3e4f5df40f5"), looks := false }, kinds := [], alts := [], laidByText := true, laidKinds := [.data, .data, .data], laidTests := true, laidLooks := .later }
def PrimBackUptoCardSaid : Prop := Claim7.holds Tryz.pinned (.plain (OpenSpec.upto primBackSpec)) primBackUptoCard
end Rows
end Go.Proofs.YtboffgmaohcpfaaGreatDoor
