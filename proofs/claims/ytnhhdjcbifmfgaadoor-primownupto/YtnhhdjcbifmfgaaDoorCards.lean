/-
  DERIVED. GIVEN WITH THE SEED: THE CARDS: each row of YtnhhdjcbifmfgaaDoorRows.lean that lists a variable, with what it lists TIED to the program's text (the seventh form; the later family's looks); each row that meets fmt, with fmt's text TOLD by the authors' own Lean function (tested against real Go, not proved from fmt's source: count such statements apart). THE CARD IS WHAT COUNTS. Prove the row's statement (the work); the ties are given (YtnhhdjcbifmfgaaDoorTie.lean); close each card by the builder's one call (the guide's Derived/Test/ToyasCard.lean, 'card_holds'). Laid BY PROGRAM, IN A SANDBOX (cutbox-door.mjs). By AI agents, Wed Nov 11 2026. No macro, syntax, notation, axiom, sorry.
-/
import Derived.Test.YtnhhdjcbifmfgaaDoorRows
import GoSem.ClaimSeven
namespace Go.Proofs.YtnhhdjcbifmfgaaDoor
namespace Rows

/-- THE TIED CARD OF 'quiltworklaw03.PrimOwn'. -/
def primOwnCard : Claim7 := { stood := { row := primOwnRow, standIns := [], harness := (true, "c5ac824b33ed2161e086f9591d8f505c5bba5f313f20245f24a789c47036ef93"), looks := false }, kinds := [], alts := [], laidByText := true, laidKinds := [.data, .data, .data], laidTests := true, laidLooks := .later }
def PrimOwnCardSaid : Prop := Claim7.holds Tryd.pinned (.plain (OpenSpec.ofChange primOwnSpec)) primOwnCard

/-- THE SECOND FORM's CARD OF 'quiltworklaw03.PrimOwn'. -/
def primOwnUptoCard : Claim7 := { stood := { row := primOwnUptoRow, standIns := [], harness := (true, "c5ac824b33ed2161e086f9591d8f505c5bba5f313f20245f24a789c47036ef93"), looks := false }, kinds := [], alts := [], laidByText := true, laidKinds := [.data, .data, .data], laidTests := true, laidLooks := .later }
def PrimOwnUptoCardSaid : Prop := Claim7.holds Tryd.pinned (.plain (OpenSpec.upto primOwnSpec)) primOwnUptoCard
end Rows
end Go.Proofs.YtnhhdjcbifmfgaaDoor
