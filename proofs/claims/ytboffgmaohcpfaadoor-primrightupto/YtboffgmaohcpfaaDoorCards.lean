/-
  DERIVED. GIVEN WITH THE SEED: THE CARDS: each row of YtboffgmaohcpfaaDoorRows.lean that lists a variable, with what it lists TIED to the program's text (the seventh form; the later family's looks); each row that meets fmt, with fmt's text TOLD by the authors' own Lean function (tested against real Go, not proved from fmt's source: count such statements apart). THE CARD IS WHAT COUNTS. Prove the row's statement (the work); the ties are given (YtboffgmaohcpfaaDoorTie.lean); close each card by the builder's one call (the guide's Derived/Test/ToyasCard.lean, 'card_holds'). Laid BY PROGRAM, IN A SANDBOX (cutbox-door.mjs). By AI agents, Wed Nov 11 2026. No macro, syntax, notation, axiom, sorry.
-/
import Derived.Test.YtboffgmaohcpfaaDoorRows
import GoSem.ClaimSeven
namespace Go.Proofs.YtboffgmaohcpfaaDoor
namespace Rows

/-- THE TIED CARD OF 'quiltworklaw03.PrimRight'. -/
def primRightCard : Claim7 := { stood := { row := primRightRow, standIns := [], harness := (true, "5dce34eddfccd10dfa81a3b5d9d62a02b3e0503e2f2977860634d13ada74a175"), looks := false }, kinds := [], alts := [], laidByText := true, laidKinds := [.data, .data, .data], laidTests := true, laidLooks := .later }
def PrimRightCardSaid : Prop := Claim7.holds Tryd.pinned (.plain (OpenSpec.ofChange primRightSpec)) primRightCard

/-- THE TIED CARD OF 'quiltworklaw03.PrimSame'. -/
def primSameCard : Claim7 := { stood := { row := primSameRow, standIns := [], harness := (true, "5dce34eddfccd10dfa81a3b5d9d62a02b3e0503e2f2977860634d13ada74a175"), looks := false }, kinds := [], alts := [], laidByText := true, laidKinds := [.data, .data, .data], laidTests := true, laidLooks := .later }
def PrimSameCardSaid : Prop := Claim7.holds Tryd.pinned (.plain (OpenSpec.ofChange primSameSpec)) primSameCard

/-- THE TIED CARD OF 'quiltworklaw03.PrimTwice'. -/
def primTwiceCard : Claim7 := { stood := { row := primTwiceRow, standIns := [], harness := (true, "5dce34eddfccd10dfa81a3b5d9d62a02b3e0503e2f2977860634d13ada74a175"), looks := false }, kinds := [], alts := [], laidByText := true, laidKinds := [.data, .data, .data], laidTests := true, laidLooks := .later }
def PrimTwiceCardSaid : Prop := Claim7.holds Tryd.pinned (.plain (OpenSpec.ofChange primTwiceSpec)) primTwiceCard

/-- THE TIED CARD OF 'quiltworklaw03.PrimOwn'. -/
def primOwnCard : Claim7 := { stood := { row := primOwnRow, standIns := [], harness := (true, "5dce34eddfccd10dfa81a3b5d9d62a02b3e0503e2f2977860634d13ada74a175"), looks := false }, kinds := [], alts := [], laidByText := true, laidKinds := [.data, .data, .data], laidTests := true, laidLooks := .later }
def PrimOwnCardSaid : Prop := Claim7.holds Tryd.pinned (.plain (OpenSpec.ofChange primOwnSpec)) primOwnCard

/-- THE SECOND FORM's CARD OF 'quiltworklaw03.PrimRight'. -/
def primRightUptoCard : Claim7 := { stood := { row := primRightUptoRow, standIns := [], harness := (true, "5dce34eddfccd10dfa81a3b5d9d62a02b3e0503e2f2977860634d13ada74a175"), looks := false }, kinds := [], alts := [], laidByText := true, laidKinds := [.data, .data, .data], laidTests := true, laidLooks := .later }
def PrimRightUptoCardSaid : Prop := Claim7.holds Tryd.pinned (.plain (OpenSpec.upto primRightSpec)) primRightUptoCard

/-- THE SECOND FORM's CARD OF 'quiltworklaw03.PrimSame'. -/
def primSameUptoCard : Claim7 := { stood := { row := primSameUptoRow, standIns := [], harness := (true, "5dce34eddfccd10dfa81a3b5d9d62a02b3e0503e2f2977860634d13ada74a175"), looks := false }, kinds := [], alts := [], laidByText := true, laidKinds := [.data, .data, .data], laidTests := true, laidLooks := .later }
def PrimSameUptoCardSaid : Prop := Claim7.holds Tryd.pinned (.plain (OpenSpec.upto primSameSpec)) primSameUptoCard

/-- THE SECOND FORM's CARD OF 'quiltworklaw03.PrimTwice'. -/
def primTwiceUptoCard : Claim7 := { stood := { row := primTwiceUptoRow, standIns := [], harness := (true, "5dce34eddfccd10dfa81a3b5d9d62a02b3e0503e2f2977860634d13ada74a175"), looks := false }, kinds := [], alts := [], laidByText := true, laidKinds := [.data, .data, .data], laidTests := true, laidLooks := .later }
def PrimTwiceUptoCardSaid : Prop := Claim7.holds Tryd.pinned (.plain (OpenSpec.upto primTwiceSpec)) primTwiceUptoCard

/-- THE SECOND FORM's CARD OF 'quiltworklaw03.PrimOwn'. -/
def primOwnUptoCard : Claim7 := { stood := { row := primOwnUptoRow, standIns := [], harness := (true, "5dce34eddfccd10dfa81a3b5d9d62a02b3e0503e2f2977860634d13ada74a175"), looks := false }, kinds := [], alts := [], laidByText := true, laidKinds := [.data, .data, .data], laidTests := true, laidLooks := .later }
def PrimOwnUptoCardSaid : Prop := Claim7.holds Tryd.pinned (.plain (OpenSpec.upto primOwnSpec)) primOwnUptoCard
end Rows
end Go.Proofs.YtboffgmaohcpfaaDoor
