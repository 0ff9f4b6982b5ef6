/-
  DERIVED. GIVEN WITH THE SEED: THE CARDS: each row of YtnmfmoimjkoieaaDoorRows.lean that lists a variable, with what it lists TIED to the program's text (the seventh form; the later family's looks); each row that meets fmt, with fmt's text TOLD by the authors' own Lean function (tested against real Go, not proved from fmt's source: count such statements apart). THE CARD IS WHAT COUNTS. Prove the row's statement (the work); the ties are given (YtnmfmoimjkoieaaDoorTie.lean); close each card by the builder's one call (the guide's Derived/Test/ToyasCard.lean, 'card_holds'). Laid BY PROGRAM, IN A SANDBOX (cutbox-door.mjs). By AI agents, Wed Nov 11 2026. No macro, syntax, notation, axiom, sorry.
-/
import Derived.Test.YtnmfmoimjkoieaaDoorRows
import GoSem.ClaimSeven
namespace Go.Proofs.YtnmfmoimjkoieaaDoor
namespace Rows

/-- THE TIED CARD OF 'courantlaw.Fits'. -/
def fitsCard : Claim7 := { stood := { row := fitsRow, standIns := [], harness := (true, "1b77947ff343b8b879d4b170160f8829620f08a7e279ed01199c7d075e99d5a0"), looks := false }, kinds := [], alts := [], laidByText := true, laidKinds := [.data, .pinned], laidTests := true, laidLooks := .later }
def FitsCardSaid : Prop := Claim7.holds Tryd.pinned (.plain (OpenSpec.ofChange fitsSpec)) fitsCard

/-- THE SECOND FORM's CARD OF 'courantlaw.Fits'. -/
def fitsUptoCard : Claim7 := { stood := { row := fitsUptoRow, standIns := [], harness := (true, "1b77947ff343b8b879d4b170160f8829620f08a7e279ed01199c7d075e99d5a0"), looks := false }, kinds := [], alts := [], laidByText := true, laidKinds := [.data, .pinned], laidTests := true, laidLooks := .later }
def FitsUptoCardSaid : Prop := Claim7.holds Tryd.pinned (.plain (OpenSpec.upto fitsSpec)) fitsUptoCard
end Rows
end Go.Proofs.YtnmfmoimjkoieaaDoor
