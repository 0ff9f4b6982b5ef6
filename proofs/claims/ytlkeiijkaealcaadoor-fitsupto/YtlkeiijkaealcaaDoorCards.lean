/-
  DERIVED. GIVEN WITH THE SEED: THE CARDS: each row of YtlkeiijkaealcaaDoorRows.lean that lists a variable, with what it lists TIED to the program's text (the seventh form; the later family's looks); each row that meets fmt, with fmt's text TOLD by the authors' own Lean function (tested against real Go, not proved from fmt's source: count such statements apart). THE CARD IS WHAT COUNTS. Prove the row's statement (the work); the ties are given (YtlkeiijkaealcaaDoorTie.lean); close each card by the builder's one call (the guide's Derived/Test/ToyasCard.lean, 'card_holds'). Laid BY PROGRAM, IN A SANDBOX (cutbox-door.mjs). By AI agents, Wed Nov 11 2026. No macro, syntax, notation, axiom, sorry.
-/
import Derived.Test.YtlkeiijkaealcaaDoorRows
import GoSem.ClaimSeven
namespace Go.Proofs.YtlkeiijkaealcaaDoor
namespace Rows

/-- THE TIED CARD OF 'courantlaw.Decodes'. -/
def decodesCard : Claim7 := { stood := { row := decodesRow, standIns := [], harness := (true, "5feeeaa61af6b8034a59d14333ba69c6c3b1b6f8e286d21b134dcd0bec52df6a"), looks := true }, kinds := [], alts := [], laidByText := true, laidKinds := [.data, .sentinel, .sentinel, .pinned], laidTests := true, laidLooks := .later }
def DecodesCardSaid : Prop := Claim7.holds Tryd.pinned (.plain (OpenSpec.ofChange decodesSpec)) decodesCard

/-- THE TIED CARD OF 'courantlaw.Fits'. -/
def fitsCard : Claim7 := { stood := { row := fitsRow, standIns := [], harness := (true, "5feeeaa61af6b8034a59d14333ba69c6c3b1b6f8e286d21b134dcd0bec52df6a"), looks := true }, kinds := [], alts := [], laidByText := true, laidKinds := [.data, .pinned], laidTests := true, laidLooks := .later }
def FitsCardSaid : Prop := Claim7.holds Tryd.pinned (.plain (OpenSpec.ofChange fitsSpec)) fitsCard

/-- THE SECOND FORM's CARD OF 'courantlaw.Decodes'. -/
def decodesUptoCard : Claim7 := { stood := { row := decodesUptoRow, standIns := [], harness := (true, "5feeeaa61af6b8034a59d14333ba69c6c3b1b6f8e286d21b134dcd0bec52df6a"), looks := true }, kinds := [], alts := [], laidByText := true, laidKinds := [.data, .sentinel, .sentinel, .pinned], laidTests := true, laidLooks := .later }
def DecodesUptoCardSaid : Prop := Claim7.holds Tryd.pinned (.plain (OpenSpec.upto decodesSpec)) decodesUptoCard

/-- THE SECOND FORM's CARD OF 'courantlaw.Fits'. -/
def fitsUptoCard : Claim7 := { stood := { row := fitsUptoRow, standIns := [], harness := (true, "5feeeaa61af6b8034a59d14333ba69c6c3b1b6f8e286d21b134dcd0bec52df6a"), looks := true }, kinds := [], alts := [], laidByText := true, laidKinds := [.data, .pinned], laidTests := true, laidLooks := .later }
def FitsUptoCardSaid : Prop := Claim7.holds Tryd.pinned (.plain (OpenSpec.upto fitsSpec)) fitsUptoCard
end Rows
end Go.Proofs.YtlkeiijkaealcaaDoor
