import Derived.Test.YtnmfmoimjkoieaaGreatDoorK34
/- The closed facts of Reread's row, a theorem each (in one theorem the kernel runs out of memory). -/
namespace Go.Proofs.YtnmfmoimjkoieaaGreatDoor.reread
open Go.Shelf Go.ChangeShapes Go.WideShapes Go.ChangeAt Go.RowKit Go.Lib Go.Proofs.YtnmfmoimjkoieaaGreatDoor.topPlain Go.Proofs.YtnmfmoimjkoieaaGreatDoor.topWalks
theorem hInst : Tryz.f6.isInstance Tryz.pinned.checked.prog Rows.rereadUptoRow.origin Rows.rereadUptoRow.targs := of_decide_eq_true (by kernel_rfl)
theorem hWrap : Tryz.f6.isWrapper Tryz.pinned.checked.prog Rows.rereadUptoRow.wrapper Rows.rereadUptoRow.mainSum := by unfold Func.isWrapper; first | (rw [if_pos (by decide +kernel)]; kernel_rfl) | (rw [if_neg (by decide +kernel)]; exact ⟨rfl, rfl⟩)
theorem hNam : Tryz.pinned.checked.prog.funcNamed Rows.rereadUptoRow.func = some 6 := by kernel_rfl
theorem closedE : joinedFacts Tryz.pinned.checked.prog 6 Tryz.f6 (Rows.OpenSpec.upto Rows.rereadSpec).bare Rows.rereadUptoRow = true := by kernel_rfl
theorem hAll (os : Os) (started : os.Started) (H : Type) (enc : TypeId × Value → H) (F : Stop.Interp) : ReturnsInHanded Rows.rereadUptoRow.assume Tryz.pinned.checked os 6 .any (Rows.rereadUptoRow.pre enc Tryz.pinned.checked.prog Tryz.f6 (Rows.OpenSpec.upto Rows.rereadSpec)) (((Rows.OpenSpec.upto Rows.rereadSpec).at F).post enc Tryz.pinned.checked.prog Tryz.f6 Rows.rereadUptoRow.apart Rows.rereadUptoRow.fresh Rows.rereadUptoRow.handsOn Rows.rereadUptoRow.again) := by
  rw [OpenClaim.pre_eq_preRow]; exact lifted os started H enc F
end Go.Proofs.YtnmfmoimjkoieaaGreatDoor.reread
