import Derived.Test.YtnmfmoimjkoieaaGreatDoorJ51
/- The closed facts of Encodes' row, a theorem each (in one theorem the kernel runs out of memory). -/
namespace Go.Proofs.YtnmfmoimjkoieaaGreatDoor.encodes
open Go.Shelf Go.ChangeShapes Go.WideShapes Go.ChangeAt Go.RowKit Go.Lib Go.Proofs.YtnmfmoimjkoieaaGreatDoor.topPlain Go.Proofs.YtnmfmoimjkoieaaGreatDoor.topWalks
theorem hInst : Tryz.f4.isInstance Tryz.pinned.checked.prog Rows.encodesUptoRow.origin Rows.encodesUptoRow.targs := of_decide_eq_true (by kernel_rfl)
theorem hWrap : Tryz.f4.isWrapper Tryz.pinned.checked.prog Rows.encodesUptoRow.wrapper Rows.encodesUptoRow.mainSum := by unfold Func.isWrapper; first | (rw [if_pos (by decide +kernel)]; kernel_rfl) | (rw [if_neg (by decide +kernel)]; exact ⟨rfl, rfl⟩)
theorem hNam : Tryz.pinned.checked.prog.funcNamed Rows.encodesUptoRow.func = some 4 := by kernel_rfl
theorem closedE : joinedFacts Tryz.pinned.checked.prog 4 Tryz.f4 (Rows.OpenSpec.upto Rows.encodesSpec).bare Rows.encodesUptoRow = true := by kernel_rfl
theorem hAll (os : Os) (started : os.Started) (H : Type) (enc : TypeId × Value → H) (F : Stop.Interp) : ReturnsInHanded Rows.encodesUptoRow.assume Tryz.pinned.checked os 4 .any (Rows.encodesUptoRow.pre enc Tryz.pinned.checked.prog Tryz.f4 (Rows.OpenSpec.upto Rows.encodesSpec)) (((Rows.OpenSpec.upto Rows.encodesSpec).at F).post enc Tryz.pinned.checked.prog Tryz.f4 Rows.encodesUptoRow.apart Rows.encodesUptoRow.fresh Rows.encodesUptoRow.handsOn Rows.encodesUptoRow.again) := by
  rw [OpenClaim.pre_eq_preRow]; exact lifted os started H enc F
end Go.Proofs.YtnmfmoimjkoieaaGreatDoor.encodes
