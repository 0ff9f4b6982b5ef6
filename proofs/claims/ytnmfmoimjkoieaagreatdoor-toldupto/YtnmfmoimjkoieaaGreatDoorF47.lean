import Derived.Test.YtnmfmoimjkoieaaGreatDoorF46
set_option maxHeartbeats 25600000
set_option maxRecDepth 100000
set_option linter.all false
namespace Go.Proofs.YtnmfmoimjkoieaaGreatDoor
open Go.Proofs.Tryz Tryz
namespace told
open Go.Shelf Go.ChangeShapes Go.WideShapes Go.ChangeAt Go.RowKit Go.Lib aD av
theorem agP:f5.isInstance pinned.checked.prog Rows.toldUptoRow.origin Rows.toldUptoRow.targs:=vS (by kernel_rfl)
theorem agZ:f5.isWrapper pinned.checked.prog Rows.toldUptoRow.wrapper Rows.toldUptoRow.mainSum:=by unfold Func.isWrapper;first|(rw[ax (by decide+kernel)];kernel_rfl)|(rw[au (by decide+kernel)];exact⟨rfl,rfl⟩)
theorem agT:pinned.checked.prog.funcNamed Rows.toldUptoRow.func=some 5:=by kernel_rfl
theorem agO:pinned.checked.prog.inPlace 5=Rows.toldUptoRow.inPlace:=by kernel_rfl
theorem agX:pinned.checked.prog.unfollowed 5=true:=by kernel_rfl
theorem agV:pinned.checked.prog.recurses 5=true:=by kernel_rfl
theorem agY:pinned.checked.prog.varsNamed 5=Rows.toldUptoRow.named:=by kernel_rfl
theorem ad3:joinedFacts pinned.checked.prog 5 f5 (Rows.OpenSpec.upto Rows.toldSpec).bare Rows.toldUptoRow=true:=by unfold joinedFacts;rw[agO,agX,agV,agY];kernel_rfl
theorem agC(os:Os)(started:os.Started)(H:Type)(enc:TypeId×Value->H)(F:Stop.Interp):ReturnsInHanded Rows.toldUptoRow.assume pinned.checked os 5 .any (Rows.toldUptoRow.pre enc pinned.checked.prog f5 (Rows.OpenSpec.upto Rows.toldSpec)) (((Rows.OpenSpec.upto Rows.toldSpec).at F).post enc pinned.checked.prog f5 Rows.toldUptoRow.apart Rows.toldUptoRow.fresh Rows.toldUptoRow.handsOn Rows.toldUptoRow.again):=by rw[OpenClaim.pre_eq_preRow];exact lifted os started H enc F
end told
end Go.Proofs.YtnmfmoimjkoieaaGreatDoor
