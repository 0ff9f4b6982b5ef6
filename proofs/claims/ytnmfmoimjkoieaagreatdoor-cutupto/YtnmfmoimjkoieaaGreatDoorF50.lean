/- Cut says yes for every window, queue, text and list of cuts of bulk at most 1048576: the same bytes, handed in one by one, or however they are cut, come to the same (the card of the second form). Conditions: what the row itself lists (four package-level variables hold what their text lays), and the bound on the bulk of the arguments. -/
import Derived.Test.YtnmfmoimjkoieaaGreatDoorF49
namespace Go.Proofs.YtnmfmoimjkoieaaGreatDoor
namespace cut
open Go.Shelf Go.ChangeShapes Go.WideShapes Go.ChangeAt Go.RowKit Go.Lib topPlain topWalks
theorem hInst:Tryz.f7.isInstance Tryz.pinned.checked.prog Rows.cutUptoRow.origin Rows.cutUptoRow.targs:=of_decide_eq_true (by kernel_rfl)
theorem hWrap:Tryz.f7.isWrapper Tryz.pinned.checked.prog Rows.cutUptoRow.wrapper Rows.cutUptoRow.mainSum:=by unfold Func.isWrapper;first | (rw [if_pos (by decide +kernel)];kernel_rfl) | (rw [if_neg (by decide +kernel)];exact ⟨rfl,rfl⟩)
theorem hNam:Tryz.pinned.checked.prog.funcNamed Rows.cutUptoRow.func=some 7:=by kernel_rfl
theorem closedE:joinedFacts Tryz.pinned.checked.prog 7 Tryz.f7 (Rows.OpenSpec.upto Rows.cutSpec).bare Rows.cutUptoRow=true:=by kernel_rfl
theorem hAll (os:Os) (started:os.Started) (H:Type) (enc:TypeId×Value→H) (F:Stop.Interp):ReturnsInHanded Rows.cutUptoRow.assume Tryz.pinned.checked os 7 .any (Rows.cutUptoRow.pre enc Tryz.pinned.checked.prog Tryz.f7 (Rows.OpenSpec.upto Rows.cutSpec)) (((Rows.OpenSpec.upto Rows.cutSpec).at F).post enc Tryz.pinned.checked.prog Tryz.f7 Rows.cutUptoRow.apart Rows.cutUptoRow.fresh Rows.cutUptoRow.handsOn Rows.cutUptoRow.again):=by
 rw [OpenClaim.pre_eq_preRow];exact lifted os started H enc F
theorem saidUpto:Rows.CutUptoSaid:=
 OpenClaim.holds_of_cond 7 Tryz.f7 rfl rfl rfl rfl rfl rfl rfl ⟨rfl,rfl,rfl,rfl,rfl⟩ rfl rfl rfl rfl rfl hNam Tryz.func7 closedE hInst hWrap
  (fun os started H enc _ F=>hAll os started H enc F)
/-- No parameter wants a stand-in; the program's own looks are off. -/
theorem plain (g:FuncId) (fn:Func) (hf:Tryz.pinned.checked.prog.funcNamed "courant/courantkeep.Cut" = some g) (hfn:Tryz.pinned.checked.prog.funcs[g]?=some fn) :
 true=Tryz.pinned.checked.prog.looks []∧∀ (j:Nat) t,fn.params[j]?=some t→Tryz.pinned.checked.prog.wantsStandIn t=false:=by
 obtain rfl:g=7:=Option.some.inj ((show Tryz.prog.funcNamed "courant/courantkeep.Cut" = some 7 by kernel_rfl).symm.trans hf) |>.symm
 obtain rfl:fn=Tryz.f7:=(Option.some.inj (Tryz.func7.symm.trans hfn)).symm
 refine ⟨by kernel_rfl,fun j t ht=>?_⟩
 rw [Tryz.params7] at ht
 have hm:=Array.mem_of_getElem? ht
 simp at hm
 rcases hm with rfl | rfl | rfl
 · exact (show Tryz.prog.wantsStandIn 3=false by kernel_rfl)
 · exact (show Tryz.prog.wantsStandIn 9=false by kernel_rfl)
 · exact (show Tryz.prog.wantsStandIn 34=false by kernel_rfl)
/-- The second form's card. -/
theorem cardUpto:Rows.CutUptoCardSaid:=
 Claim7.holds_tied_plain_at .later [] _ _ _ _ saidUpto (fun _ h=>by cases h) (by kernel_rfl) (fun _ h=>by cases h) cutUpto_row_tie rfl ⟨rfl,rfl⟩ (by kernel_rfl) rfl plain (by kernel_rfl)
end cut
theorem cut_card_upto:Rows.CutUptoCardSaid:=cut.cardUpto
end Go.Proofs.YtnmfmoimjkoieaaGreatDoor
