/- Once says yes for every three numbers and every list of moves: each message is told at most once (but again, with Dup, when the listener comes again), none that was not sent, those of one QoS in their order; what is open and what waits stay within bounds; when all is acknowledged nothing is left (the card of the first form). Conditions: what the row itself lists (four package-level variables hold what their text lays); no bound on the arguments. -/
import Derived.Test.YtnmfmoimjkoieaaGreatDoorF53
namespace Go.Proofs.YtnmfmoimjkoieaaGreatDoor
namespace once
open Go.Shelf Go.ChangeShapes Go.WideShapes Go.ChangeAt Go.RowKit Go.Lib topPlain topWalks
theorem hInst:Tryz.f8.isInstance Tryz.pinned.checked.prog Rows.onceRow.origin Rows.onceRow.targs:=of_decide_eq_true (by kernel_rfl)
theorem hWrap:Tryz.f8.isWrapper Tryz.pinned.checked.prog Rows.onceRow.wrapper Rows.onceRow.mainSum:=by unfold Func.isWrapper;first | (rw [if_pos (by decide +kernel)];kernel_rfl) | (rw [if_neg (by decide +kernel)];exact ⟨rfl,rfl⟩)
theorem hNam:Tryz.pinned.checked.prog.funcNamed Rows.onceRow.func=some 8:=by kernel_rfl
theorem closedE:joinedFacts Tryz.pinned.checked.prog 8 Tryz.f8 (OpenSpec.ofChange Rows.onceSpec).bare Rows.onceRow=true:=by kernel_rfl
theorem hAll (os:Os) (started:os.Started) (H:Type) (enc:TypeId×Value→H) (F:Stop.Interp):ReturnsInHanded Rows.onceRow.assume Tryz.pinned.checked os 8 .any (Rows.onceRow.pre enc Tryz.pinned.checked.prog Tryz.f8 (OpenSpec.ofChange Rows.onceSpec)) (((OpenSpec.ofChange Rows.onceSpec).at F).post enc Tryz.pinned.checked.prog Tryz.f8 Rows.onceRow.apart Rows.onceRow.fresh Rows.onceRow.handsOn Rows.onceRow.again):=by
 rw [OpenClaim.pre_eq_preRow];exact lifted os started H enc F
theorem said:Rows.OnceSaid:=
 OpenClaim.holds_of_cond 8 Tryz.f8 rfl rfl rfl rfl rfl rfl rfl ⟨rfl,rfl,rfl,rfl,rfl⟩ rfl rfl rfl rfl rfl hNam Tryz.func8 closedE hInst hWrap
  (fun os started H enc _ F=>hAll os started H enc F)
/-- No parameter wants a stand-in; the program's own looks are off. -/
theorem plain (g:FuncId) (fn:Func) (hf:Tryz.pinned.checked.prog.funcNamed "courant/courantkeep.Once" = some g) (hfn:Tryz.pinned.checked.prog.funcs[g]?=some fn) :
 true=Tryz.pinned.checked.prog.looks []∧∀ (j:Nat) t,fn.params[j]?=some t→Tryz.pinned.checked.prog.wantsStandIn t=false:=by
 obtain rfl:g=8:=Option.some.inj ((show Tryz.prog.funcNamed "courant/courantkeep.Once" = some 8 by kernel_rfl).symm.trans hf) |>.symm
 obtain rfl:fn=Tryz.f8:=(Option.some.inj (Tryz.func8.symm.trans hfn)).symm
 refine ⟨by kernel_rfl,fun j t ht=>?_⟩
 rw [Tryz.params8] at ht
 have hm:=Array.mem_of_getElem? ht
 simp at hm
 rcases hm with rfl | rfl
 · exact (show Tryz.prog.wantsStandIn 3=false by kernel_rfl)
 · exact (show Tryz.prog.wantsStandIn 68=false by kernel_rfl)
/-- The first form's card. -/
theorem card:Rows.OnceCardSaid:=
 Claim7.holds_tied_plain_at .later [] _ _ _ _ said (fun _ h=>by cases h) (by kernel_rfl) (fun _ h=>by cases h) once_row_tie rfl ⟨rfl,rfl⟩ (by kernel_rfl) rfl plain (by kernel_rfl)
end once
theorem once_card:Rows.OnceCardSaid:=once.card
end Go.Proofs.YtnmfmoimjkoieaaGreatDoor
