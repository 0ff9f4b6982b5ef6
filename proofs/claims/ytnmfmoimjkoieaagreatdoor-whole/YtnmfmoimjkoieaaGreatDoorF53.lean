/- Whole says yes for every four numbers: as many messages of QoS 1 or 2 as may be under way and wait are all told, in their order, once all is acknowledged (the card of the first form). Conditions: what the row itself lists (four package-level variables hold what their text lays); no bound on the arguments. -/
import Derived.Test.YtnmfmoimjkoieaaGreatDoorF52
namespace Go.Proofs.YtnmfmoimjkoieaaGreatDoor.whole
open Go.Shelf Go.ChangeShapes Go.WideShapes Go.ChangeAt Go.RowKit Go.Lib Go.Proofs.YtnmfmoimjkoieaaGreatDoor.topPlain Go.Proofs.YtnmfmoimjkoieaaGreatDoor.topWalks
theorem hInst : Tryz.f9.isInstance Tryz.pinned.checked.prog Rows.wholeRow.origin Rows.wholeRow.targs := of_decide_eq_true (by kernel_rfl)
theorem hWrap : Tryz.f9.isWrapper Tryz.pinned.checked.prog Rows.wholeRow.wrapper Rows.wholeRow.mainSum := by unfold Func.isWrapper; first | (rw [if_pos (by decide +kernel)]; kernel_rfl) | (rw [if_neg (by decide +kernel)]; exact ⟨rfl, rfl⟩)
theorem hNam : Tryz.pinned.checked.prog.funcNamed Rows.wholeRow.func = some 9 := by kernel_rfl
theorem closedE : joinedFacts Tryz.pinned.checked.prog 9 Tryz.f9 (OpenSpec.ofChange Rows.wholeSpec).bare Rows.wholeRow = true := by kernel_rfl
theorem hAll (os : Os) (started : os.Started) (H : Type) (enc : TypeId × Value → H) (F : Stop.Interp) : ReturnsInHanded Rows.wholeRow.assume Tryz.pinned.checked os 9 .any (Rows.wholeRow.pre enc Tryz.pinned.checked.prog Tryz.f9 (OpenSpec.ofChange Rows.wholeSpec)) (((OpenSpec.ofChange Rows.wholeSpec).at F).post enc Tryz.pinned.checked.prog Tryz.f9 Rows.wholeRow.apart Rows.wholeRow.fresh Rows.wholeRow.handsOn Rows.wholeRow.again) := by
  rw [OpenClaim.pre_eq_preRow]; exact lifted os started H enc F
theorem said : Rows.WholeSaid :=
  OpenClaim.holds_of_cond 9 Tryz.f9 rfl rfl rfl rfl rfl rfl rfl ⟨rfl, rfl, rfl, rfl, rfl⟩ rfl rfl rfl rfl rfl hNam Tryz.func9 closedE hInst hWrap
    (fun os started H enc _ F => hAll os started H enc F)
/-- No parameter wants a stand-in; the program's own looks are off. -/
theorem plain (g : FuncId) (fn : Func) (hf : Tryz.pinned.checked.prog.funcNamed "courant/courantkeep.Whole" = some g) (hfn : Tryz.pinned.checked.prog.funcs[g]? = some fn) :
    true = Tryz.pinned.checked.prog.looks [] ∧ ∀ (j : Nat) t, fn.params[j]? = some t → Tryz.pinned.checked.prog.wantsStandIn t = false := by
  obtain rfl : g = 9 := Option.some.inj ((show Tryz.prog.funcNamed "courant/courantkeep.Whole" = some 9 by kernel_rfl).symm.trans hf) |>.symm
  obtain rfl : fn = Tryz.f9 := (Option.some.inj (Tryz.func9.symm.trans hfn)).symm
  refine ⟨by kernel_rfl, fun j t ht => ?_⟩
  rw [Tryz.params9] at ht
  have hm := Array.mem_of_getElem? ht
  simp at hm
  subst hm
  exact (show Tryz.prog.wantsStandIn 3 = false by kernel_rfl)
/-- The first form's card. -/
theorem card : Rows.WholeCardSaid :=
  Claim7.holds_tied_plain_at .later [] _ _ _ _ said (fun _ h => by cases h) (by kernel_rfl) (fun _ h => by cases h) whole_row_tie rfl ⟨rfl, rfl⟩ (by kernel_rfl) rfl plain (by kernel_rfl)
end Go.Proofs.YtnmfmoimjkoieaaGreatDoor.whole
namespace Go.Proofs.YtnmfmoimjkoieaaGreatDoor
theorem whole_card : Rows.WholeCardSaid := whole.card
end Go.Proofs.YtnmfmoimjkoieaaGreatDoor
