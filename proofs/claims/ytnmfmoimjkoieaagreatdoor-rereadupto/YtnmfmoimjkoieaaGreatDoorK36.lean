import Derived.Test.YtnmfmoimjkoieaaGreatDoorK35
/- The card of Reread. -/
namespace Go.Proofs.YtnmfmoimjkoieaaGreatDoor.reread
open Go.Shelf Go.ChangeShapes Go.WideShapes Go.ChangeAt Go.RowKit Go.Lib Go.Proofs.YtnmfmoimjkoieaaGreatDoor.topPlain Go.Proofs.YtnmfmoimjkoieaaGreatDoor.topWalks

theorem saidUpto : Rows.RereadUptoSaid :=
  OpenClaim.holds_of_cond 6 Tryz.f6 rfl rfl rfl rfl rfl rfl rfl ⟨rfl, rfl, rfl, rfl, rfl⟩ rfl rfl rfl rfl rfl hNam Tryz.func6 closedE hInst hWrap
    (fun os started H enc _ F => hAll os started H enc F)

/-- No parameter wants a stand-in; the program's own looks are off. -/
theorem plain (g : FuncId) (fn : Func) (hf : Tryz.pinned.checked.prog.funcNamed "courant/courantkeep.Reread" = some g) (hfn : Tryz.pinned.checked.prog.funcs[g]? = some fn) :
    true = Tryz.pinned.checked.prog.looks [] ∧ ∀ (j : Nat) t, fn.params[j]? = some t → Tryz.pinned.checked.prog.wantsStandIn t = false := by
  obtain rfl : g = 6 := Option.some.inj ((show Tryz.prog.funcNamed "courant/courantkeep.Reread" = some 6 by kernel_rfl).symm.trans hf) |>.symm
  obtain rfl : fn = Tryz.f6 := (Option.some.inj (Tryz.func6.symm.trans hfn)).symm
  refine ⟨by kernel_rfl, fun j t ht => ?_⟩
  rw [Tryz.params6] at ht
  have hm := Array.mem_of_getElem? ht
  simp at hm
  rcases hm with rfl | rfl | rfl
  · exact (show Tryz.prog.wantsStandIn 36 = false by kernel_rfl)
  · exact (show Tryz.prog.wantsStandIn 9 = false by kernel_rfl)
  · exact (show Tryz.prog.wantsStandIn 3 = false by kernel_rfl)

/-- The second form's card. -/
theorem cardUpto : Rows.RereadUptoCardSaid :=
  Claim7.holds_tied_plain_at .later [] _ _ _ _ saidUpto (fun _ h => by cases h) (by kernel_rfl) (fun _ h => by cases h) rereadUpto_row_tie rfl ⟨rfl, rfl⟩ (by kernel_rfl) rfl plain (by kernel_rfl)
end Go.Proofs.YtnmfmoimjkoieaaGreatDoor.reread
namespace Go.Proofs.YtnmfmoimjkoieaaGreatDoor
theorem reread_card_upto : Rows.RereadUptoCardSaid := reread.cardUpto
end Go.Proofs.YtnmfmoimjkoieaaGreatDoor
