/- Told: for every configuration and every script of steps, up to the sizes that the second form names, the law Told answers true: it calls the program and the document's own broker and compares them; ToldUptoCardSaid. -/
import Derived.Test.YtnmfmoimjkoieaaGreatDoorF47
set_option maxHeartbeats 25600000
set_option maxRecDepth 100000
set_option linter.all false
namespace Go.Proofs.YtnmfmoimjkoieaaGreatDoor
open Go.Proofs.Tryz Tryz
namespace told
open Go.Shelf Go.ChangeShapes Go.WideShapes Go.ChangeAt Go.RowKit Go.Lib aD av
theorem amt:Rows.ToldUptoSaid:=OpenClaim.holds_of_cond 5 f5 rfl rfl rfl rfl rfl rfl rfl ⟨rfl,rfl,rfl,rfl,rfl⟩ rfl rfl rfl rfl rfl agT func5 ad3 agP agZ (λos started H enc _ F=>agC os started H enc F)
theorem plain(g:FuncId)(fn:Func)(hf:pinned.checked.prog.funcNamed "courant/courantlaw.Told" =some g)(hfn:pinned.checked.prog.funcs[g]?=some fn):true=pinned.checked.prog.looks []/\∀(j:Nat) t,fn.params[j]?=some t->pinned.checked.prog.wantsStandIn t=false:=by
 obtain rfl:g=5:=iA ((show prog.funcNamed "courant/courantlaw.Told" =some 5 by kernel_rfl).symm.trans hf) |>.symm;obtain rfl:fn=f5:=(iA (func5.symm.trans hfn)).symm;refine⟨by kernel_rfl,λj t ht=>?_⟩;rw[params5]at ht;rcases(show t=40\/t=41 by simpa using Array.mem_of_getElem? ht)with rfl|rfl;·exact(show prog.wantsStandIn 40=false by kernel_rfl)
 ·exact(show prog.wantsStandIn 41=false by kernel_rfl)
theorem aql:Rows.ToldUptoCardSaid:=Claim7.holds_tied_plain_at .later [] _ _ _ _ amt (λ_ h=>by cases h) (by kernel_rfl) (λ_ h=>by cases h) toldUpto_row_tie rfl ⟨rfl,rfl⟩ (by kernel_rfl) rfl plain (by kernel_rfl)
end told
section
theorem told_card_upto:Rows.ToldUptoCardSaid:=told.aql
end
end Go.Proofs.YtnmfmoimjkoieaaGreatDoor
