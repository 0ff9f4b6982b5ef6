import Derived.Test.YtnmfmoimjkoieaaGreatDoorF30
set_option maxHeartbeats 25600000
set_option maxRecDepth 100000
set_option linter.all false
namespace Go.Proofs.YtnmfmoimjkoieaaGreatDoor
open Go.Proofs.Tryz
namespace br
open Go.RowKit aD av aM rd ew b7 bJ Go.Maps bX
theorem aez{w:World}{C:Nat}{v:Value}{b:List UInt8}(h:w.ownsRow C 5 1 v b.length (gS b)):(convert 45 9 v).run prog w=.ok (.string (bs b)) w:=by
 rcases h.2 with⟨rfl,h0⟩|⟨g,cap,cur,rfl,_⟩;·have hb:b=[]:=Bi h0;subst hb;exact run_convert_bytes_nil (P:=prog) w 45 5 underlying45 underlying5 0 0 9 underlying9
 ·obtain⟨b',off,cap',e1,_,_,_,h5⟩:=Tu h;cases e1;have:=rd.F6 (n:=b.length) (cap:=cap) (aC _) h5;rw[nZ]at this;exact this
end br
end Go.Proofs.YtnmfmoimjkoieaaGreatDoor
