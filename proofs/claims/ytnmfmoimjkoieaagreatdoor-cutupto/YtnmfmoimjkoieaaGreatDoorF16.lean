import Derived.Test.YtnmfmoimjkoieaaGreatDoorF15
import Derived.Test.YtnmfmoimjkoieaaGreatDoorF01
import Derived.BigFrame
import Derived.BigGuard
namespace Go.Proofs.YtnmfmoimjkoieaaGreatDoor
namespace ew
open Go.RowKit topPlain topWalks decPlain encPlain
open rf (FilV IntV)
open rd (pkCells)
set_option maxHeartbeats 1600000 in
set_option maxRecDepth 100000 in
theorem ps_kind  (kind:Int) (kindx:Int) (hne:(kind == kindx)=false) (clean:Bool) (cleanx:Bool) (will:Bool) (willx:Bool) (keep:Int) (keepx:Int) (client:List UInt8) (clientx:List UInt8) (present:Bool) (presentx:Bool) (code:Int) (codex:Int) (dup:Bool) (dupx:Bool) (qos:Int) (qosx:Int) (retain:Bool) (retainx:Bool) (topic:List UInt8) (topicx:List UInt8) (payload:List UInt8) (payloadx:List UInt8) (id:Int) (idx:Int) (fv cv fvx cvx:Value) (w:World) :
 Calls Tryz.prog 83 #[.agg #[.int .i64 kind,.bool clean,.bool will,.int .i64 keep,.string (bs client),.bool present,.int .i64 code,.bool dup,.int .i64 qos,.bool retain,.string (bs topic),.string (bs payload),.int .i64 id,fv,cv],.agg #[.int .i64 kindx,.bool cleanx,.bool willx,.int .i64 keepx,.string (bs clientx),.bool presentx,.int .i64 codex,.bool dupx,.int .i64 qosx,.bool retainx,.string (bs topicx),.string (bs payloadx),.int .i64 idx,fvx,cvx]] w fun e w'=>e=.returned (.bool false)∧Below w.heap.size w w':=by
 have HB:Hid (∀ o1 o2,Below w.heap.size w ((w.alloc o1).alloc o2)):=fun o1 o2=>((Below.refl _ _).alloc (Nat.le_refl _) o1).alloc (by simp) o2
 go_enter Tryz.func83,Tryz.ntmps83
 go_wp2
 go_ret
 exact ⟨rfl,HB.out _ _⟩
set_option maxHeartbeats 1600000 in
set_option maxRecDepth 100000 in
theorem ps_clean (kind:Int) (clean:Bool) (cleanx:Bool) (hne:(clean == cleanx)=false) (will:Bool) (willx:Bool) (keep:Int) (keepx:Int) (client:List UInt8) (clientx:List UInt8) (present:Bool) (presentx:Bool) (code:Int) (codex:Int) (dup:Bool) (dupx:Bool) (qos:Int) (qosx:Int) (retain:Bool) (retainx:Bool) (topic:List UInt8) (topicx:List UInt8) (payload:List UInt8) (payloadx:List UInt8) (id:Int) (idx:Int) (fv cv fvx cvx:Value) (w:World) :
 Calls Tryz.prog 83 #[.agg #[.int .i64 kind,.bool clean,.bool will,.int .i64 keep,.string (bs client),.bool present,.int .i64 code,.bool dup,.int .i64 qos,.bool retain,.string (bs topic),.string (bs payload),.int .i64 id,fv,cv],.agg #[.int .i64 kind,.bool cleanx,.bool willx,.int .i64 keepx,.string (bs clientx),.bool presentx,.int .i64 codex,.bool dupx,.int .i64 qosx,.bool retainx,.string (bs topicx),.string (bs payloadx),.int .i64 idx,fvx,cvx]] w fun e w'=>e=.returned (.bool false)∧Below w.heap.size w w':=by
 have HB:Hid (∀ o1 o2,Below w.heap.size w ((w.alloc o1).alloc o2)):=fun o1 o2=>((Below.refl _ _).alloc (Nat.le_refl _) o1).alloc (by simp) o2
 go_enter Tryz.func83,Tryz.ntmps83
 go_wp2
 go_ret
 exact ⟨rfl,HB.out _ _⟩
set_option maxHeartbeats 1600000 in
set_option maxRecDepth 100000 in
theorem ps_will (kind:Int) (clean:Bool) (will:Bool) (willx:Bool) (hne:(will == willx)=false) (keep:Int) (keepx:Int) (client:List UInt8) (clientx:List UInt8) (present:Bool) (presentx:Bool) (code:Int) (codex:Int) (dup:Bool) (dupx:Bool) (qos:Int) (qosx:Int) (retain:Bool) (retainx:Bool) (topic:List UInt8) (topicx:List UInt8) (payload:List UInt8) (payloadx:List UInt8) (id:Int) (idx:Int) (fv cv fvx cvx:Value) (w:World) :
 Calls Tryz.prog 83 #[.agg #[.int .i64 kind,.bool clean,.bool will,.int .i64 keep,.string (bs client),.bool present,.int .i64 code,.bool dup,.int .i64 qos,.bool retain,.string (bs topic),.string (bs payload),.int .i64 id,fv,cv],.agg #[.int .i64 kind,.bool clean,.bool willx,.int .i64 keepx,.string (bs clientx),.bool presentx,.int .i64 codex,.bool dupx,.int .i64 qosx,.bool retainx,.string (bs topicx),.string (bs payloadx),.int .i64 idx,fvx,cvx]] w fun e w'=>e=.returned (.bool false)∧Below w.heap.size w w':=by
 have HB:Hid (∀ o1 o2,Below w.heap.size w ((w.alloc o1).alloc o2)):=fun o1 o2=>((Below.refl _ _).alloc (Nat.le_refl _) o1).alloc (by simp) o2
 go_enter Tryz.func83,Tryz.ntmps83
 go_wp2
 go_ret
 exact ⟨rfl,HB.out _ _⟩
set_option maxHeartbeats 1600000 in
set_option maxRecDepth 100000 in
theorem ps_keep (kind:Int) (clean:Bool) (will:Bool) (keep:Int) (keepx:Int) (hne:(keep == keepx)=false) (client:List UInt8) (clientx:List UInt8) (present:Bool) (presentx:Bool) (code:Int) (codex:Int) (dup:Bool) (dupx:Bool) (qos:Int) (qosx:Int) (retain:Bool) (retainx:Bool) (topic:List UInt8) (topicx:List UInt8) (payload:List UInt8) (payloadx:List UInt8) (id:Int) (idx:Int) (fv cv fvx cvx:Value) (w:World) :
 Calls Tryz.prog 83 #[.agg #[.int .i64 kind,.bool clean,.bool will,.int .i64 keep,.string (bs client),.bool present,.int .i64 code,.bool dup,.int .i64 qos,.bool retain,.string (bs topic),.string (bs payload),.int .i64 id,fv,cv],.agg #[.int .i64 kind,.bool clean,.bool will,.int .i64 keepx,.string (bs clientx),.bool presentx,.int .i64 codex,.bool dupx,.int .i64 qosx,.bool retainx,.string (bs topicx),.string (bs payloadx),.int .i64 idx,fvx,cvx]] w fun e w'=>e=.returned (.bool false)∧Below w.heap.size w w':=by
 have HB:Hid (∀ o1 o2,Below w.heap.size w ((w.alloc o1).alloc o2)):=fun o1 o2=>((Below.refl _ _).alloc (Nat.le_refl _) o1).alloc (by simp) o2
 go_enter Tryz.func83,Tryz.ntmps83
 go_wp2
 go_ret
 exact ⟨rfl,HB.out _ _⟩
end ew
end Go.Proofs.YtnmfmoimjkoieaaGreatDoor
