import Derived.Test.YtnmfmoimjkoieaaGreatDoorF15
import Derived.Test.YtnmfmoimjkoieaaGreatDoorF01
import Derived.BigFrame
import Derived.BigGuard
namespace Go.Proofs.YtnmfmoimjkoieaaGreatDoor
namespace ew
open Go.RowKit topPlain topWalks decPlain encPlain
open rf (FilV IntV)
open rd (pkCells)
set_option maxHeartbeats 1600000 in
set_option maxRecDepth 100000 in
theorem ps_topic (kind:Int) (clean:Bool) (will:Bool) (keep:Int) (client:List UInt8) (present:Bool) (code:Int) (dup:Bool) (qos:Int) (retain:Bool) (topic:List UInt8) (topicx:List UInt8) (hne:((bs topic).toList == (bs topicx).toList)=false) (payload:List UInt8) (payloadx:List UInt8) (id:Int) (idx:Int) (fv cv fvx cvx:Value) (w:World) :
 Calls Tryz.prog 83 #[.agg #[.int .i64 kind,.bool clean,.bool will,.int .i64 keep,.string (bs client),.bool present,.int .i64 code,.bool dup,.int .i64 qos,.bool retain,.string (bs topic),.string (bs payload),.int .i64 id,fv,cv],.agg #[.int .i64 kind,.bool clean,.bool will,.int .i64 keep,.string (bs client),.bool present,.int .i64 code,.bool dup,.int .i64 qos,.bool retain,.string (bs topicx),.string (bs payloadx),.int .i64 idx,fvx,cvx]] w fun e w'=>e=.returned (.bool false)∧Below w.heap.size w w':=by
 have HB:Hid (∀ o1 o2,Below w.heap.size w ((w.alloc o1).alloc o2)):=fun o1 o2=>((Below.refl _ _).alloc (Nat.le_refl _) o1).alloc (by simp) o2
 go_enter Tryz.func83,Tryz.ntmps83
 go_wp2
 go_ret
 exact ⟨rfl,HB.out _ _⟩
set_option maxHeartbeats 1600000 in
set_option maxRecDepth 100000 in
theorem ps_payload (kind:Int) (clean:Bool) (will:Bool) (keep:Int) (client:List UInt8) (present:Bool) (code:Int) (dup:Bool) (qos:Int) (retain:Bool) (topic:List UInt8) (payload:List UInt8) (payloadx:List UInt8) (hne:((bs payload).toList == (bs payloadx).toList)=false) (id:Int) (idx:Int) (fv cv fvx cvx:Value) (w:World) :
 Calls Tryz.prog 83 #[.agg #[.int .i64 kind,.bool clean,.bool will,.int .i64 keep,.string (bs client),.bool present,.int .i64 code,.bool dup,.int .i64 qos,.bool retain,.string (bs topic),.string (bs payload),.int .i64 id,fv,cv],.agg #[.int .i64 kind,.bool clean,.bool will,.int .i64 keep,.string (bs client),.bool present,.int .i64 code,.bool dup,.int .i64 qos,.bool retain,.string (bs topic),.string (bs payloadx),.int .i64 idx,fvx,cvx]] w fun e w'=>e=.returned (.bool false)∧Below w.heap.size w w':=by
 have HB:Hid (∀ o1 o2,Below w.heap.size w ((w.alloc o1).alloc o2)):=fun o1 o2=>((Below.refl _ _).alloc (Nat.le_refl _) o1).alloc (by simp) o2
 go_enter Tryz.func83,Tryz.ntmps83
 go_wp2
 go_ret
 exact ⟨rfl,HB.out _ _⟩
set_option maxHeartbeats 1600000 in
set_option maxRecDepth 100000 in
theorem ps_id (kind:Int) (clean:Bool) (will:Bool) (keep:Int) (client:List UInt8) (present:Bool) (code:Int) (dup:Bool) (qos:Int) (retain:Bool) (topic:List UInt8) (payload:List UInt8) (id:Int) (idx:Int) (hne:(id == idx)=false)  (fv cv fvx cvx:Value) (w:World) :
 Calls Tryz.prog 83 #[.agg #[.int .i64 kind,.bool clean,.bool will,.int .i64 keep,.string (bs client),.bool present,.int .i64 code,.bool dup,.int .i64 qos,.bool retain,.string (bs topic),.string (bs payload),.int .i64 id,fv,cv],.agg #[.int .i64 kind,.bool clean,.bool will,.int .i64 keep,.string (bs client),.bool present,.int .i64 code,.bool dup,.int .i64 qos,.bool retain,.string (bs topic),.string (bs payload),.int .i64 idx,fvx,cvx]] w fun e w'=>e=.returned (.bool false)∧Below w.heap.size w w':=by
 have HB:Hid (∀ o1 o2,Below w.heap.size w ((w.alloc o1).alloc o2)):=fun o1 o2=>((Below.refl _ _).alloc (Nat.le_refl _) o1).alloc (by simp) o2
 go_enter Tryz.func83,Tryz.ntmps83
 go_wp2
 go_ret
 exact ⟨rfl,HB.out _ _⟩
end ew
end Go.Proofs.YtnmfmoimjkoieaaGreatDoor
