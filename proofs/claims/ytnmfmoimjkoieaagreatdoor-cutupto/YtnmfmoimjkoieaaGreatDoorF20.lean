import Derived.Test.YtnmfmoimjkoieaaGreatDoorF16
import Derived.Test.YtnmfmoimjkoieaaGreatDoorF17
import Derived.Test.YtnmfmoimjkoieaaGreatDoorF18
import Derived.Test.YtnmfmoimjkoieaaGreatDoorF19
namespace Go.Proofs.YtnmfmoimjkoieaaGreatDoor
namespace ew
open Go.RowKit topPlain topWalks decPlain encPlain
open rf (FilV IntV)
open rd (pkCells)
theorem filV_below {w w':World} {v:Value} {fs:List (List UInt8×Int)} (h:FilV w v fs) (hb:Below w.heap.size w w'):FilV w' v fs:=by
 obtain ⟨q,cap,h1,h2,h3⟩:=h
 refine ⟨q,cap,h1,h2,fun j f hf=>?_⟩
 obtain ⟨g,e,hg,a,b⟩:=h3 j f hf
 exact ⟨g,e,Nat.lt_of_lt_of_le hg hb.size,by rw [hb.cell hg];exact a,by rw [hb.cell hg];exact b⟩
theorem intV_below {w w':World} {v:Value} {cs:List Int} (h:IntV w v cs) (hb:Below w.heap.size w w'):IntV w' v cs:=by
 obtain ⟨q,cap,h1,h2,h3⟩:=h
 refine ⟨q,cap,h1,h2,fun j f hf=>?_⟩
 obtain ⟨g,e,hg,a⟩:=h3 j f hf
 exact ⟨g,e,Nat.lt_of_lt_of_le hg hb.size,by rw [hb.cell hg];exact a⟩
theorem filW_below {w w':World} {v:Value} {fs:List (List UInt8×Int)} (h:FilW w v fs) (hb:Below w.heap.size w w'):FilW w' v fs:=by
 obtain ⟨q,cap,h1,h2,h3⟩:=h
 refine ⟨q,cap,h1,h2,fun j f hf=>?_⟩
 obtain ⟨g,o,e,hg,a,b⟩:=h3 j f hf
 exact ⟨g,o,e,Nat.lt_of_lt_of_le hg hb.size,by rw [hb.cell hg];exact a,by rw [hb.cell hg];exact b⟩
theorem intW_below {w w':World} {v:Value} {cs:List Int} (h:IntW w v cs) (hb:Below w.heap.size w w'):IntW w' v cs:=by
 obtain ⟨q,cap,h1,h2,h3⟩:=h
 refine ⟨q,cap,h1,h2,fun j f hf=>?_⟩
 obtain ⟨g,o,e,hg,a⟩:=h3 j f hf
 exact ⟨g,o,e,Nat.lt_of_lt_of_le hg hb.size,by rw [hb.cell hg];exact a⟩
set_option maxHeartbeats 3200000 in
set_option maxRecDepth 100000 in
theorem ps_lists (kind:Int) (clean:Bool) (will:Bool) (keep:Int) (client:List UInt8) (present:Bool) (code:Int) (dup:Bool) (qos:Int) (retain:Bool) (topic:List UInt8) (payload:List UInt8) (id:Int) (fv cv fvx cvx:Value) (fs gs:List (List UInt8×Int)) (cs ds:List Int) (w:World) (h1:FilW w fv fs) (h2:FilW w fvx gs) (h3:IntW w cv cs) (h4:IntW w cvx ds) :
 Calls Tryz.prog 83 #[.agg #[.int .i64 kind,.bool clean,.bool will,.int .i64 keep,.string (bs client),.bool present,.int .i64 code,.bool dup,.int .i64 qos,.bool retain,.string (bs topic),.string (bs payload),.int .i64 id,fv,cv],.agg #[.int .i64 kind,.bool clean,.bool will,.int .i64 keep,.string (bs client),.bool present,.int .i64 code,.bool dup,.int .i64 qos,.bool retain,.string (bs topic),.string (bs payload),.int .i64 id,fvx,cvx]] w fun e w'=>e=.returned (.bool (decide (fs=gs) && decide (cs=ds)))∧Below w.heap.size w w':=by
 have HB:Hid (∀ o1 o2,Below w.heap.size w ((w.alloc o1).alloc o2)):=fun o1 o2=>((Below.refl _ _).alloc (Nat.le_refl _) o1).alloc (by simp) o2
 have c1:=hide fun w' (hb:Below w.heap.size w w')=>eqFil_any fs gs fv fvx w' (filW_below h1 hb) (filW_below h2 hb)
 have c2:=hide fun w' (hb:Below w.heap.size w w')=>eqInt_any cs ds cv cvx w' (intW_below h3 hb) (intW_below h4 hb)
 obtain ⟨q1,k1,rfl,_⟩:=h1
 obtain ⟨q2,k2,rfl,_⟩:=h2
 obtain ⟨q3,k3,rfl,_⟩:=h3
 obtain ⟨q4,k4,rfl,_⟩:=h4
 generalize decide (fs=gs)=A at *
 generalize decide (cs=ds)=B at *
 go_enter Tryz.func83,Tryz.ntmps83
 go_wp2_with fail
 refine (c1.out _ (HB.out _ _)).mono ?_
 rintro e w1 ⟨rfl,m,rfl⟩
 cases A with
 | false =>
   go_wp2
   go_ret
   exact ⟨rfl,below_drewN (HB.out _ _) _⟩
 | true =>
   go_wp2_with fail
   refine (c2.out _ (below_drewN (HB.out _ _) _)).mono ?_
   rintro e w2 ⟨rfl,m2,rfl⟩
   go_wp2
   go_ret
   exact ⟨by simp,below_drewN (HB.out _ _) _⟩
theorem bool_no {A:Bool} {P:Prop} (h:A=true↔P) (n:¬ P):A=false:=by
 cases A
 · rfl
 · exact absurd (h.1 rfl) n
theorem psame_aux (p q:Pkt) (fs gs:List (List UInt8×Int)) (cs ds:List Int) (w:World) (h1:FilW w p.fv fs) (h2:FilW w q.fv gs) (h3:IntW w p.cv cs) (h4:IntW w q.cv ds) (A:Bool) (hA:A=true↔sameP p q∧fs=gs∧cs=ds) :
 Calls Tryz.prog 83 #[.agg (pkCells p),.agg (pkCells q)] w fun e w'=>e=.returned (.bool A)∧Below w.heap.size w w':=by
 obtain ⟨kind,clean,will,keep,client,present,code,dup,qos,retain,topic,payload,id,fv,cv⟩:=p
 obtain ⟨kindx,cleanx,willx,keepx,clientx,presentx,codex,dupx,qosx,retainx,topicx,payloadx,idx,fvx,cvx⟩:=q
 simp only [pkCells,sameP] at h1 h2 h3 h4 hA ⊢
 by_cases e0:kind=kindx
 rotate_left
 · rw [bool_no hA (fun h=>e0 h.1.1)]
   exact ps_kind  kind kindx (beq_eq_false_iff_ne.2 e0) clean cleanx will willx keep keepx client clientx present presentx code codex dup dupx qos qosx retain retainx topic topicx payload payloadx id idx fv cv fvx cvx w
 subst e0
 by_cases e1:clean=cleanx
 rotate_left
 · rw [bool_no hA (fun h=>e1 h.1.2.1)]
   exact ps_clean kind clean cleanx (beq_eq_false_iff_ne.2 e1) will willx keep keepx client clientx present presentx code codex dup dupx qos qosx retain retainx topic topicx payload payloadx id idx fv cv fvx cvx w
 subst e1
 by_cases e2:will=willx
 rotate_left
 · rw [bool_no hA (fun h=>e2 h.1.2.2.1)]
   exact ps_will kind clean will willx (beq_eq_false_iff_ne.2 e2) keep keepx client clientx present presentx code codex dup dupx qos qosx retain retainx topic topicx payload payloadx id idx fv cv fvx cvx w
 subst e2
 by_cases e3:keep=keepx
 rotate_left
 · rw [bool_no hA (fun h=>e3 h.1.2.2.2.1)]
   exact ps_keep kind clean will keep keepx (beq_eq_false_iff_ne.2 e3) client clientx present presentx code codex dup dupx qos qosx retain retainx topic topicx payload payloadx id idx fv cv fvx cvx w
 subst e3
 by_cases e4:client=clientx
 rotate_left
 · rw [bool_no hA (fun h=>e4 h.1.2.2.2.2.1)]
   exact ps_client kind clean will keep client clientx (bs_ne e4) present presentx code codex dup dupx qos qosx retain retainx topic topicx payload payloadx id idx fv cv fvx cvx w
 subst e4
 by_cases e5:present=presentx
 rotate_left
 · rw [bool_no hA (fun h=>e5 h.1.2.2.2.2.2.1)]
   exact ps_present kind clean will keep client present presentx (beq_eq_false_iff_ne.2 e5) code codex dup dupx qos qosx retain retainx topic topicx payload payloadx id idx fv cv fvx cvx w
 subst e5
 by_cases e6:code=codex
 rotate_left
 · rw [bool_no hA (fun h=>e6 h.1.2.2.2.2.2.2.1)]
   exact ps_code kind clean will keep client present code codex (beq_eq_false_iff_ne.2 e6) dup dupx qos qosx retain retainx topic topicx payload payloadx id idx fv cv fvx cvx w
 subst e6
 by_cases e7:dup=dupx
 rotate_left
 · rw [bool_no hA (fun h=>e7 h.1.2.2.2.2.2.2.2.1)]
   exact ps_dup kind clean will keep client present code dup dupx (beq_eq_false_iff_ne.2 e7) qos qosx retain retainx topic topicx payload payloadx id idx fv cv fvx cvx w
 subst e7
 by_cases e8:qos=qosx
 rotate_left
 · rw [bool_no hA (fun h=>e8 h.1.2.2.2.2.2.2.2.2.1)]
   exact ps_qos kind clean will keep client present code dup qos qosx (beq_eq_false_iff_ne.2 e8) retain retainx topic topicx payload payloadx id idx fv cv fvx cvx w
 subst e8
 by_cases e9:retain=retainx
 rotate_left
 · rw [bool_no hA (fun h=>e9 h.1.2.2.2.2.2.2.2.2.2.1)]
   exact ps_retain kind clean will keep client present code dup qos retain retainx (beq_eq_false_iff_ne.2 e9) topic topicx payload payloadx id idx fv cv fvx cvx w
 subst e9
 by_cases e10:topic=topicx
 rotate_left
 · rw [bool_no hA (fun h=>e10 h.1.2.2.2.2.2.2.2.2.2.2.1)]
   exact ps_topic kind clean will keep client present code dup qos retain topic topicx (bs_ne e10) payload payloadx id idx fv cv fvx cvx w
 subst e10
 by_cases e11:payload=payloadx
 rotate_left
 · rw [bool_no hA (fun h=>e11 h.1.2.2.2.2.2.2.2.2.2.2.2.1)]
   exact ps_payload kind clean will keep client present code dup qos retain topic payload payloadx (bs_ne e11) id idx fv cv fvx cvx w
 subst e11
 by_cases e12:id=idx
 rotate_left
 · rw [bool_no hA (fun h=>e12 h.1.2.2.2.2.2.2.2.2.2.2.2.2)]
   exact ps_id kind clean will keep client present code dup qos retain topic payload id idx (beq_eq_false_iff_ne.2 e12)  fv cv fvx cvx w
 subst e12
 refine (ps_lists kind clean will keep client present code dup qos retain topic payload id fv cv fvx cvx fs gs cs ds w h1 h2 h3 h4).mono ?_
 rintro e w' ⟨rfl,hb⟩
 refine ⟨ret_bool ?_,hb⟩
 by_cases a:fs=gs
 · by_cases b:cs=ds
   · rw [decide_eq_true a,decide_eq_true b,hA.2 ⟨⟨rfl,rfl,rfl,rfl,rfl,rfl,rfl,rfl,rfl,rfl,rfl,rfl,rfl⟩,a,b⟩];rfl
   · rw [decide_eq_true a,decide_eq_false b,bool_no hA (fun h=>b h.2.2)];rfl
 · rw [decide_eq_false a,bool_no hA (fun h=>a h.2.1)];rfl
theorem psame_any (p q:Pkt) (fs gs:List (List UInt8×Int)) (cs ds:List Int) (w:World) (h1:FilW w p.fv fs) (h2:FilW w q.fv gs) (h3:IntW w p.cv cs) (h4:IntW w q.cv ds) :
 Calls Tryz.prog 83 #[.agg (pkCells p),.agg (pkCells q)] w fun e w'=>e=.returned (.bool (decide (sameP p q∧fs=gs∧cs=ds)))∧Below w.heap.size w w':=
 psame_aux p q fs gs cs ds w h1 h2 h3 h4 _ decide_eq_true_iff
end ew
end Go.Proofs.YtnmfmoimjkoieaaGreatDoor
