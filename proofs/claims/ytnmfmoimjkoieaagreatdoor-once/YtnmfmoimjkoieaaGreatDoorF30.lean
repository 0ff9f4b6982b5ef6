import Derived.Test.YtnmfmoimjkoieaaGreatDoorF01
import Derived.Test.YtnmfmoimjkoieaaGreatDoorF29
import Derived.Test.YtnmfmoimjkoieaaGreatDoorF24
import Derived.Test.YtnmfmoimjkoieaaGreatDoorF25
namespace Go.Proofs.YtnmfmoimjkoieaaGreatDoor
namespace br
open Go.RowKit topPlain topWalks decPlain
set_option maxHeartbeats 1600000 in
set_option maxRecDepth 100000 in
theorem again_any (u:Uw) (hr:u.rel=false) (w:World):Calls Tryz.prog 173 #[.agg #[.int .i64 u.id,.int .i64 u.qos,.bool u.rel,.string (bs u.msg.topic),.string (bs u.msg.payload),.int .i64 u.msg.qos,.bool u.msg.retain]] w fun e w'=>e=.returned (.agg (pkK (againS u)))∧Below w.heap.size w w':=by
 have c2:=hide fun m id w=>packet_any m id w
 unfold againS
 simp only [pkK,pktS,zP] at c2
 rw [hr]
 simp only [Bool.false_eq_true,if_false,pkK,pktS,zP]
 go_enter Tryz.func173,Tryz.ntmps173
 go_wp2_with fail
 refine (c2.out u.msg u.id _).mono ?_
 rintro e w1 ⟨rfl,hB⟩
 have HB:Hid (Below w.heap.size w w1):=(((Below.refl w.heap.size w).alloc (Nat.le_refl _) _).alloc (by simp) _).trans (hB.mono (by simp;omega))
 have hz:w1.heap[w.heap.size+1]?=some (.cells #[.int .i64 0,.bool false,.bool false,.int .i64 0,.string ⟨#[]⟩,.bool false,.int .i64 0,.bool false,.int .i64 0,.bool false,.string ⟨#[]⟩,.string ⟨#[]⟩,.int .i64 0,.slice none 0 0,.slice none 0 0] 36):=(hB.block (w.heap.size+1) (by simp)).trans (by
  have h9:=heap_alloc_new (w.alloc (.cells #[.int .i64 u.id,.int .i64 u.qos,.bool false,.string (bs u.msg.topic),.string (bs u.msg.payload),.int .i64 u.msg.qos,.bool u.msg.retain] 252)) (.cells #[.int .i64 0,.bool false,.bool false,.int .i64 0,.string ⟨#[]⟩,.bool false,.int .i64 0,.bool false,.int .i64 0,.bool false,.string ⟨#[]⟩,.string ⟨#[]⟩,.int .i64 0,.slice none 0 0,.slice none 0 0] 36)
  rw [show (w.alloc (.cells #[.int .i64 u.id,.int .i64 u.qos,.bool false,.string (bs u.msg.topic),.string (bs u.msg.payload),.int .i64 u.msg.qos,.bool u.msg.retain] 252)).heap.size=w.heap.size+1 by simp] at h9
  exact h9)
 have hzf:∀ i,w1.frozen? ⟨w.heap.size+1,i,none⟩=false:=fun i=>blk_frozen hz
 obtain ⟨e0,e1,e2,e3,e4,e5,e6,e7,e8,e9,e10,e11,e12,e13,e14⟩:=cells15 hz
 have hlt:w.heap.size+1 < w1.heap.size:=by have:=hB.size;simp at this;omega
 have hne:w.heap.size+1≠w1.heap.size:=by omega
 have hne':w1.heap.size≠w.heap.size+1:=by omega
 have HZ:=hide hz
 clear hB hz
 go_wp2_with fail
 generalize hW:(((((((((((((((w1.setCell ⟨w.heap.size+1,0,none⟩ (.int .i64 3)).setCell ⟨w.heap.size+1,1,none⟩ (.bool false)).setCell ⟨w.heap.size+1,2,none⟩ (.bool false)).setCell ⟨w.heap.size+1,3,none⟩ (.int .i64 0)).setCell ⟨w.heap.size+1,4,none⟩ (.string (bs []))).setCell ⟨w.heap.size+1,5,none⟩ (.bool false)).setCell ⟨w.heap.size+1,6,none⟩ (.int .i64 0)).setCell ⟨w.heap.size+1,7,none⟩ (.bool true)).setCell ⟨w.heap.size+1,8,none⟩ (.int .i64 u.msg.qos)).setCell ⟨w.heap.size+1,9,none⟩ (.bool u.msg.retain)).setCell ⟨w.heap.size+1,10,none⟩ (.string (bs u.msg.topic))).setCell ⟨w.heap.size+1,11,none⟩ (.string (bs u.msg.payload))).setCell ⟨w.heap.size+1,12,none⟩ (.int .i64 u.id)).setCell ⟨w.heap.size+1,13,none⟩ (.slice none 0 0)).setCell ⟨w.heap.size+1,14,none⟩ (.slice none 0 0))=W5
 have hb5:W5.heap[w.heap.size+1]?=some (.cells #[.int .i64 3,.bool false,.bool false,.int .i64 0,.string (bs []),.bool false,.int .i64 0,.bool true,.int .i64 u.msg.qos,.bool u.msg.retain,.string (bs u.msg.topic),.string (bs u.msg.payload),.int .i64 u.id,.slice none 0 0,.slice none 0 0] 36):=by rw [← hW];exact (blk_set _ (blk_set _ (blk_set _ (blk_set _ (blk_set _ (blk_set _ (blk_set _ (blk_set _ (blk_set _ (blk_set _ (blk_set _ (blk_set _ (blk_set _ (blk_set _ (blk_set _ HZ.out)))))))))))))))
 have hB5:Below w.heap.size w W5:=by rw [← hW];exact (((((((((((((((HB.out.setCell (Nat.le_add_right _ _) _).setCell (Nat.le_add_right _ _) _).setCell (Nat.le_add_right _ _) _).setCell (Nat.le_add_right _ _) _).setCell (Nat.le_add_right _ _) _).setCell (Nat.le_add_right _ _) _).setCell (Nat.le_add_right _ _) _).setCell (Nat.le_add_right _ _) _).setCell (Nat.le_add_right _ _) _).setCell (Nat.le_add_right _ _) _).setCell (Nat.le_add_right _ _) _).setCell (Nat.le_add_right _ _) _).setCell (Nat.le_add_right _ _) _).setCell (Nat.le_add_right _ _) _).setCell (Nat.le_add_right _ _) _)
 clear hW e0 e1 e2 e3 e4 e5 e6 e7 e8 e9 e10 e11 e12 e13 e14 hzf
 have hb6:(W5.alloc (.cells #[.int .i64 3,.bool false,.bool false,.int .i64 0,.string (bs []),.bool false,.int .i64 0,.bool true,.int .i64 u.msg.qos,.bool u.msg.retain,.string (bs u.msg.topic),.string (bs u.msg.payload),.int .i64 u.id,.slice none 0 0,.slice none 0 0] 36)).heap[w.heap.size+1]?=some (.cells #[.int .i64 3,.bool false,.bool false,.int .i64 0,.string (bs []),.bool false,.int .i64 0,.bool true,.int .i64 u.msg.qos,.bool u.msg.retain,.string (bs u.msg.topic),.string (bs u.msg.payload),.int .i64 u.id,.slice none 0 0,.slice none 0 0] 36):=(Below.heap_alloc _ _ _ (blk_lt hb5)).trans hb5
 have hB6:=hB5.alloc hB5.size (.cells #[.int .i64 3,.bool false,.bool false,.int .i64 0,.string (bs []),.bool false,.int .i64 0,.bool true,.int .i64 u.msg.qos,.bool u.msg.retain,.string (bs u.msg.topic),.string (bs u.msg.payload),.int .i64 u.id,.slice none 0 0,.slice none 0 0] 36)
 generalize W5.alloc (.cells #[.int .i64 3,.bool false,.bool false,.int .i64 0,.string (bs []),.bool false,.int .i64 0,.bool true,.int .i64 u.msg.qos,.bool u.msg.retain,.string (bs u.msg.topic),.string (bs u.msg.payload),.int .i64 u.id,.slice none 0 0,.slice none 0 0] 36)=W6 at *
 obtain ⟨c0,c1,c2,c3,c4,c5,c6,c7,c8,c9,c10,c11,c12,c13,c14⟩:=cells15 hb6
 refine bodyPost_ret (v:=.agg #[.int .i64 3,.bool false,.bool false,.int .i64 0,.string (bs []),.bool false,.int .i64 0,.bool true,.int .i64 u.msg.qos,.bool u.msg.retain,.string (bs u.msg.topic),.string (bs u.msg.payload),.int .i64 u.id,.slice none 0 0,.slice none 0 0]) ?_ rfl ?_
 · simp [results,Tryz.results173]
   go_simp
 · exact ⟨rfl,hB6⟩
structure ConI (sb x y B cb:Nat) (n:Int) (ds:Uw→List UInt8) (V:SesV) (S:Ses) (BV:BrV) (ov:Value) (L:List (OutS×Value)) (w:World) (k:Nat) (wx:World) (ov':Value) (M:List (OutS×Value)):Prop where
 blk:BlkAt wx B BV ov' (L ++ M)
 out:M.map Prod.fst=(S.under.take k).map fun u=>⟨n,ds u,false⟩
 but:But (fun b=>V.has sb b∨OutHas B ov b) w wx
 own:ov'.ownBlock=ov.ownBlock∨∃ b,ov'.ownBlock=some b∧w.heap.size≤b
 new:∀ o,o∈M→∀ b,o.2.ownBlock=some b→w.heap.size≤b
 ses:SesAt wx sb { V with snd:=some (x,y) } S
 snk:Sink wx B cb x y n
theorem ConI.below {sb x y B cb:Nat} {n:Int} {ds:Uw→List UInt8} {V:SesV} {S:Ses} {BV:BrV} {ov:Value} {L:List (OutS×Value)} {w:World} {k:Nat} {wx wy:World} {ov':Value} {M:List (OutS×Value)} (h:ConI sb x y B cb n ds V S BV ov L w k wx ov' M) (hb:Below wx.heap.size wx wy):ConI sb x y B cb n ds V S BV ov L w k wy ov' M:=
 ⟨h.blk.below hb,h.out,h.but.trans (But.of_below (F:=fun _=>False) hb) (fun _ _ f=>f.elim),h.own,h.new,h.ses.below hb,h.snk.below hb⟩
theorem ConI.more {sb x y B cb:Nat} {n:Int} {ds:Uw→List UInt8} {V:SesV} {S:Ses} {BV:BrV} {ov:Value} {L:List (OutS×Value)} {w:World} {k:Nat} {wx wy:World} {ov':Value} {M:List (OutS×Value)} {u:Uw} (h:ConI sb x y B cb n ds V S BV ov L w k wx ov' M) (hu:S.under[k]?=some u) (hw:Wrote (fun _=>False) wx B BV ov' (L ++ M) [⟨n,ds u,false⟩] wy):∃ ov2 M2,ConI sb x y B cb n ds V S BV ov L w (k+1) wy ov2 M2:=by
 obtain ⟨ov2,M2,h1,h2,h3,h4,h5⟩:=hw
 have hsz:=h.but.size
 have h3':But (OutHas B ov') wx wy:=h3.wide (fun b _ e=>e.elim (fun f=>f.elim) id)
 refine ⟨ov2,M ++ M2,⟨by rw [← List.append_assoc];exact h1,?_,h.but.trans h3' (fun b hb e=>?_),?_,fun o ho b hb=>?_,h.ses.but h3' (fun b hb=>h.ses.apart h.blk hb),?_⟩⟩
 · rw [List.map_append,h.out,h2,List.take_add_one,hu,List.map_append];rfl
 · rcases e with e | e
   · exact Or.inr (Or.inl e)
   · rcases h.own with e' | ⟨b',e1,e2⟩
     · exact Or.inr (Or.inr (e' ▸ e))
     · rw [e1] at e;cases e;omega
 · rcases h4 with e | ⟨b,e1,e2⟩
   · rw [e];exact h.own
   · exact Or.inr ⟨b,e1,by omega⟩
 · rcases List.mem_append.1 ho with ho | ho
   · exact h.new o ho b hb
   · have:=h5 o ho b hb;omega
 · obtain ⟨a1,a2,a3⟩:=h.snk.apart h.blk
   exact h.snk.keep (h3'.keep _ (blk_lt h.snk.bx) a1) (h3'.keep _ (blk_lt h.snk.by_) a2) (h3'.keep _ (by obtain ⟨cc,hc,_⟩:=h.snk.num;exact blk_lt hc) a3)
theorem ConI.done {sb x y B cb:Nat} {n:Int} {ds:Uw→List UInt8} {V:SesV} {S:Ses} {BV:BrV} {ov:Value} {L:List (OutS×Value)} {w:World} {wx wy:World} {ov':Value} {M:List (OutS×Value)} (h:ConI sb x y B cb n ds V S BV ov L w S.under.length wx ov' M) (hw:Wrote (({ V with snd:=some (x,y) }:SesV).has sb) wx B BV ov' (L ++ M) [] wy):Wrote (V.has sb) w B BV ov L (S.under.map fun u=>⟨n,ds u,false⟩) wy:=by
 obtain ⟨ov2,M2,h1,h2,h3,h4,h5⟩:=hw
 have hM2:M2 = []:=by simpa using h2
 subst hM2
 have hsz:=h.but.size
 refine ⟨ov2,M,by rw [List.append_nil] at h1;exact h1,by rw [h.out,List.take_length],h.but.trans h3 (fun b hb e=>?_),?_,h.new⟩
 · rcases e with e | e | e
   · exact Or.inl e
   · exact Or.inr (Or.inl e)
   · rcases h.own with e' | ⟨b',e1,e2⟩
     · exact Or.inr (Or.inr (e' ▸ e))
     · rw [e1] at e;cases e;omega
 · rcases h4 with e | ⟨b,e1,e2⟩
   · rw [e];exact h.own
   · exact Or.inr ⟨b,e1,by omega⟩
set_option maxHeartbeats 3200000 in
set_option maxRecDepth 100000 in
theorem sconnect_any {N0:Nat} (sb x y B cb:Nat) (n:Int) (ds:Uw→List UInt8) (V:SesV) (S:Ses) (BV:BrV) (ov:Value) (L:List (OutS×Value)) (w:World) (hE:∀ u,u∈S.under→EncOK N0 w (againS u) (ds u)) (hV:∀ b,V.has sb b→N0≤b) (hO:∀ b,OutHas B ov b→N0≤b) (hs:SesAt w sb V S) (h:BlkAt w B BV ov L) (hS:Sink w B cb x y n) (hL:L.length+S.under.length < 1000000000000) (hr:∀ u,u∈S.under→u.rel=false) (hgo:goM true S=none) (h0:0≤S.last) (hl:S.under.length < 65000) :
 Calls Tryz.prog 132 #[.pointer (some ⟨sb,0,none⟩),.func (.func 133) #[] #[.pointer (some ⟨x,0,none⟩),.pointer (some ⟨y,0,none⟩)]] w fun e w'=>e=.returned (.tuple #[])∧Wrote (V.has sb) w B BV ov L (S.under.map fun u=>⟨n,ds u,false⟩) w'∧∃ uv',SesAt w' sb { V with snd:=some (x,y),uv:=uv' } S∧(uv'.ownBlock=V.uv.ownBlock∨∃ b,uv'.ownBlock=some b∧w.heap.size≤b):=by
 have c2:w.cell? ⟨sb,2,none⟩=some (sndV V.snd):=blk_cell hs.blk rfl
 have f2:w.frozen? ⟨sb,2,none⟩=false:=blk_frozen hs.blk
 obtain ⟨q,cap,hq⟩:=own_form hs.und
 have c5:w.cell? ⟨sb,5,none⟩=some V.uv:=blk_cell hs.blk rfl
 rw [hq] at c5
 have HE:=hide fun wx (hb:But (fun b=>V.has sb b∨OutHas B ov b) w wx) u hu=>(hE u hu).but hb (fun b e=>e.elim (hV b) (hO b))
 have HI0:Hid (ConI sb x y B cb n ds V S BV ov L w 0 (w.setCell ⟨sb,2,none⟩ (.func (.func 133) #[] #[.pointer (some ⟨x,0,none⟩),.pointer (some ⟨y,0,none⟩)])) ov []):=by
  have hf1:But (fun b=>b=sb) w (w.setCell ⟨sb,2,none⟩ (.func (.func 133) #[] #[.pointer (some ⟨x,0,none⟩),.pointer (some ⟨y,0,none⟩)])):=But.set (F:=fun b=>b=sb) w ⟨sb,2,none⟩ _ rfl
  obtain ⟨n1,n2,n3⟩:=hS.free hs
  refine ⟨by rw [List.append_nil];exact h.but hf1 (fun b e=>by subst e;exact hs.clear h b (Or.inl rfl)),rfl,hf1.wide (fun b _ e=>Or.inl (Or.inl e)),Or.inl rfl,(fun o ho=>by cases ho),hs.set (V':={ V with snd:=some (x,y) }) (S':=S) 2 _ rfl rfl rfl rfl rfl rfl rfl rfl rfl rfl,?_⟩
  exact hS.keep (hf1.keep _ (blk_lt hS.bx) (fun e=>n1 (Or.inl e))) (hf1.keep _ (blk_lt hS.by_) (fun e=>n2 (Or.inl e))) (hf1.keep _ (by obtain ⟨cc,hc,_⟩:=hS.num;exact blk_lt hc) (fun e=>n3 (Or.inl e)))
 have HVV:=hide hV
 have HQ:=hide hq
 have HR:=hide hr
 have HGO:=hide hgo
 have cA:=hide again_any
 clear hE hV hO hs h hS hq hr hgo
 go_enter Tryz.func132,Tryz.ntmps132
 go_wp2_with fail
 go_loopw [15] (fun i wx=>∃ (k:Nat) (ov':Value) (M:List (OutS×Value)),k≤S.under.length∧i=.int .i64 k∧ConI sb x y B cb n ds V S BV ov L w k wx ov' M) (fun i _=>S.under.length - (intOf i).toNat)
 case atStart=>exact ⟨0,ov,[],Nat.zero_le _,rfl,HI0.out⟩
 case round =>
  obtain ⟨k,ov',M,hk,rfl,hI⟩:=hrel
  have HI:=hide hI
  have hMl:M.length≤S.under.length:=by have:=congrArg List.length hI.out;simp at this;omega
  clear hI HI0
  by_cases hkl:k < S.under.length
  · obtain ⟨u,hu⟩:∃ u,S.under[k]?=some u:=⟨_,List.getElem?_eq_getElem hkl⟩
    have hum:=List.mem_of_getElem? hu
    have ho:=HI.out.ses.und
    have hq':({ V with snd:=some (x,y) }:SesV).uv=.slice q S.under.length cap:=HQ.out
    rw [hq'] at ho
    obtain ⟨g,rfl,hgl,hgc,hgm,_⟩:=own_at ho (by omega)
    obtain ⟨d0,d1,d2,d3,d4,d5,d6⟩:=uw_cells ho hu rfl (wr:=wr) rfl
    have hkm:cap≤9223372036854775807:=by unfold maxLen at hgm;omega
    have HU:=hide hu
    have HUM:=hide hum
    clear ho hq' hu hum hgm
    go_wp2_with fail
    obtain ⟨W2,hW2⟩:∃ W2,W2=wr.alloc (.cells #[.int .i64 u.id,.int .i64 u.qos,.bool u.rel,.string (bs u.msg.topic),.string (bs u.msg.payload),.int .i64 u.msg.qos,.bool u.msg.retain] 252):=⟨_,rfl⟩
    have hB2:Below wr.heap.size wr W2:=by rw [hW2];exact (Below.refl wr.heap.size wr).alloc (Nat.le_refl _) _
    rw [← hW2]
    have HB2:=hide hB2
    clear hW2 hB2 d0 d1 d2 d3 d4 d5 d6
    refine (cA.out u (HR.out u HUM.out) _).mono ?_
    rintro e w3 ⟨rfl,hB3⟩
    have HI3:=hide (HI.out.below (HB2.out.trans (hB3.mono HB2.out.size)))
    have cW:=hide (swrite_any (N:=N0) sb B cb n (againS u) (ds u) _ S BV ov' (L ++ M) w3 (HE.out w3 HI3.out.but u HUM.out) HI3.out.ses HI3.out.blk (fun x' y' e=>by cases e;exact HI3.out.snk) (by rw [List.length_append];omega))
    clear hB3 HB2 HI
    go_wp2_with fail
    refine cW.out.mono ?_
    rintro e w4 ⟨rfl,hw⟩
    obtain ⟨ov2,M2,hI4⟩:=HI3.out.more HU.out hw
    have HI4:=hide hI4
    clear hw hI4 cW
    go_wp2
    exact ⟨⟨k+1,ov2,M2,by omega,by go_num,HI4.out⟩,by simp [intOf];omega⟩
  · have hkn:k=S.under.length:=by omega
    subst hkn
    have hone:(goS true S).waiting = []∨mayS true (goS true S)=false:=by
     have:=HGO.out
     unfold goM at this
     unfold goS
     cases hw:S.waiting with
     | nil=>exact Or.inl hw
     | cons m r =>
       rw [hw] at this
       simp only at this ⊢
       split at this
       · cases this
       · rename_i hm
         rw [if_neg hm]
         exact Or.inr (by simpa using hm)
    have hgs:goS true S=S:=by
     have:=HGO.out
     unfold goM at this
     unfold goS
     cases hw:S.waiting with
     | nil=>rfl
     | cons m r =>
       rw [hw] at this
       simp only at this ⊢
       split at this
       · cases this
       · rename_i hm
         rw [if_neg hm]
    have cG:=hide (goOn_one (N0:=N0) sb B cb n [] { V with snd:=some (x,y) } S BV ov' (L ++ M) wr (fun m hm=>by rw [show ({ V with snd:=some (x,y) }:SesV).snd.isSome=true from rfl,HGO.out] at hm;cases hm) (fun b hb=>HVV.out b hb) HI.out.ses HI.out.blk (fun x' y' e=>by cases e;exact HI.out.snk) (by rw [List.length_append];omega) h0 hl hone)
    rw [show ({ V with snd:=some (x,y) }:SesV).snd.isSome=true from rfl,HGO.out,hgs] at cG
    go_wp2_with fail
    refine cG.out.mono ?_
    rintro e w5 ⟨rfl,hw,uv',hs5,hu5⟩
    have HF:=hide (show Wrote (V.has sb) w B BV ov L (S.under.map fun u=>⟨n,ds u,false⟩) w5∧∃ uv',SesAt w5 sb { V with snd:=some (x,y),uv:=uv' } S∧(uv'.ownBlock=V.uv.ownBlock∨∃ b,uv'.ownBlock=some b∧w.heap.size≤b) from ⟨HI.out.done hw,uv',hs5,hu5.imp id (fun ⟨b,e1,e2⟩=>⟨b,e1,Nat.le_trans HI.out.but.size e2⟩)⟩)
    clear hw hs5 hu5 cG
    go_wp2
    go_end0
    exact ⟨rfl,HF.out⟩
end br
namespace br
open Go.RowKit topPlain topWalks decPlain Go.Maps
theorem Wrote.cons {F:Nat→Prop} {w w1 w':World} {B:Nat} {BV:BrV} {ov ov':Value} {L:List (OutS×Value)} {o:OutS} {dv:Value} {ms:List OutS} (h2:But (OutHas B ov) w w1) (h3:ov'.ownBlock=ov.ownBlock∨∃ b,ov'.ownBlock=some b∧w.heap.size≤b) (h4:∀ b,dv.ownBlock=some b→w.heap.size≤b) (hw:Wrote F w1 B BV ov' (L ++ [(o,dv)]) ms w'):Wrote F w B BV ov L (o :: ms) w':=by
 obtain ⟨ov2,M,k1,k2,k3,k4,k5⟩:=hw
 have hsz:=h2.size
 refine ⟨ov2,(o,dv) :: M,by simpa using k1,by rw [List.map_cons,k2],(h2.wide (fun _ _ f=>Or.inr f)).trans k3 (fun b hb e=>?_),?_,fun o' ho b hb=>?_⟩
 · rcases e with e | e | e
   · exact Or.inl e
   · exact Or.inr (Or.inl e)
   · rcases h3 with e' | ⟨b',e1,e2⟩
     · exact Or.inr (Or.inr (e' ▸ e))
     · rw [e1] at e;cases e;omega
 · rcases k4 with e | ⟨b,e1,e2⟩
   · rw [e];exact h3
   · exact Or.inr ⟨b,e1,by omega⟩
 · rcases List.mem_cons.1 ho with rfl | ho
   · exact h4 b hb
   · have:=k5 o' ho b hb;omega
set_option maxHeartbeats 1600000 in
set_option maxRecDepth 100000 in
theorem cn_end2 {N0:Nat} (B cb sb x y:Nat) (n:Int) (pr:Bool) (d:List UInt8) (ds:Uw→List UInt8) (V:SesV) (S:Ses) (BV:BrV) (ov:Value) (L:List (OutS×Value)) (w:World) (R:Ending→World→Prop) (hE:EncOK N0 w (ackS pr 0) d) (hEs:∀ u,u∈S.under→EncOK N0 w (againS u) (ds u)) (hV:∀ b,V.has sb b→N0≤b) (hO:∀ b,OutHas B ov b→N0≤b) (hs:SesAt w sb V S) (h:BlkAt w B BV ov L) (hS:Sink w B cb x y n) (hL:L.length+1+S.under.length < 1000000000000) (hr:∀ u,u∈S.under→u.rel=false) (hgo:goM true S=none) (h0:0≤S.last) (hl:S.under.length < 65000)
 (hR:∀ w' uv',Wrote (V.has sb) w B BV ov L (⟨n,d,false⟩ :: S.under.map fun u=>⟨n,ds u,false⟩) w'→SesAt w' sb { V with snd:=some (x,y),uv:=uv' } S→(uv'.ownBlock=V.uv.ownBlock∨∃ b,uv'.ownBlock=some b∧w.heap.size≤b)→R (.returned (.tuple #[])) w')
 (u0 u1 u2 u5 u6 u9 u10 u11 u12 u13 u14 u15 u16 u17 u18 u19 u20 u21 u22 u23 u24 u25 u26 u27 u28 u29 u30 u31 u32 u33 u34 u35 u36 u37 u38 u39 u40 u41 u42 u43 u44 u45 u46 u47 u48 u49 u50 u51 u52 u53 u54 u55 u56 u57 u58 u59 u60 u61 u62 u63 u64 u65 u66 u67 u68 u69 u70 u71 u72 u73 u74 u75 u76 u77 u78 u79 u80 u81 u82 u83 u84 u85 u86 u87 u88 u89 u90 u91 u92 u93 u94 u95 u96:Value) :
 Code.wp Tryz.prog (dropS 8 (Tryz.f90.body.getD .skip)) (bodyPost Tryz.prog Tryz.f90 R) ⟨#[u0,u1,u2,.pointer (some ⟨x,0,none⟩),.pointer (some ⟨y,0,none⟩),u5,u6,.pointer (some ⟨sb,0,none⟩),.bool pr,u9,u10,u11,u12,u13,u14,u15,u16,u17,u18,u19,u20,u21,u22,u23,u24,u25,u26,u27,u28,u29,u30,u31,u32,u33,u34,u35,u36,u37,u38,u39,u40,u41,u42,u43,u44,u45,u46,u47,u48,u49,u50,u51,u52,u53,u54,u55,u56,u57,u58,u59,u60,u61,u62,u63,u64,u65,u66,u67,u68,u69,u70,u71,u72,u73,u74,u75,u76,u77,u78,u79,u80,u81,u82,u83,u84,u85,u86,u87,u88,u89,u90,u91,u92,u93,u94,u95,u96],[]⟩ w:=by
 have cx:w.cell? ⟨x,0,none⟩=some (.pointer (some ⟨B,0,none⟩)):=blk_cell hS.bx rfl
 have cy:w.cell? ⟨y,0,none⟩=some (.pointer (some ⟨cb,0,none⟩)):=blk_cell hS.by_ rfl
 have cW:Hid (Calls Tryz.prog 131 #[.pointer (some ⟨B,0,none⟩),.pointer (some ⟨cb,0,none⟩),.agg #[.int .i64 2,.bool false,.bool false,.int .i64 0,.string ⟨#[]⟩,.bool pr,.int .i64 0,.bool false,.int .i64 0,.bool false,.string ⟨#[]⟩,.string ⟨#[]⟩,.int .i64 0,.slice none 0 0,.slice none 0 0]] w fun e w'=>e=.returned (.tuple #[])∧∃ ov' dv,BlkAt w' B BV ov' (L ++ [(⟨n,d,false⟩,dv)])∧But (OutHas B ov) w w'∧(ov'.ownBlock=ov.ownBlock∨∃ b,ov'.ownBlock=some b∧w.heap.size≤b)∧∀ b,dv.ownBlock=some b→w.heap.size≤b):=bwrite_any B cb n (ackS pr 0) d BV ov L w hE h (by obtain ⟨cc,h1,h2⟩:=hS.num;exact blk_cell h1 h2) (by omega)
 have cG:Hid (∀ w1 ov' dv,BlkAt w1 B BV ov' (L ++ [(⟨n,d,false⟩,dv)])→But (OutHas B ov) w w1→(ov'.ownBlock=ov.ownBlock∨∃ b,ov'.ownBlock=some b∧w.heap.size≤b)→(∀ b,dv.ownBlock=some b→w.heap.size≤b)→Calls Tryz.prog 132 #[.pointer (some ⟨sb,0,none⟩),.func (.func 133) #[] #[.pointer (some ⟨x,0,none⟩),.pointer (some ⟨y,0,none⟩)]] w1 fun e w'=>e=.returned (.tuple #[])∧R (.returned (.tuple #[])) w'):=by
  intro w1 ov' dv h1 h2 h3 h4
  obtain ⟨a1,a2,a3⟩:=hS.apart h
  refine (sconnect_any (N0:=N0) sb x y B cb n ds V S BV ov' (L ++ [(⟨n,d,false⟩,dv)]) w1 (fun u hu=>(hEs u hu).but h2 hO) hV (fun b hb=>?_) (hs.but h2 (fun b hb=>hs.apart h hb)) h1 (hS.keep (h2.keep _ (blk_lt hS.bx) a1) (h2.keep _ (blk_lt hS.by_) a2) (h2.keep _ (by obtain ⟨cc,hc,_⟩:=hS.num;exact blk_lt hc) a3)) (by rw [List.length_append];simp;omega) hr hgo h0 hl).mono ?_
  · rcases hb with hb | hb
    · exact hO b (Or.inl hb)
    · rcases h3 with e | ⟨b',e1,e2⟩
      · exact hO b (Or.inr (e ▸ hb))
      · rw [e1] at hb;cases hb;exact Nat.le_trans hE.1 e2
  · rintro e w2 ⟨rfl,hw,uv',hs2,hu2⟩
    exact ⟨rfl,hR w2 uv' (Wrote.cons h2 h3 h4 hw) hs2 (hu2.imp id (fun ⟨b,e1,e2⟩=>⟨b,e1,Nat.le_trans h2.size e2⟩))⟩
 clear hE hEs hV hO hs h hR hS hr hgo
 conv=>arg 2;whnf
 go_wp2_with fail
 refine cW.out.mono ?_
 rintro e w1 ⟨rfl,ov',dv,h1,h2,h3,h4⟩
 have cG1:=hide (cG.out w1 ov' dv h1 h2 h3 h4)
 clear h1 h2 h3 h4
 go_wp2_with fail
 refine cG1.out.mono ?_
 rintro e w2 ⟨rfl,hF⟩
 have HF:=hide hF
 clear hF
 go_wp2
 go_end0
 exact HF.out
set_option maxHeartbeats 1600000 in
set_option maxRecDepth 100000 in
theorem cn_old (B cb x y pb m sb:Nat) (client:List UInt8) (D:DataW Unit) (BV:BrV) (ov:Value) (L:List (OutS×Value)) (w:World) (R:Ending→World→Prop) (hb:Boxes w B cb x y) (h:BlkAt w B BV ov L) (hp4:w.cell? ⟨pb,4,none⟩=some (.string (bs client)))
 (hM:w.ownsMap Tryz.prog 9 ptrElem BV.mb m D) (hD:D.atKey (.string client) .nil=.lit (.int .i64 (sb:Int))) (hH:Maps.has D (.string client)=true) (hcl:client.length≤1000)
 (hN:∀ (w':World) (u0 u1 u2 u6 u9 u10 u11 u12 u13 u14 u15 u16 u17 u18 u19 u20 u21 u22 u23 u24 u25 u26 u27 u28 u29 u30 u31 u32 u33 u34 u35 u36 u37 u38 u39 u40 u41 u42 u43 u44 u45 u46 u47 u48 u49 u50 u51 u52 u53 u54 u55 u56 u57 u58 u59 u60 u61 u62 u63 u64 u65 u66 u67 u68 u69 u70 u71 u72 u73 u74 u75 u76 u77 u78 u79 u80 u81 u82 u83 u84 u85 u86 u87 u88 u89 u90 u91 u92 u93 u94 u95 u96:Value),Below w.heap.size w w'→Code.wp Tryz.prog (dropS 7 (Tryz.f90.body.getD .skip)) (bodyPost Tryz.prog Tryz.f90 R) ⟨#[u0,u1,u2,.pointer (some ⟨x,0,none⟩),.pointer (some ⟨y,0,none⟩),.pointer (some ⟨pb,0,none⟩),u6,.pointer (some ⟨sb,0,none⟩),.bool true,u9,u10,u11,u12,u13,u14,u15,u16,u17,u18,u19,u20,u21,u22,u23,u24,u25,u26,u27,u28,u29,u30,u31,u32,u33,u34,u35,u36,u37,u38,u39,u40,u41,u42,u43,u44,u45,u46,u47,u48,u49,u50,u51,u52,u53,u54,u55,u56,u57,u58,u59,u60,u61,u62,u63,u64,u65,u66,u67,u68,u69,u70,u71,u72,u73,u74,u75,u76,u77,u78,u79,u80,u81,u82,u83,u84,u85,u86,u87,u88,u89,u90,u91,u92,u93,u94,u95,u96],[]⟩ w')
 (u0 u1 u2 u6 u7 u8 u9 u10 u11 u12 u13 u14 u15 u16 u17 u18 u19 u20 u21 u22 u23 u24 u25 u26 u27 u28 u29 u30 u31 u32 u33 u34 u35 u36 u37 u38 u39 u40 u41 u42 u43 u44 u45 u46 u47 u48 u49 u50 u51 u52 u53 u54 u55 u56 u57 u58 u59 u60 u61 u62 u63 u64 u65 u66 u67 u68 u69 u70 u71 u72 u73 u74 u75 u76 u77 u78 u79 u80 u81 u82 u83 u84 u85 u86 u87 u88 u89 u90 u91 u92 u93 u94 u95 u96:Value) :
 Code.wp Tryz.prog (dropS 5 (Tryz.f90.body.getD .skip)) (bodyPost Tryz.prog Tryz.f90 R) ⟨#[u0,u1,u2,.pointer (some ⟨x,0,none⟩),.pointer (some ⟨y,0,none⟩),.pointer (some ⟨pb,0,none⟩),u6,u7,u8,u9,u10,u11,u12,u13,u14,u15,u16,u17,u18,u19,u20,u21,u22,u23,u24,u25,u26,u27,u28,u29,u30,u31,u32,u33,u34,u35,u36,u37,u38,u39,u40,u41,u42,u43,u44,u45,u46,u47,u48,u49,u50,u51,u52,u53,u54,u55,u56,u57,u58,u59,u60,u61,u62,u63,u64,u65,u66,u67,u68,u69,u70,u71,u72,u73,u74,u75,u76,u77,u78,u79,u80,u81,u82,u83,u84,u85,u86,u87,u88,u89,u90,u91,u92,u93,u94,u95,u96],[]⟩ w:=by
 have cx:w.cell? ⟨x,0,none⟩=some (.pointer (some ⟨B,0,none⟩)):=blk_cell hb.bx rfl
 have b10:w.cell? ⟨B,10,none⟩=some (.map (some BV.mb)):=blk_cell h.blk rfl
 have hlx:=blk_lt hb.bx
 have hlB:=blk_lt h.blk
 have hlp:=cell_blt hp4
 simp only at hlp
 have hMd:w.drew.ownsMap Tryz.prog 9 ptrElem BV.mb m D:=by obtain ⟨es,cl,k1,k2⟩:=hM;exact ⟨es,cl,k1,k2⟩
 have hlk:∀ W:World,W.ownsMap Tryz.prog 9 ptrElem BV.mb m D→(Instr.lookup 126 (.map (some BV.mb)) (.string (bs client)) true).run Tryz.prog W=.ok (.tuple #[.pointer (some ⟨sb,0,none⟩),.bool true]) W:=fun W hW=>by
  obtain ⟨v,ps,hrun,hv⟩:=hW.look_ok (t:=126) (e:=135) keyStr Tryz.underlying126 (zeroPtr _) (zd:=.nil) (zp:=[]) rfl (key_bs client hcl)
  rw [hD] at hv
  obtain rfl:=ptr_lit hv
  rw [hH] at hrun
  exact hrun
 have HN:=hide hN
 clear hb h hN
 conv=>arg 2;whnf
 refine wp_seq_k fun K aK=>?_
 have HK:=hide aK
 clear aK
 go_region_held3 (fun w'=>w'.cell? ⟨x,0,none⟩=some (.pointer (some ⟨B,0,none⟩))∧w'.cell? ⟨B,10,none⟩=some (.map (some BV.mb))∧w'.cell? ⟨pb,4,none⟩=some (.string (bs client))∧w'.ownsMap Tryz.prog 9 ptrElem BV.mb m D) (go_keep) (fail)
 go_wp2_with fail
 refine HK.out _ _ ?_
 clear hlk hMd HK K
 refine wp_seq_k fun K2 aK2=>?_
 have HK2:=hide aK2
 clear aK2
 go_wp2_with fail
 refine HK2.out _ _ ?_
 exact HN.out _ _ _ _ _ _ _ _ _ _ _ _ _ _ _ _ _ _ _ _ _ _ _ _ _ _ _ _ _ _ _ _ _ _ _ _ _ _ _ _ _ _ _ _ _ _ _ _ _ _ _ _ _ _ _ _ _ _ _ _ _ _ _ _ _ _ _ _ _ _ _ _ _ _ _ _ _ _ _ _ _ _ _ _ _ _ _ _ _ _ _ _ _ (Below.refl w.heap.size w).drew
end br
end Go.Proofs.YtnmfmoimjkoieaaGreatDoor
