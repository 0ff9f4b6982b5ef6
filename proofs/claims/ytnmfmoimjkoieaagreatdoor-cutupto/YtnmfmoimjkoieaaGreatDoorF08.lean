import Derived.Test.YtnmfmoimjkoieaaGreatDoorF07
import Derived.Deep.RegionWith
import Derived.Deep.QuietTactic
import Derived.BigQuiet
import Derived.WalkSmall
namespace Go.Proofs.YtnmfmoimjkoieaaGreatDoor
namespace rd
open Go.RowKit topPlain topWalks decPlain
def pkCells (p:Pkt):Array Value:=#[.int .i64 p.kind,.bool p.clean,.bool p.will,.int .i64 p.keep,.string (bs p.client),.bool p.present,.int .i64 p.code,.bool p.dup,.int .i64 p.qos,.bool p.retain,.string (bs p.topic),.string (bs p.payload),.int .i64 p.id,p.fv,p.cv]
def zeroP:Pkt:=⟨0,false,false,0,[],false,0,false,0,false,[],[],0,.slice none 0 0,.slice none 0 0⟩
def BodyPost (a:Addr) (w:World) (R:Option (Pkt×List (List UInt8×Int)×List Int)) (e:Ending) (w':World):Prop:=
 Below w.heap.size w w'∧match R with
  | some r=>∃ fv cv,e=.returned (.tuple #[.agg (pkCells { r.1 with fv:=fv,cv:=cv }),.nilIface])∧w'.ownsRow w.heap.size 95 2 fv r.2.1.length (filC r.2.1)∧w'.ownsRow w.heap.size 3 1 cv r.2.2.length (ints r.2.2)
  | none=>∃ v n,e=.returned (.tuple #[.agg (pkCells zeroP),v])∧Nest a (n+1) v
theorem own_less {w:World} {C D:Nat} {e:TypeId} {sz:Nat} {v:Value} {n:Nat} {xs:List Value} (h:w.ownsRow C e sz v n xs) (hD:D≤C):w.ownsRow D e sz v n xs:=by
 refine ⟨h.1,?_⟩
 rcases h.2 with hn | ⟨g,cap,cur,h1,h2,h3⟩
 · exact Or.inl hn
 · exact Or.inr ⟨g,cap,cur,h1,by omega,h3⟩
theorem heap3 (w:World) (o1 o2 o3:Obj):(((w.alloc o1).alloc o2).alloc o3).heap[w.heap.size+1]?=some o2:=by
 show (((w.heap.push o1).push o2).push o3)[w.heap.size+1]?=some o2
 rw [Array.getElem?_push,if_neg (by simp),Array.getElem?_push,if_pos (by simp)]
theorem zero_cells {w:World} {b:Nat} (h:w.heap[b]?=some (.cells (pkCells zeroP) 36)):w.cell? ⟨b,0,none⟩=some (.int .i64 0)∧w.cell? ⟨b,1,none⟩=some (.bool false)∧w.cell? ⟨b,2,none⟩=some (.bool false)∧w.cell? ⟨b,3,none⟩=some (.int .i64 0)∧w.cell? ⟨b,4,none⟩=some (.string (bs []))∧w.cell? ⟨b,5,none⟩=some (.bool false)∧w.cell? ⟨b,6,none⟩=some (.int .i64 0)∧w.cell? ⟨b,7,none⟩=some (.bool false)∧w.cell? ⟨b,8,none⟩=some (.int .i64 0)∧w.cell? ⟨b,9,none⟩=some (.bool false)∧w.cell? ⟨b,10,none⟩=some (.string (bs []))∧w.cell? ⟨b,11,none⟩=some (.string (bs []))∧w.cell? ⟨b,12,none⟩=some (.int .i64 0)∧w.cell? ⟨b,13,none⟩=some (.slice none 0 0)∧w.cell? ⟨b,14,none⟩=some (.slice none 0 0):=by
 refine ⟨?_,?_,?_,?_,?_,?_,?_,?_,?_,?_,?_,?_,?_,?_,?_⟩
 all_goals simp [World.cell?,h,pkCells,zeroP]
theorem zero_thawed {w:World} {b:Nat} (h:w.heap[b]?=some (.cells (pkCells zeroP) 36)):w.frozen? ⟨b,0,none⟩=false∧w.frozen? ⟨b,1,none⟩=false∧w.frozen? ⟨b,2,none⟩=false∧w.frozen? ⟨b,3,none⟩=false∧w.frozen? ⟨b,4,none⟩=false∧w.frozen? ⟨b,5,none⟩=false∧w.frozen? ⟨b,6,none⟩=false∧w.frozen? ⟨b,7,none⟩=false∧w.frozen? ⟨b,8,none⟩=false∧w.frozen? ⟨b,9,none⟩=false∧w.frozen? ⟨b,10,none⟩=false∧w.frozen? ⟨b,11,none⟩=false∧w.frozen? ⟨b,12,none⟩=false∧w.frozen? ⟨b,13,none⟩=false∧w.frozen? ⟨b,14,none⟩=false:=by
 refine ⟨?_,?_,?_,?_,?_,?_,?_,?_,?_,?_,?_,?_,?_,?_,?_⟩
 all_goals simp [World.frozen?,h]
theorem own_slice {w:World} {C:Nat} {e:TypeId} {sz:Nat} {v:Value} {n:Nat} {xs:List Value} (h:w.ownsRow C e sz v n xs):∃ q m c,v=.slice q m c:=by
 rcases h.2 with ⟨h1,_⟩ | ⟨g,cap,cur,h1,_⟩
 · exact ⟨_,_,_,h1⟩
 · exact ⟨_,_,_,h1⟩
set_option maxHeartbeats 3200000 in
set_option maxRecDepth 100000 in
theorem readBody_any (a:Addr) (w:World) (p:Pkt) (l:List UInt8) (v:Value) (hl:l.length≤60000) (hv:BytesV w.heap.size w v l) (hE:Env a w.heap.size w) (hfv:p.fv=.slice none 0 0) (hcv:p.cv=.slice none 0 0) (hk1:1≤p.kind) (hk2:p.kind≤14) :
 Calls Tryz.prog 87 #[.agg (pkCells p),v] w (BodyPost a w (bodyS p l)):=by
 have HV:=hide hv
 have HE:=hide hE
 have hlow:=hE.low
 obtain ⟨b,off,cap,rfl,hc1,hc2,hb,hcell⟩:=hv
 clear hE hcell
 have hSt:∀ W3,W3=((w.alloc (.cells #[.int .i64 p.kind,.bool p.clean,.bool p.will,.int .i64 p.keep,.string (bs p.client),.bool p.present,.int .i64 p.code,.bool p.dup,.int .i64 p.qos,.bool p.retain,.string (bs p.topic),.string (bs p.payload),.int .i64 p.id,.slice none 0 0,.slice none 0 0] 36)).alloc (.cells (pkCells zeroP) 36)).alloc (.cells #[.slice (some ⟨b,off,none⟩) l.length cap,.nilIface] 217) →
  St a w.heap.size (w.heap.size+1+1) w.heap.size W3 W3 p (some l)∧Below w.heap.size w W3:=by
  rintro W3 rfl
  have hbel:Below w.heap.size w (((w.alloc (.cells #[.int .i64 p.kind,.bool p.clean,.bool p.will,.int .i64 p.keep,.string (bs p.client),.bool p.present,.int .i64 p.code,.bool p.dup,.int .i64 p.qos,.bool p.retain,.string (bs p.topic),.string (bs p.payload),.int .i64 p.id,.slice none 0 0,.slice none 0 0] 36)).alloc (.cells (pkCells zeroP) 36)).alloc (.cells #[.slice (some ⟨b,off,none⟩) l.length cap,.nilIface] 217)):=
   (((Below.refl _ _).alloc (Nat.le_refl _) _).alloc (by simp) _).alloc (by simp;omega) _
  refine ⟨⟨HE.out.below hbel,by omega,by omega,by omega,⟨by omega,.slice (some ⟨b,off,none⟩) l.length cap,by go_simp,by go_simp,by go_simp,by go_simp,?_⟩,?_,Below.refl _ _,by omega,rfl⟩,hbel⟩
  · obtain ⟨b',off',cap',e1,h2,h3,h4,h5⟩:=HV.out
    exact ⟨b',off',cap',e1,h2,h3,h4,fun j x hx=>by rw [hbel.cell h4];exact h5 j x hx⟩
  · constructor
    · intro i;go_simp
    all_goals first | go_simp | (rw [hfv];go_simp) | (rw [hcv];go_simp)
 have HST:=hide hSt
 clear hSt
 obtain ⟨R,hR⟩:∃ R,packetS p (some l)=R:=⟨_,rfl⟩
 have hB:bodyS p l=if lenS R.2.2.2=0∧R.2.2.2≠none then some (R.1,R.2.1,R.2.2.1) else none:=by unfold bodyS;rw [hR]
 rw [hB]
 have HR:=hide hR
 clear hB hR HV
 obtain ⟨q,fs,cs,st⟩:=R
 unfold pkCells
 rw [hfv,hcv]
 match st with
 | some [] =>
   rw [if_pos ⟨rfl,by simp⟩]
   go_enter Tryz.func87,Tryz.ntmps87
   go_wp2_with fail
   refine (packet_any a w.heap.size (w.heap.size+1+1) w.heap.size (w.heap.size+3) _ _ p (some l) hl (HST.out _ ?_).1 hfv hcv (by omega) (by omega) (by simp) hk1 hk2).mono ?_
   · rfl
   rintro e w4 ⟨rfl,hD⟩
   rw [HR.out] at hD
   obtain ⟨fv,cv,hS4,hO1,hO2⟩:=hD
   have hb3:=(HST.out _ rfl).2
   have hres:=hS4.res
   have hz:w4.heap[w.heap.size+1]?=some (.cells (pkCells zeroP) 36):=by
    rw [show w.heap.size+1=w.heap.size+1+1 - 1 by omega,hres]
    exact heap3 _ _ _ _
   have HBD:=hide (hb3.trans hS4.bel)
   have HS4:=hide hS4
   have HO1:=hide hO1
   have HO2:=hide hO2
   have HHZ:=hide hz
   obtain ⟨q0,cp0,hv0⟩:=rd_cell0 hS4.rd
   clear hz hres hb3 hS4 hO1 hO2
   simp only [lenS,List.length_nil] at hv0
   go_wp2_with fail
   refine (want_keep a _ _ _ _ _ _ _ _ _ HS4.out).mono ?_
   rintro e w5 ⟨rfl,hS5,hg5⟩
   have HO3:=hide (own_keep HO1.out (by omega) hg5)
   have HO4:=hide (own_keep HO2.out (by omega) hg5)
   have HBD5:=hide (HBD.out.trans (below_grown hg5 (by omega) HS4.out.env.size))
   have hS5':St a w.heap.size (w.heap.size+1+1) w.heap.size _ w5 { q with fv:=fv,cv:=cv } (some []):=hS5
   have hz5:w5.heap[w.heap.size+1]?=some (.cells (pkCells zeroP) 36):=by
    rw [show w.heap.size+1=w.heap.size+1+1 - 1 by omega,hS5'.res]
    exact heap3 _ _ _ _
   obtain ⟨z0,z1,z2,z3,z4,z5,z6,z7,z8,z9,z10,z11,z12,z13,z14⟩:=zero_cells hz5
   obtain ⟨y0,y1,y2,y3,y4,y5,y6,y7,y8,y9,y10,y11,y12,y13,y14⟩:=zero_thawed hz5
   have HS5:=hide hS5'
   obtain ⟨_,v5,_,k1,_⟩:=hS5'.rd
   have p0:=hS5'.pk.c0;have p1:=hS5'.pk.c1;have p2:=hS5'.pk.c2;have p3:=hS5'.pk.c3;have p4:=hS5'.pk.c4;have p5:=hS5'.pk.c5;have p6:=hS5'.pk.c6;have p7:=hS5'.pk.c7;have p8:=hS5'.pk.c8;have p9:=hS5'.pk.c9;have p10:=hS5'.pk.c10;have p11:=hS5'.pk.c11;have p12:=hS5'.pk.c12;have p13:=hS5'.pk.c13;have p14:=hS5'.pk.c14
   simp only at p0 p1 p2 p3 p4 p5 p6 p7 p8 p9 p10 p11 p12 p13 p14
   obtain ⟨pf,nf,cf,rfl⟩:=own_slice HO1.out
   obtain ⟨pc,nc,cc,rfl⟩:=own_slice HO2.out
   clear hS5 hS5' hz5 hv0 hg5
   go_wp2_with fail
   refine bodyPost_ret (v:=.tuple #[.agg (pkCells { q with fv:=.slice pf nf cf,cv:=.slice pc nc cc }),.nilIface]) (by simp [results,Tryz.results87,go_sem,pkCells,z0,z1,z2,z3,z4,z5,z6,z7,z8,z9,z10,z11,z12,z13,z14]) rfl ?_
   have hgf:∀ w6,w5.grownBy w6 (some (w.heap.size+1))→BodyPost a w (some (q,fs,cs)) (.returned (.tuple #[.agg (pkCells { q with fv:=.slice pf nf cf,cv:=.slice pc nc cc }),.nilIface])) w6:=fun w6 hg =>
    ⟨HBD5.out.trans (below_grown hg (by omega) HS5.out.env.size),_,_,rfl,own_less (own_keep HO3.out (by omega) hg) (by omega),own_less (own_keep HO4.out (by omega) hg) (by omega)⟩
   refine hgf _ ?_
   repeat refine grown_trans ?_ (grown_set _ _ _ _)
   exact grown_refl _ _
 | some (x :: r) =>
   rw [if_neg (by simp [lenS])]
   go_enter Tryz.func87,Tryz.ntmps87
   go_wp2_with fail
   refine (packet_any a w.heap.size (w.heap.size+1+1) w.heap.size (w.heap.size+3) _ _ p (some l) hl (HST.out _ ?_).1 hfv hcv (by omega) (by omega) (by simp) hk1 hk2).mono ?_
   · rfl
   rintro e w4 ⟨rfl,hD⟩
   rw [HR.out] at hD
   obtain ⟨fv,cv,hS4,hO1,hO2⟩:=hD
   have hb3:=(HST.out _ rfl).2
   have hres:=hS4.res
   have hz:w4.heap[w.heap.size+1]?=some (.cells (pkCells zeroP) 36):=by
    rw [show w.heap.size+1=w.heap.size+1+1 - 1 by omega,hres]
    exact heap3 _ _ _ _
   have HBD:=hide (hb3.trans hS4.bel)
   have HS4:=hide hS4
   have HO1:=hide hO1
   have HO2:=hide hO2
   have HHZ:=hide hz
   obtain ⟨q0,cp0,hv0⟩:=rd_cell0 hS4.rd
   clear hz hres hb3 hS4 hO1 hO2
   simp only [lenS,List.length_cons] at hv0
   go_wp2_with fail
   refine (want_keep a _ _ _ _ _ _ _ _ _ HS4.out).mono ?_
   rintro e w5 ⟨rfl,hS5,hg5⟩
   have HBD5:=hide (HBD.out.trans (below_grown hg5 (by omega) HS4.out.env.size))
   have hS5':St a w.heap.size (w.heap.size+1+1) w.heap.size _ w5 { q with fv:=fv,cv:=cv } none:=hS5
   have hz5:w5.heap[w.heap.size+1]?=some (.cells (pkCells zeroP) 36):=by
    rw [show w.heap.size+1=w.heap.size+1+1 - 1 by omega,hS5'.res]
    exact heap3 _ _ _ _
   obtain ⟨z0,z1,z2,z3,z4,z5,z6,z7,z8,z9,z10,z11,z12,z13,z14⟩:=zero_cells hz5
   obtain ⟨y0,y1,y2,y3,y4,y5,y6,y7,y8,y9,y10,y11,y12,y13,y14⟩:=zero_thawed hz5
   have HS5:=hide hS5'
   obtain ⟨_,v5,k0,k1,_,_,m,hm⟩:=hS5'.rd
   have HM:=hide hm
   obtain ⟨wh5,c5,rfl,_⟩:=hm
   clear hS5 hS5' hz5 hv0 hg5
   go_wp2_with fail
   go_region
   go_wp2
   refine bodyPost_ret (v:=.tuple #[.agg (pkCells zeroP),.iface 171 (.agg #[.string wh5,c5])]) (by simp [results,Tryz.results87,go_sem,pkCells,zeroP,bs,z0,z1,z2,z3,z4,z5,z6,z7,z8,z9,z10,z11,z12,z13,z14]) rfl ?_
   have hgf:∀ w6,w5.grownBy w6 (some (w.heap.size+1))→BodyPost a w none (.returned (.tuple #[.agg (pkCells zeroP),.iface 171 (.agg #[.string wh5,c5])])) w6.drew:=fun w6 hg =>
    ⟨(HBD5.out.trans (below_grown hg (by omega) HS5.out.env.size)).drew,_,m,rfl,HM.out⟩
   refine hgf _ ?_
   repeat refine grown_trans ?_ (grown_set _ _ _ _)
   exact grown_refl _ _
 | none =>
   rw [if_neg (by simp)]
   go_enter Tryz.func87,Tryz.ntmps87
   go_wp2_with fail
   refine (packet_any a w.heap.size (w.heap.size+1+1) w.heap.size (w.heap.size+3) _ _ p (some l) hl (HST.out _ ?_).1 hfv hcv (by omega) (by omega) (by simp) hk1 hk2).mono ?_
   · rfl
   rintro e w4 ⟨rfl,hD⟩
   rw [HR.out] at hD
   obtain ⟨fv,cv,hS4,hO1,hO2⟩:=hD
   have hb3:=(HST.out _ rfl).2
   have hres:=hS4.res
   have hz:w4.heap[w.heap.size+1]?=some (.cells (pkCells zeroP) 36):=by
    rw [show w.heap.size+1=w.heap.size+1+1 - 1 by omega,hres]
    exact heap3 _ _ _ _
   have HBD:=hide (hb3.trans hS4.bel)
   have HS4:=hide hS4
   have HO1:=hide hO1
   have HO2:=hide hO2
   have HHZ:=hide hz
   obtain ⟨q0,cp0,hv0⟩:=rd_cell0 hS4.rd
   clear hz hres hb3 hS4 hO1 hO2
   simp only [lenS] at hv0
   go_wp2_with fail
   refine (want_keep a _ _ _ _ _ _ _ _ _ HS4.out).mono ?_
   rintro e w5 ⟨rfl,hS5,hg5⟩
   have HBD5:=hide (HBD.out.trans (below_grown hg5 (by omega) HS4.out.env.size))
   have hS5':St a w.heap.size (w.heap.size+1+1) w.heap.size _ w5 { q with fv:=fv,cv:=cv } none:=hS5
   have hz5:w5.heap[w.heap.size+1]?=some (.cells (pkCells zeroP) 36):=by
    rw [show w.heap.size+1=w.heap.size+1+1 - 1 by omega,hS5'.res]
    exact heap3 _ _ _ _
   obtain ⟨z0,z1,z2,z3,z4,z5,z6,z7,z8,z9,z10,z11,z12,z13,z14⟩:=zero_cells hz5
   obtain ⟨y0,y1,y2,y3,y4,y5,y6,y7,y8,y9,y10,y11,y12,y13,y14⟩:=zero_thawed hz5
   have HS5:=hide hS5'
   obtain ⟨_,v5,k0,k1,_,_,m,hm⟩:=hS5'.rd
   have HM:=hide hm
   obtain ⟨wh5,c5,rfl,_⟩:=hm
   clear hS5 hS5' hz5 hv0 hg5
   go_wp2_with fail
   go_region
   go_wp2
   refine bodyPost_ret (v:=.tuple #[.agg (pkCells zeroP),.iface 171 (.agg #[.string wh5,c5])]) (by simp [results,Tryz.results87,go_sem,pkCells,zeroP,bs,z0,z1,z2,z3,z4,z5,z6,z7,z8,z9,z10,z11,z12,z13,z14]) rfl ?_
   have hgf:∀ w6,w5.grownBy w6 (some (w.heap.size+1))→BodyPost a w none (.returned (.tuple #[.agg (pkCells zeroP),.iface 171 (.agg #[.string wh5,c5])])) w6.drew:=fun w6 hg =>
    ⟨(HBD5.out.trans (below_grown hg (by omega) HS5.out.env.size)).drew,_,m,rfl,HM.out⟩
   refine hgf _ ?_
   repeat refine grown_trans ?_ (grown_set _ _ _ _)
   exact grown_refl _ _
end rd
namespace rf
open Go.RowKit topPlain topWalks decPlain rd
def FilV (w:World) (v:Value) (fs:List (List UInt8×Int)):Prop:=∃ q cap,v=.slice q fs.length cap∧fs.length≤maxLen∧∀ (j:Nat) f,fs[j]?=some f→∃ g,q=some ⟨g,0,none⟩∧g < w.heap.size∧w.cell? ⟨g,j*2,none⟩=some (.string (bs f.1))∧w.cell? ⟨g,j*2+1,none⟩=some (.int .i64 f.2)
def IntV (w:World) (v:Value) (cs:List Int):Prop:=∃ q cap,v=.slice q cs.length cap∧cs.length≤maxLen∧∀ (j:Nat) c,cs[j]?=some c→∃ g,q=some ⟨g,0,none⟩∧g < w.heap.size∧w.cell? ⟨g,j,none⟩=some (.int .i64 c)
end rf
end Go.Proofs.YtnmfmoimjkoieaaGreatDoor
