import Derived.Test.YtnmfmoimjkoieaaGreatDoorF30
import Derived.Test.YtnmfmoimjkoieaaGreatDoorF35
import Derived.Test.YtnmfmoimjkoieaaGreatDoorF26
namespace Go.Proofs.YtnmfmoimjkoieaaGreatDoor
namespace br
open Go.RowKit topPlain topWalks decPlain Go.Maps
structure CnOld (w:World) (B:Nat) (n:Int) (d:List UInt8) (ds:Uw→List UInt8) (p:Pkt) (m:Nat) (D:DataW Unit) (BV:BrV) (ov:Value) (L:List (OutS×Value)) (CV:ConV) (C:Con) (sb:Nat) (V:SesV) (S:Ses) (w':World) (CV':ConV) (x y:Nat) (uv':Value):Prop where
 out:Wrote (fun g=>g=CV.cb∨V.has sb g) w B BV ov L (⟨n,d,false⟩ :: S.under.map fun u=>⟨n,ds u,false⟩) w'
 ses:SesAt w' sb { V with snd:=some (x,y),uv:=uv' } S
 uvb:uv'.ownBlock=V.uv.ownBlock∨∃ b,uv'.ownBlock=some b∧w.heap.size≤b
 con:ConAt w' B n CV' { C with hello:=some p }
 cb:CV'.cb=CV.cb
 wv:CV'.wv=CV.wv
 sp:CV'.sp=sb
 bx:w.heap.size≤CV'.x∧w.heap.size≤CV'.y∧w.heap.size≤CV'.x'∧w.heap.size≤CV'.y'
 map:w'.ownsMap Tryz.prog 9 ptrElem BV.mb m D
 snk:Sink w' B CV.cb x y n
set_option maxHeartbeats 1600000 in
set_option maxRecDepth 100000 in
theorem cn_tail2 {N0:Nat} (B x y pb m sb:Nat) (n:Int) (p:Pkt) (f1:Option Addr) (f2 f3:Nat) (c1:Option Addr) (c2 c3:Nat) (d:List UInt8) (ds:Uw→List UInt8) (D:DataW Unit) (BV:BrV) (ov:Value) (L:List (OutS×Value)) (CV:ConV) (C:Con) (V:SesV) (S:Ses) (w:World) (R:Ending→World→Prop) (hE:EncOK N0 w (ackS true 0) d) (hEs:∀ u,u∈S.under→EncOK N0 w (againS u) (ds u)) (hV:∀ b,V.has sb b→N0≤b) (hO:∀ b,OutHas B ov b→N0≤b) (hb:Boxes w B CV.cb x y) (h:BlkAt w B BV ov L) (hc:ConAt w B n CV C) (hC:C.hello=none) (hp:w.heap[pb]?=some (.cells (pkK { p with fv:=.slice f1 f2 f3,cv:=.slice c1 c2 c3 }) 36))
 (hM:w.ownsMap Tryz.prog 9 ptrElem BV.mb m D) (hD:D.atKey (.string p.client) .nil=.lit (.int .i64 (sb:Int))) (hH:Maps.has D (.string p.client)=true) (hcl:p.client.length≤1000) (hs:SesAt w sb V S) (hkm:V.kb≠BV.mb) (hL:L.length+1+S.under.length < 1000000000000) (hr:∀ u,u∈S.under→u.rel=false) (hgo:goM true S=none) (h0:0≤S.last) (hl:S.under.length < 65000) (hN0:N0≤CV.cb)
 (hR:∀ (w':World) (CV':ConV) (uv':Value),CnOld w B n d ds { p with fv:=.slice f1 f2 f3,cv:=.slice c1 c2 c3 } m D BV ov L CV C sb V S w' CV' x y uv'→R (.returned (.tuple #[])) w')
 (u0 u1 u2 u6 u7 u8 u9 u10 u11 u12 u13 u14 u15 u16 u17 u18 u19 u20 u21 u22 u23 u24 u25 u26 u27 u28 u29 u30 u31 u32 u33 u34 u35 u36 u37 u38 u39 u40 u41 u42 u43 u44 u45 u46 u47 u48 u49 u50 u51 u52 u53 u54 u55 u56 u57 u58 u59 u60 u61 u62 u63 u64 u65 u66 u67 u68 u69 u70 u71 u72 u73 u74 u75 u76 u77 u78 u79 u80 u81 u82 u83 u84 u85 u86 u87 u88 u89 u90 u91 u92 u93 u94 u95 u96:Value) :
 Code.wp Tryz.prog (dropS 5 (Tryz.f90.body.getD .skip)) (bodyPost Tryz.prog Tryz.f90 R) ⟨#[u0,u1,u2,.pointer (some ⟨x,0,none⟩),.pointer (some ⟨y,0,none⟩),.pointer (some ⟨pb,0,none⟩),u6,u7,u8,u9,u10,u11,u12,u13,u14,u15,u16,u17,u18,u19,u20,u21,u22,u23,u24,u25,u26,u27,u28,u29,u30,u31,u32,u33,u34,u35,u36,u37,u38,u39,u40,u41,u42,u43,u44,u45,u46,u47,u48,u49,u50,u51,u52,u53,u54,u55,u56,u57,u58,u59,u60,u61,u62,u63,u64,u65,u66,u67,u68,u69,u70,u71,u72,u73,u74,u75,u76,u77,u78,u79,u80,u81,u82,u83,u84,u85,u86,u87,u88,u89,u90,u91,u92,u93,u94,u95,u96],[]⟩ w:=by
 obtain ⟨es,cl,hmb⟩:=map_blk hM
 have hlm:=blk_lt hmb
 have hlc:=blk_lt hc.blk
 refine cn_old B CV.cb x y pb m sb p.client D BV ov L w R hb h (blk_cell hp rfl) hM hD hH hcl ?_ _ _ _ _ _ _ _ _ _ _ _ _ _ _ _ _ _ _ _ _ _ _ _ _ _ _ _ _ _ _ _ _ _ _ _ _ _ _ _ _ _ _ _ _ _ _ _ _ _ _ _ _ _ _ _ _ _ _ _ _ _ _ _ _ _ _ _ _ _ _ _ _ _ _ _ _ _ _ _ _ _ _ _ _ _ _ _ _ _ _ _ _ _ _
 intro w1 _ _ _ _ _ _ _ _ _ _ _ _ _ _ _ _ _ _ _ _ _ _ _ _ _ _ _ _ _ _ _ _ _ _ _ _ _ _ _ _ _ _ _ _ _ _ _ _ _ _ _ _ _ _ _ _ _ _ _ _ _ _ _ _ _ _ _ _ _ _ _ _ _ _ _ _ _ _ _ _ _ _ _ _ _ _ _ _ _ _ _ _ hb1
 have hx1:Boxes w1 B CV.cb x y:=hb.below hb1
 have hc1:=(hc.below hb1).blk
 have hp1:=(hb1.block _ (blk_lt hp)).trans hp
 have hpc:pb≠CV.cb:=fun e=>by rw [e,hc.blk] at hp;simp at hp
 refine cn_set B CV.cb sb x y pb n true p f1 f2 f3 c1 c2 c3 CV C w1 R hx1 hc1 ⟨blk_cell hp1 rfl,blk_cell hp1 rfl,blk_cell hp1 rfl,blk_cell hp1 rfl,blk_cell hp1 rfl,blk_cell hp1 rfl,blk_cell hp1 rfl,blk_cell hp1 rfl,blk_cell hp1 rfl,blk_cell hp1 rfl,blk_cell hp1 rfl,blk_cell hp1 rfl,blk_cell hp1 rfl,blk_cell hp1 rfl,blk_cell hp1 rfl⟩ hpc ?_ _ _ _ _ _ _ _ _ _ _ _ _ _ _ _ _ _ _ _ _ _ _ _ _ _ _ _ _ _ _ _ _ _ _ _ _ _ _ _ _ _ _ _ _ _ _ _ _ _ _ _ _ _ _ _ _ _ _ _ _ _ _ _ _ _ _ _ _ _ _ _ _ _ _ _ _ _ _ _ _ _ _ _ _ _ _ _ _ _ _ _ _
 intro w2 a b a' b' _ _ _ _ _ _ _ _ _ _ _ _ _ _ _ _ _ _ _ _ _ _ _ _ _ _ _ _ _ _ _ _ _ _ _ _ _ _ _ _ _ _ _ _ _ _ _ _ _ _ _ _ _ _ _ _ _ _ _ _ _ _ _ _ _ _ _ _ _ _ _ _ _ _ _ _ _ _ _ _ _ _ _ _ _ _ _ _ _ _ _ _ _ hb2 hc2 k1 k2 l1 l2 l3 l4
 rw [conSet_eq n CV C hC] at hc2
 have hsz1:=hb1.size
 have hsz2:=hb2.size
 have hb12:But (fun g=>g=CV.cb) w w2:=(But.of_below hb1).trans hb2 (fun _ _ e=>e)
 have hdat:∀ g,g=CV.cb→¬ OutHas B ov g∧∀ o,o∈L→o.2.ownBlock≠some g:=by
  rintro g rfl
  exact h.not hc.blk (by decide)
 have h2:BlkAt w2 B BV ov L:=h.but hb12 hdat
 have hs2:SesAt w2 sb V S:=hs.but hb12 (fun g hg e=>by subst e;exact hs.not hc.blk (by decide) hg)
 have hE2:EncOK N0 w2 (ackS true 0) d:=hE.but hb12 (by rintro g rfl;exact hN0)
 have hEs2:∀ u,u∈S.under→EncOK N0 w2 (againS u) (ds u):=fun u hu=>(hEs u hu).but hb12 (by rintro g rfl;exact hN0)
 have hx2:Boxes w2 B CV.cb x y:=hx1.keep (hb2.keep _ (blk_lt hx1.bx) (fun e=>by have:=hx1.bx;rw [e,hc1] at this;simp at this)) (hb2.keep _ (blk_lt hx1.by_) (fun e=>by have:=hx1.by_;rw [e,hc1] at this;simp at this))
 have hS2:Sink w2 B CV.cb x y n:=⟨hx2.bx,hx2.by_,⟨_,hc2,(conC_at n _ _).1⟩⟩
 refine cn_end2 (N0:=N0) B CV.cb sb x y n true d ds V S BV ov L w2 R hE2 hEs2 hV hO hs2 h2 hS2 hL hr hgo h0 hl ?_ _ _ _ _ _ _ _ _ _ _ _ _ _ _ _ _ _ _ _ _ _ _ _ _ _ _ _ _ _ _ _ _ _ _ _ _ _ _ _ _ _ _ _ _ _ _ _ _ _ _ _ _ _ _ _ _ _ _ _ _ _ _ _ _ _ _ _ _ _ _ _ _ _ _ _ _ _ _ _ _ _ _ _ _ _ _ _ _ _ _ _ _ _
 intro w3 uv' hw3 hs3 hu3
 obtain ⟨ov',M,q1,q2,q3,q4,q5⟩:=hw3
 have keepC:∀ {g:Nat} {c:Array Value} {t:TypeId},w2.heap[g]?=some (.cells c t)→(t≠188∧t≠95∧t≠252)→(t≠131∧t≠66∧t≠5)→w3.heap[g]?=some (.cells c t):=fun hg n1 n2=>q3.blk (fun f=>f.elim (hs2.not hg n1) (h2.not hg n2).1) hg
 refine hR w3 ⟨CV.cb,CV.wv,a,b,a',b',sb⟩ uv' ⟨⟨ov',M,q1,q2,?_,q4.imp id (fun ⟨g,e1,e2⟩=>⟨g,e1,by omega⟩),fun o ho g hg=>by have:=q5 o ho g hg;omega⟩,hs3,hu3.imp id (fun ⟨g,e1,e2⟩=>⟨g,e1,by omega⟩),⟨keepC hc2 (by decide) (by decide),?_,⟨keepC k1.bx (by decide) (by decide),keepC k1.by_ (by decide) (by decide)⟩,⟨keepC k2.bx (by decide) (by decide),keepC k2.by_ (by decide) (by decide)⟩⟩,rfl,rfl,rfl,⟨by simp only;omega,by simp only;omega,by simp only;omega,by simp only;omega⟩,?_,⟨keepC hx2.bx (by decide) (by decide),keepC hx2.by_ (by decide) (by decide),⟨_,keepC hc2 (by decide) (by decide),(conC_at n _ _).1⟩⟩⟩
 · exact (hb12.wide (fun _ _ f=>Or.inl (Or.inl f))).trans q3 (fun g hg f=>f.elim (fun f=>Or.inl (Or.inr f)) Or.inr)
 · exact own_keep hc.wai (fun g hg=>by
    obtain ⟨cur,hcur⟩:=own_blk hc.wai hg
    have e2:=hb12.blk (fun f=>by subst f;have:=hc.blk;rw [hcur] at this;simp at this) hcur
    have e3:w3.heap[g]?=some _:=q3.blk (fun f=>f.elim (hs2.not e2 (by decide)) (fun f=>by
     rcases f with rfl | f
     · have:=h2.blk;rw [e2] at this;simp at this
     · obtain ⟨cur2,hcur2⟩:=own_blk h2.out.row f;rw [e2] at hcur2;simp at hcur2)) e2
    rw [e3,hcur])
 · have e2:w2.heap[BV.mb]?=some (.map es cl):=hb12.blk (fun e=>by have:=hc.blk;rw [← e,hmb] at this;simp at this) hmb
   have e3:w3.heap[BV.mb]?=some (.map es cl):=q3.blk (fun f=>f.elim (hs2.notMap e2 (fun e=>hkm e.symm)) (fun f=>by
    rcases f with f | f
    · have:=h2.blk;rw [← f,e2] at this;simp at this
    · obtain ⟨cur2,hcur2⟩:=own_blk h2.out.row f;rw [e2] at hcur2;simp at hcur2)) e2
   exact map_keep hM (e3.trans hmb.symm)
set_option maxHeartbeats 3200000 in
set_option maxRecDepth 100000 in
theorem conn_again {N0:Nat} (B m sb:Nat) (n:Int) (p:Pkt) (f1:Option Addr) (f2 f3:Nat) (c1:Option Addr) (c2 c3:Nat) (d:List UInt8) (ds:Uw→List UInt8) (D:DataW Unit) (BV:BrV) (ov:Value) (L:List (OutS×Value)) (CV:ConV) (C:Con) (V:SesV) (S:Ses) (cs:Nat→Option (ConV×Con)) (w:World) (hE:EncOK N0 w (ackS true 0) d) (hEs:∀ u,u∈S.under→EncOK N0 w (againS u) (ds u)) (hV:∀ b,V.has sb b→N0≤b) (hO:∀ b,OutHas B ov b→N0≤b) (hs:SesAt w sb V S) (hkm:V.kb≠BV.mb) (hr:∀ u,u∈S.under→u.rel=false) (hgo:goM true S=none) (h0:0≤S.last) (hul:S.under.length < 65000) (h:BlkAt w B BV ov L) (hc:ConAt w B n CV C) (hC:C.hello=none)
 (hcs:∀ k,k < 8→ConO w B BV k (cs k)) (hn:∀ k,k < 8→notFor p.client (cs k)) (hne:p.client≠[]) (hcn:p.clean=false)
 (hM:w.ownsMap Tryz.prog 9 ptrElem BV.mb m D) (hD:D.atKey (.string p.client) .nil=.lit (.int .i64 (sb:Int))) (hH:Maps.has D (.string p.client)=true) (hcl:p.client.length≤1000) (hL:L.length+1+S.under.length < 1000000000000) (hN0:N0≤CV.cb) :
 Calls Tryz.prog 90 #[.pointer (some ⟨B,0,none⟩),.pointer (some ⟨CV.cb,0,none⟩),.agg (pkK { p with fv:=.slice f1 f2 f3,cv:=.slice c1 c2 c3 })] w fun e w'=>e=.returned (.tuple #[])∧∃ w0 CV' x y uv',Below w.heap.size w w0∧w.heap.size≤x∧w.heap.size≤y∧CnOld w0 B n d ds { p with fv:=.slice f1 f2 f3,cv:=.slice c1 c2 c3 } m D BV ov L CV C sb V S w' CV' x y uv':=by
 have hE3:=hide fun W (hb:Below w.heap.size w W)=>hE.below hb
 have hEs3:=hide fun W (hb:Below w.heap.size w W) u hu=>(hEs u hu).below hb
 have hs3:=hide fun W (hb:Below w.heap.size w W)=>hs.below hb
 have h3:=hide fun W (hb:Below w.heap.size w W)=>h.below hb
 have hc3:=hide fun W (hb:Below w.heap.size w W)=>hc.below hb
 have hM3:=hide fun W (hb:Below w.heap.size w W)=>(show W.ownsMap Tryz.prog 9 ptrElem BV.mb m D by obtain ⟨es,cl,k1,k2⟩:=hM;exact ⟨es,cl,(hb.block _ (blk_lt k1)).trans k1,k2⟩)
 have hcs3:=hide fun W (hb:Below w.heap.size w W) k hk=>(show ConO W B BV k (cs k) by
  have:=hcs k hk
  cases hck:cs k with
  | none=>rw [hck] at this;exact this
  | some cv=>rw [hck] at this;obtain ⟨a,b⟩:=cv;exact ⟨this.1,this.2.below hb⟩)
 have hlk:∀ W:World,W.ownsMap Tryz.prog 9 ptrElem BV.mb m D→(Instr.lookup 126 (.map (some BV.mb)) (.string (bs p.client)) false).run Tryz.prog W=.ok (.pointer (some ⟨sb,0,none⟩)) W:=fun W hW=>by
  obtain ⟨v,ps,hrun,hv⟩:=hW.lookup (t:=126) (e:=135) keyStr Tryz.underlying126 (zeroPtr _) (zd:=.nil) (zp:=[]) rfl (key_bs p.client hcl)
  rw [hD] at hv
  obtain rfl:=ptr_lit hv
  exact hrun
 have hlB:=blk_lt h.blk
 have hem:((bs p.client).toList == [])=false:=by
  rw [ByteArray.toList_eq,data_bs];simpa using hne
 have hem2:¬ ((bs p.client).toList = []):=by
  rw [ByteArray.toList_eq,data_bs];exact hne
 have HN:=hide hn
 have HP:Hid (pkK { p with fv:=.slice f1 f2 f3,cv:=.slice c1 c2 c3 }=#[.int .i64 p.kind,.bool p.clean,.bool p.will,.int .i64 p.keep,.string (bs p.client),.bool p.present,.int .i64 p.code,.bool p.dup,.int .i64 p.qos,.bool p.retain,.string (bs p.topic),.string (bs p.payload),.int .i64 p.id,.slice f1 f2 f3,.slice c1 c2 c3]):=rfl
 have HCN:=hide hcn
 have HVV:=hide hV
 have HOO:=hide hO
 have HRR:=hide hr
 have HGG:=hide hgo
 clear hE hEs hs h hc hM hcs hn hne hcn hV hO hr hgo
 simp only [pkK]
 go_enter Tryz.func90,Tryz.ntmps90
 refine wp_seq_k fun K0 aK0=>?_
 have HK0:=hide aK0
 clear aK0
 go_wp2_with fail
 refine HK0.out _ _ ?_
 clear HK0 K0
 obtain ⟨W3,hW3⟩:∃ W3,W3=((w.alloc (.cells #[.pointer (some ⟨B,0,none⟩)] 55)).alloc (.cells #[.pointer (some ⟨CV.cb,0,none⟩)] 124)).alloc (.cells #[.int .i64 p.kind,.bool p.clean,.bool p.will,.int .i64 p.keep,.string (bs p.client),.bool p.present,.int .i64 p.code,.bool p.dup,.int .i64 p.qos,.bool p.retain,.string (bs p.topic),.string (bs p.payload),.int .i64 p.id,.slice f1 f2 f3,.slice c1 c2 c3] 36):=⟨_,rfl⟩
 rw [← hW3]
 obtain ⟨g1,g2,g3,g4⟩:=cn_three w B CV.cb _ W3 hW3
 clear hW3
 have cx:W3.cell? ⟨w.heap.size,0,none⟩=some (.pointer (some ⟨B,0,none⟩)):=blk_cell g1.bx rfl
 have p1:W3.cell? ⟨w.heap.size+1+1,1,none⟩=some (.bool p.clean):=blk_cell g2 rfl
 rw [HCN.out] at p1
 have p4:W3.cell? ⟨w.heap.size+1+1,4,none⟩=some (.string (bs p.client)):=blk_cell g2 rfl
 have b10:W3.cell? ⟨B,10,none⟩=some (.map (some BV.mb)):=blk_cell (h3.out _ g3).blk rfl
 have hMW:=hM3.out _ g3
 have hMd:W3.drew.ownsMap Tryz.prog 9 ptrElem BV.mb m D:=by obtain ⟨es,cl,k1,k2⟩:=hMW;exact ⟨es,cl,k1,k2⟩
 have G1:=hide g1
 have G2:=hide g2
 have G3:=hide g3
 clear g1 g2 g3
 refine wp_seq_k fun K1 aK1=>?_
 have HK1:=hide aK1
 clear aK1
 go_wp2_with fail
 refine HK1.out _ _ ?_
 clear HK1 K1
 refine wp_seq_k fun K2 aK2=>?_
 have HK2:=hide aK2
 clear aK2
 refine wp_seq_k fun K3 aK3=>?_
 have HK3:=hide aK3
 clear aK3
 have hnil:∀ W:World,(binOp .eql 135 (.pointer (some ⟨sb,0,none⟩)) (.pointer none)).run Tryz.prog W=.ok (.bool false) W:=fun W=>by kernel_rfl
 go_region
 go_wp2_with fail
 refine HK3.out _ _ ?_
 clear HK3 K3
 go_wp2_with fail
 refine HK2.out _ _ ?_
 clear HK2 K2 hlk hMd
 refine wp_seq_k fun K2 aK2=>?_
 have HK2:=hide aK2
 clear aK2
 go_wp2_with fail
 have hB3d:Below w.heap.size w W3.drew:=G3.out.drew
 refine (conFor_none B BV ov L cs p.client W3.drew (h3.out _ hB3d) (fun k hk=>hcs3.out _ hB3d k hk) HN.out).mono ?_
 rintro e w4 ⟨rfl,hB4⟩
 have hB34:Below W3.heap.size W3 w4:=(Below.refl W3.heap.size W3).drew.trans hB4
 have hBw4:=G3.out.trans (hB34.mono G3.out.size)
 have p1':w4.cell? ⟨w.heap.size+1+1,1,none⟩=some (.bool false):=by rw [hB34.cell g4];exact p1
 have HB4:=hide hBw4
 have HX4:=hide (G1.out.below hB34)
 have HP4:=hide ((hB34.block _ g4).trans G2.out)
 clear hB4 hB34 hBw4 hB3d p1 p4 b10 cx hMW
 go_wp2_with fail
 refine HK2.out _ _ ?_
 clear HK2 K2
 refine wp_seq_k fun K2 aK2=>?_
 have HK2:=hide aK2
 clear aK2
 go_wp2_with fail
 refine HK2.out _ _ ?_
 clear HK2 K2
 refine cn_tail2 (N0:=N0) B w.heap.size (w.heap.size+1) (w.heap.size+1+1) m sb n p f1 f2 f3 c1 c2 c3 d ds D BV ov L CV C V S w4 _ (hE3.out _ HB4.out) (fun u hu=>hEs3.out _ HB4.out u hu) HVV.out HOO.out HX4.out (h3.out _ HB4.out) (hc3.out _ HB4.out) hC (by rw [HP.out,HP4.out]) (hM3.out _ HB4.out) hD hH hcl (hs3.out _ HB4.out) hkm hL HRR.out HGG.out h0 hul hN0 ?_ _ _ _ _ _ _ _ _ _ _ _ _ _ _ _ _ _ _ _ _ _ _ _ _ _ _ _ _ _ _ _ _ _ _ _ _ _ _ _ _ _ _ _ _ _ _ _ _ _ _ _ _ _ _ _ _ _ _ _ _ _ _ _ _ _ _ _ _ _ _ _ _ _ _ _ _ _ _ _ _ _ _ _ _ _ _ _ _ _ _ _ _ _ _
 intro w' CV' uv' hpost
 exact ⟨rfl,w4,CV',w.heap.size,w.heap.size+1,uv',HB4.out,Nat.le_refl _,by omega,hpost⟩
end br
namespace br
open Go.RowKit topPlain topWalks decPlain rd ew encPlain rf
def SideA (B k m sb:Nat) (p:Pkt) (D:DataW Unit) (BV:BrV) (CV:ConV) (V:SesV) (S:Ses) (w w':World):Prop:=
 ∃ X fv cv,Side w' B k X { p with fv:=fv,cv:=cv } S∧X.cv.cb=CV.cb∧X.cv.sp=sb∧X.sv.kb=V.kb∧(∀ g,X.has g→g=CV.cb∨V.has sb g∨w.heap.size≤g)∧w'.ownsMap Tryz.prog 9 ptrElem BV.mb m D∧But (fun g=>g=B∨g=CV.cb∨V.has sb g) w w'
def FdA (B k m sb:Nat) (p:Pkt) (d:List UInt8) (D:DataW Unit) (BV:BrV) (CV:ConV) (V:SesV) (S:Ses) (w w':World) (ov:Value) (L:List (OutS×Value)):Prop:=
 L.map Prod.fst=⟨(k:Int),d,false⟩ :: S.under.map (fun u=>⟨(k:Int),encD (againS u) [] [],false⟩)∧OutsAt w' ov L∧BlkAt w' B BV (.slice none 0 0) []∧SideA B k m sb p D BV CV V S w w'
theorem feed_again {N0:Nat} {ash aw:Addr} (B k m sb:Nat) (p:Pkt) (l d:List UInt8) (D:DataW Unit) (BV:BrV) (CV:ConV) (V:SesV) (S:Ses) (cs:Nat→Option (ConV×Con)) (db dc:Nat) (w:World) (hG:Gd N0 ash aw w) (h:BlkAt w B BV (.slice none 0 0) []) (hc:ConAt w B (k:Int) CV ⟨[],0,none⟩) (hWv:∃ q,CV.wv=.slice q 0 0) (hk:k < 8) (hv:BV.cv k=.pointer (some ⟨CV.cb,0,none⟩)) (hclk:BV.clk=0) (hl0:0 < l.length) (hl:l.length≤1000000)
 (hd:∀ j x,l[j]?=some x→w.cell? ⟨db,0+j,none⟩=some (.int .u8 (x.toNat:Int))) (hdec:decL l=.inr ((p,[],[]),l.length)) (hkind:p.kind=1) (hN0:∀ g,CV.has g→N0≤g) (hNm:N0≤BV.mb) (hNB:N0≤B)
 (hcs:∀ j,j < 8→j≠k→ConO w B BV j (cs j)∧∀ CVj Cj,cs j=some (CVj,Cj)→¬ CVj.has CV.cb) (hn:∀ j,j < 8→j≠k→notFor p.client (cs j)) (hne:p.client≠[])
 (hM:w.ownsMap Tryz.prog 9 ptrElem BV.mb m D) (hD:D.atKey (.string p.client) .nil=.lit (.int .i64 (sb:Int))) (hH:Maps.has D (.string p.client)=true) (hcl:p.client.length≤1000) (hcn:p.clean=false) (hs:SesAt w sb V S) (hs0:∀ g,V.has sb g→N0≤g) (hkm:V.kb≠BV.mb) (hr:∀ u,u∈S.under→u.rel=false) (hgo:goM true S=none) (h0:0≤S.last) (hul:S.under.length < 65000) (hdd:encD (ackS true 0) [] []=d) :
 Calls Tryz.prog 24 #[.pointer (some ⟨B,0,none⟩),.int .i64 (k:Int),.slice (some ⟨db,0,none⟩) l.length dc] w fun e w'=>∃ ov L,e=.returned (.tuple #[ov,.int .i64 0])∧FdA B k m sb p d D BV CV V S w w' ov L:=by
 obtain ⟨HP,hHP⟩:∃ HP:World→World→Prop,HP=fun w1 w2=>∃ w0 CV' x y uv' f1 f2 f3 c1 c2 c3,Below w1.heap.size w1 w0∧w1.heap.size≤x∧w1.heap.size≤y∧CnOld w0 B (k:Int) d (fun u=>encD (againS u) [] []) { p with fv:=.slice f1 f2 f3,cv:=.slice c1 c2 c3 } m D BV (.slice none 0 0) [] CV ⟨[],0,none⟩ sb V S w2 CV' x y uv':=⟨_,rfl⟩
 have hcb0:N0≤CV.cb:=hN0 _ (Or.inl rfl)
 have gd1:∀ w' w1 fv cv,Below w.heap.size w w'→ReadPre w' B k BV CV ⟨[],0,none⟩ [] [] w1 fv cv→Gd N0 ash aw w1:=fun w' w1 fv cv hb hpre=>by
  have hG':Gd N0 ash aw w':=hG.below (hb.mono hG.env.size)
  exact hG'.below (hpre.but.below (fun b e=>by subst e;exact hcb0) hG'.env.size)
 have hread:∀ w',Below w.heap.size w w'→Calls Tryz.prog 59 #[.pointer (some ⟨B,0,none⟩),.pointer (some ⟨CV.cb,0,none⟩),.slice (some ⟨db,0,none⟩) l.length dc] w' (ReadPost w' B k BV CV ⟨[],0,none⟩ [] [] HP):=by
  intro w' hb
  refine read_conn (N0:=N0) (ash:=ash) (aw:=aw) B k BV CV ⟨[],0,none⟩ p [] [] l db 0 dc w' HP (hG.below (hb.mono hG.env.size)) (h.below hb) (hc.below hb) rfl hWv rfl hk hv hl0 hl (fun j x hx=>by have:=hd j x hx;rw [hb.cell (cell_blt this)];exact this) hdec hkind hN0 ?_ ?_
  · intro w1 fv cv hpre
    have hG1:=gd1 w' w1 fv cv hb hpre
    obtain ⟨f1,f3,rfl⟩:=own_form hpre.fil
    obtain ⟨c1,c3,rfl⟩:=own_form hpre.cod
    have hcon:ConAt w1 B (k:Int) CV ⟨[],0,none⟩:=by have:=hpre.con;rw [hclk] at this;exact this
    refine h_conn B CV.cb CV.x' CV.y' { p with fv:=.slice f1 ([]:List (List UInt8×Int)).length f3,cv:=.slice c1 ([]:List Int).length c3 } w1 _ hcon.b2 ⟨_,_,_,rfl⟩ ⟨_,_,_,rfl⟩ ?_
    intro w1' hb1
    have hG1':Gd N0 ash aw w1':=hG1.below (hb1.mono hG1.env.size)
    have hE:EncOK N0 w1' (ackS true 0) d:=by rw [← hdd];exact hG1'.enc _ rfl rfl
    have hcsw:∀ j,j < 8→ConO w1' B BV j ((fun j=>if j=k then some (CV,(⟨[],0,none⟩:Con)) else cs j) j):=by
     intro j hj
     show ConO w1' B BV j (if j=k then some (CV,(⟨[],0,none⟩:Con)) else cs j)
     by_cases hjk:j=k
     · subst hjk;rw [if_pos rfl];exact ⟨hv,hcon.below hb1⟩
     · rw [if_neg hjk]
       obtain ⟨h1,h2⟩:=hcs j hj hjk
       have s1:ConO w' B BV j (cs j):=h1.but (But.of_below (F:=fun _=>False) hb) (fun _ _ _ _ _ f=>f)
       have s2:ConO w1 B BV j (cs j):=s1.but hpre.but (fun CVj Cj e b hb' f=>by subst f;exact h2 CVj Cj e hb')
       exact s2.but (But.of_below (F:=fun _=>False) hb1) (fun _ _ _ _ _ f=>f)
    have hnw:∀ j,j < 8→notFor p.client ((fun j=>if j=k then some (CV,(⟨[],0,none⟩:Con)) else cs j) j):=by
     intro j hj
     show notFor p.client (if j=k then some (CV,(⟨[],0,none⟩:Con)) else cs j)
     by_cases hjk:j=k
     · rw [if_pos hjk];intro q hq;cases hq
     · rw [if_neg hjk];exact hn j hj hjk
    have hMw:w1'.ownsMap Tryz.prog 9 ptrElem BV.mb m D:=by
     obtain ⟨es,cl,hmb⟩:=map_blk hM
     have hmb':=(hb.block _ (blk_lt hmb)).trans hmb
     have e2:w1.heap[BV.mb]?=w'.heap[BV.mb]?:=hpre.but.keep _ (blk_lt hmb') (fun e=>by have:=(hc.below hb).blk;rw [← e,hmb'] at this;simp at this)
     exact map_keep (map_keep (map_keep hM (hb.block _ (blk_lt hmb))) e2) (hb1.block _ (blk_lt (e2.trans hmb')))
    have hsw:SesAt w1' sb V S:=((hs.below hb).but hpre.but (fun g hg e=>by subst e;exact (hs.below hb).not (hc.below hb).blk (by decide) hg)).below hb1
    refine (conn_again (N0:=N0) B m sb (k:Int) p f1 _ f3 c1 _ c3 d (fun u=>encD (againS u) [] []) D BV (.slice none 0 0) [] CV ⟨[],0,none⟩ V S (fun j=>if j=k then some (CV,(⟨[],0,none⟩:Con)) else cs j) w1' hE (fun u hu=>hG1'.enc _ (by unfold againS;split<;>rfl) (by unfold againS;split<;>rfl)) hs0 (fun b hb'=>by
     rcases hb' with rfl | hb'
     · exact hNB
     · cases hb') hsw hkm hr hgo h0 hul (hpre.blk.below hb1) (hcon.below hb1) rfl hcsw hnw hne hcn hMw hD hH hcl (by simp;omega) hcb0).mono ?_
    rintro e w2 ⟨rfl,w0,CV',x,y,uv',hb0,hx,hy,hpost⟩
    refine ⟨rfl,rfl,?_⟩
    rw [hHP]
    exact ⟨w0,CV',x,y,uv',f1,_,f3,c1,_,c3,hb1.trans (hb0.mono hb1.size),Nat.le_trans hb1.size hx,Nat.le_trans hb1.size hy,hpost⟩
  · intro w1 w2 fv cv hpre hHp
    rw [hHP] at hHp
    obtain ⟨w0,CV',x,y,uv',f1,f2,f3,c1,c2,c3,hb0,hx,hy,hpost⟩:=hHp
    obtain ⟨ov',M,k1,k2,k3,k4,k5⟩:=hpost.out
    have hG1:=gd1 w' w1 fv cv hb hpre
    have hG0:Gd N0 ash aw w0:=hG1.below (hb0.mono hG1.env.size)
    refine ⟨hG0.below (k3.below (fun b e=>?_) hG0.env.size),Nat.le_trans hb0.size k3.size,⟨BV,ov',k1.blk,hv⟩,CV',_,by rw [← hpost.cb];exact hpost.con.blk⟩
    rcases e with (rfl | e) | rfl | e
    · exact hcb0
    · exact hs0 b e
    · exact hNB
    · cases e
 refine (feed_any B k CV.cb (some ⟨db,0,none⟩) l.length dc BV _ w (fun w' w''=>ReadPost w' B k BV CV ⟨[],0,none⟩ [] [] HP (.returned (.tuple #[])) w'') (fun w' w'' BV' ov' L'=>BV'=BV∧L'.map Prod.fst=⟨(k:Int),d,false⟩ :: S.under.map (fun u=>⟨(k:Int),encD (againS u) [] [],false⟩)∧SideA B k m sb p D BV CV V S w' w'') h.blk hk hv ?_ ?_).mono ?_
 · intro w' hb
   refine (hread w' hb).mono ?_
   rintro e w'' ⟨rfl,hR⟩
   exact ⟨rfl,rfl,hR⟩
 · rintro w' w'' hb ⟨_,w1,fv,cv,w2,w3,v,hpre,hHp,hb3,hv3,⟨qv,rfl⟩,rfl⟩
   rw [hHP] at hHp
   obtain ⟨w0,CV',x,y,uv',f1,f2,f3,c1,c2,c3,hb0,hx,hy,hpost⟩:=hHp
   obtain ⟨ov',M,k1,k2,k3,k4,k5⟩:=hpost.out
   rw [List.nil_append] at k1
   have s1:=hpre.but.size
   have s0:=hb0.size
   have s2:=k3.size
   have hcb3:w3.heap[CV.cb]?=some (.cells (conC (k:Int) CV' ⟨[],0,some { p with fv:=.slice f1 f2 f3,cv:=.slice c1 c2 c3 }⟩) 137):=by rw [← hpost.cb];exact (hpost.con.below hb3).blk
   have hset:But (fun g=>g=CV.cb) w3 (w3.setCell ⟨CV.cb,1,none⟩ (.slice qv 0 0)):=But.set _ _ _ rfl
   have hB3:BlkAt w3 B BV ov' M:=k1.below hb3
   refine ⟨BV,ov',_,hB3.but hset (fun b e=>by subst e;exact hB3.not hcb3 (by decide)),rfl,k2,⟨{ CV' with wv:=.slice qv 0 0 },{ V with snd:=some (x,y),uv:=uv' },x,y⟩,.slice f1 f2 f3,.slice c1 c2 c3,⟨?_,⟨qv,rfl⟩,?_,rfl,?_⟩,hpost.cb,hpost.sp,rfl,?_,?_,?_⟩
   · rw [← hpost.cb]
     exact (hpost.con.below hb3).cleared rfl hv3
   · show SesAt _ CV'.sp _ _
     rw [hpost.sp]
     exact (hpost.ses.below hb3).but hset (fun b hb' e=>by subst e;exact (hpost.ses.below hb3).not hcb3 (by decide) hb')
   · show Sink _ B CV'.cb x y _
     rw [hpost.cb]
     exact (hpost.snk.below hb3).cleared _
   · rintro g ((rfl | hg | rfl | rfl | rfl | rfl) | hg | rfl | rfl)
     · exact Or.inl hpost.cb
     · have:=(own_zero hv3).2 g hg;exact Or.inr (Or.inr (by omega))
     · exact Or.inr (Or.inr (by have:=hpost.bx.1;simp only;omega))
     · exact Or.inr (Or.inr (by have:=hpost.bx.2.1;simp only;omega))
     · exact Or.inr (Or.inr (by have:=hpost.bx.2.2.1;simp only;omega))
     · exact Or.inr (Or.inr (by have:=hpost.bx.2.2.2;simp only;omega))
     · have h9:SesV.has { V with snd:=some (x,y),uv:=uv' } CV'.sp g:=hg
       rw [hpost.sp] at h9
       rcases h9 with h9 | h9 | h9 | h9 | h9
       · exact Or.inr (Or.inl (Or.inl h9))
       · exact Or.inr (Or.inl (Or.inr (Or.inl h9)))
       · exact Or.inr (Or.inl (Or.inr (Or.inr (Or.inl h9))))
       · exact Or.inr (Or.inl (Or.inr (Or.inr (Or.inr (Or.inl h9)))))
       · rcases hpost.uvb with e | ⟨b,e1,e2⟩
         · exact Or.inr (Or.inl (Or.inr (Or.inr (Or.inr (Or.inr (e ▸ h9))))))
         · have h10:uv'.ownBlock=some g:=h9
           rw [e1] at h10;cases h10
           exact Or.inr (Or.inr (by omega))
     · exact Or.inr (Or.inr (by omega))
     · exact Or.inr (Or.inr (by omega))
   · show (w3.setCell ⟨CV.cb,1,none⟩ (.slice qv 0 0)).ownsMap Tryz.prog 9 ptrElem BV.mb m D
     obtain ⟨es,cl,hmb⟩:=map_blk hpost.map
     have hmb3:=(hb3.block _ (blk_lt hmb)).trans hmb
     exact map_keep (map_keep hpost.map (hb3.block _ (blk_lt hmb))) (hset.keep _ (blk_lt hmb3) (fun e=>by rw [e,hcb3] at hmb3;simp at hmb3))
   · have t1:But (fun g=>g=B∨g=CV.cb∨V.has sb g) w' w1:=hpre.but.wide (fun _ _ e=>Or.inr (Or.inl e))
     have t2:=t1.trans (But.of_below (F:=fun _=>False) hb0) (fun _ _ f=>f.elim)
     have t3:=t2.trans k3 (fun x _ e=>by
      rcases e with (e | e) | e | e
      · exact Or.inr (Or.inl e)
      · exact Or.inr (Or.inr e)
      · exact Or.inl e
      · cases e)
     have t4:=t3.trans (But.of_below (F:=fun _=>False) hb3) (fun _ _ f=>f.elim)
     exact t4.trans hset (fun _ _ e=>Or.inr (Or.inl e))
 · rintro e w' ⟨w1,w2,BV',ov',L',hb1,⟨rfl,hL',X,fv,cv,hS,hcbX,hspX,hkbX,hX,hMp,hBut⟩,hb2,rfl,ho,hblk,hbB⟩
   have hnB:∀ b,X.has b→¬ b=B:=fun b hb e=>by subst e;exact hS.not hb2.blk (by decide) (by decide) hb
   refine ⟨ov',L',rfl,hL',ho,hblk,X,fv,cv,hS.but hbB hnB,hcbX,hspX,hkbX,fun g hg=>(hX g hg).imp id (fun hh=>hh.imp id (fun hh=>Nat.le_trans hb1.size hh)),?_,?_⟩
   · obtain ⟨es,cl,hmb⟩:=map_blk hMp
     exact map_keep hMp (hbB.keep _ (blk_lt hmb) (fun e=>by have:=hb2.blk;rw [← e,hmb] at this;simp at this))
   · exact ((But.of_below hb1).trans hBut (fun _ _ f=>f)).trans hbB (fun _ _ e=>Or.inl e)
end br
end Go.Proofs.YtnmfmoimjkoieaaGreatDoor
