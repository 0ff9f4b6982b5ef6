import Derived.Test.YtnmfmoimjkoieaaGreatDoorF25
namespace Go.Proofs.YtnmfmoimjkoieaaGreatDoor
namespace br
open Go.RowKit topPlain topWalks decPlain Go.Maps
structure CnPost (w:World) (B:Nat) (n:Int) (d:List UInt8) (p:Pkt) (que m:Nat) (D:DataW Unit) (BV:BrV) (ov:Value) (L:List (OutS×Value)) (CV:ConV) (C:Con) (w':World) (sb:Nat) (V:SesV) (CV':ConV) (x y:Nat):Prop where
 out:Wrote (fun g=>g=CV.cb∨g=BV.mb) w B BV ov L [⟨n,d,false⟩] w'
 ses:SesAt w' sb { V with snd:=some (x,y) } (newS BV.win que)
 new:∀ g,V.has sb g→w.heap.size≤g
 con:ConAt w' B n CV' { C with hello:=some p }
 cb:CV'.cb=CV.cb
 wv:CV'.wv=CV.wv
 sp:CV'.sp=sb
 bx:w.heap.size≤CV'.x∧w.heap.size≤CV'.y∧w.heap.size≤CV'.x'∧w.heap.size≤CV'.y'
 map:w'.ownsMap Tryz.prog 9 ptrElem BV.mb (m+1) (D.put (.string p.client) (.lit (.int .i64 (sb:Int))))
 snk:Sink w' B CV.cb x y n
set_option maxHeartbeats 1600000 in
set_option maxRecDepth 100000 in
theorem cn_tail {N0:Nat} (B x y pb m:Nat) (n:Int) (que:Nat) (p:Pkt) (f1:Option Addr) (f2 f3:Nat) (c1:Option Addr) (c2 c3:Nat) (d:List UInt8) (D:DataW Unit) (BV:BrV) (ov:Value) (L:List (OutS×Value)) (CV:ConV) (C:Con) (w:World) (R:Ending→World→Prop) (hE:EncOK N0 w (ackS false 0) d) (hb:Boxes w B CV.cb x y) (h:BlkAt w B BV ov L) (hc:ConAt w B n CV C) (hC:C.hello=none) (hp:w.heap[pb]?=some (.cells (pkK { p with fv:=.slice f1 f2 f3,cv:=.slice c1 c2 c3 }) 36))
 (hM:w.ownsMap Tryz.prog 9 ptrElem BV.mb m D) (hD:Maps.has D (.string p.client)=false) (hm:m < 1000) (hcl:p.client.length≤1000) (hq:BV.que=(que:Int)) (hq8:que≤8) (hL:L.length < 1000000000000) (hN0:N0≤CV.cb∧N0≤BV.mb)
 (hR:∀ (w':World) (sb:Nat) (V:SesV) (CV':ConV),CnPost w B n d { p with fv:=.slice f1 f2 f3,cv:=.slice c1 c2 c3 } que m D BV ov L CV C w' sb V CV' x y→R (.returned (.tuple #[])) w')
 (u0 u1 u2 u6 u7 u8 u9 u10 u11 u12 u13 u14 u15 u16 u17 u18 u19 u20 u21 u22 u23 u24 u25 u26 u27 u28 u29 u30 u31 u32 u33 u34 u35 u36 u37 u38 u39 u40 u41 u42 u43 u44 u45 u46 u47 u48 u49 u50 u51 u52 u53 u54 u55 u56 u57 u58 u59 u60 u61 u62 u63 u64 u65 u66 u67 u68 u69 u70 u71 u72 u73 u74 u75 u76 u77 u78 u79 u80 u81 u82 u83 u84 u85 u86 u87 u88 u89 u90 u91 u92 u93 u94 u95 u96:Value) :
 Code.wp Tryz.prog (dropS 5 (Tryz.f90.body.getD .skip)) (bodyPost Tryz.prog Tryz.f90 R) ⟨#[u0,u1,u2,.pointer (some ⟨x,0,none⟩),.pointer (some ⟨y,0,none⟩),.pointer (some ⟨pb,0,none⟩),u6,u7,u8,u9,u10,u11,u12,u13,u14,u15,u16,u17,u18,u19,u20,u21,u22,u23,u24,u25,u26,u27,u28,u29,u30,u31,u32,u33,u34,u35,u36,u37,u38,u39,u40,u41,u42,u43,u44,u45,u46,u47,u48,u49,u50,u51,u52,u53,u54,u55,u56,u57,u58,u59,u60,u61,u62,u63,u64,u65,u66,u67,u68,u69,u70,u71,u72,u73,u74,u75,u76,u77,u78,u79,u80,u81,u82,u83,u84,u85,u86,u87,u88,u89,u90,u91,u92,u93,u94,u95,u96],[]⟩ w:=by
 have hmap:∃ es cl,w.heap[BV.mb]?=some (.map es cl):=by obtain ⟨es,cl,k1,_⟩:=hM;exact ⟨es,cl,k1⟩
 obtain ⟨es,cl,hmb⟩:=hmap
 have hlm:=blk_lt hmb
 have hlc:=blk_lt hc.blk
 refine cn_new B CV.cb x y pb m que p.client D BV ov L w R hb h (blk_cell hp rfl) hM hD hm hcl hq hq8 ?_ _ _ _ _ _ _ _ _ _ _ _ _ _ _ _ _ _ _ _ _ _ _ _ _ _ _ _ _ _ _ _ _ _ _ _ _ _ _ _ _ _ _ _ _ _ _ _ _ _ _ _ _ _ _ _ _ _ _ _ _ _ _ _ _ _ _ _ _ _ _ _ _ _ _ _ _ _ _ _ _ _ _ _ _ _ _ _ _ _ _ _ _ _ _
 intro w1 sb V _ _ _ _ _ _ _ _ _ _ _ _ _ _ _ _ _ _ _ _ _ _ _ _ _ _ _ _ _ _ _ _ _ _ _ _ _ _ _ _ _ _ _ _ _ _ _ _ _ _ _ _ _ _ _ _ _ _ _ _ _ _ _ _ _ _ _ _ _ _ _ _ _ _ _ _ _ _ _ _ _ _ _ _ _ _ _ _ _ _ _ _ hb1 hM1 hs1 hsn hnew
 have hnm:∀ g o,w.heap[g]?=some o→(∀ es cl,o≠Obj.map es cl)→w1.heap[g]?=some o:=fun g o hg ho=>hb1.blk (fun e=>by subst e;rw [hmb] at hg;exact ho _ _ (Option.some.inj hg).symm) hg
 have hx1:Boxes w1 B CV.cb x y:=⟨hnm _ _ hb.bx (fun _ _ e=>by cases e),hnm _ _ hb.by_ (fun _ _ e=>by cases e)⟩
 have hc1:=hnm _ _ hc.blk (fun _ _ e=>by cases e)
 have hp1:=hnm _ _ hp (fun _ _ e=>by cases e)
 have hpc:pb≠CV.cb:=fun e=>by rw [e,hc.blk] at hp;simp at hp
 refine cn_set B CV.cb sb x y pb n false p f1 f2 f3 c1 c2 c3 CV C w1 R hx1 hc1 ⟨blk_cell hp1 rfl,blk_cell hp1 rfl,blk_cell hp1 rfl,blk_cell hp1 rfl,blk_cell hp1 rfl,blk_cell hp1 rfl,blk_cell hp1 rfl,blk_cell hp1 rfl,blk_cell hp1 rfl,blk_cell hp1 rfl,blk_cell hp1 rfl,blk_cell hp1 rfl,blk_cell hp1 rfl,blk_cell hp1 rfl,blk_cell hp1 rfl⟩ hpc ?_ _ _ _ _ _ _ _ _ _ _ _ _ _ _ _ _ _ _ _ _ _ _ _ _ _ _ _ _ _ _ _ _ _ _ _ _ _ _ _ _ _ _ _ _ _ _ _ _ _ _ _ _ _ _ _ _ _ _ _ _ _ _ _ _ _ _ _ _ _ _ _ _ _ _ _ _ _ _ _ _ _ _ _ _ _ _ _ _ _ _ _ _
 intro w2 a b a' b' _ _ _ _ _ _ _ _ _ _ _ _ _ _ _ _ _ _ _ _ _ _ _ _ _ _ _ _ _ _ _ _ _ _ _ _ _ _ _ _ _ _ _ _ _ _ _ _ _ _ _ _ _ _ _ _ _ _ _ _ _ _ _ _ _ _ _ _ _ _ _ _ _ _ _ _ _ _ _ _ _ _ _ _ _ _ _ _ _ _ _ _ _ hb2 hc2 k1 k2 l1 l2 l3 l4
 rw [conSet_eq n CV C hC] at hc2
 have hsz1:=hb1.size
 have hsz2:=hb2.size
 have hb12:But (fun g=>g=CV.cb∨g=BV.mb) w w2:=(hb1.wide (fun _ _ e=>Or.inr e)).trans hb2 (fun _ _ e=>Or.inl e)
 have hdat:∀ g,(g=CV.cb∨g=BV.mb)→¬ OutHas B ov g∧∀ o,o∈L→o.2.ownBlock≠some g:=by
  rintro g (rfl | rfl)
  · refine ⟨?_,fun o ho e=>?_⟩
    · rintro (e | e)
      · have:=hc.blk;rw [e,h.blk] at this;simp at this
      · obtain ⟨cur,hcur⟩:=own_blk h.out.row e;have:=hc.blk;rw [hcur] at this;simp at this
    · obtain ⟨cur,hcur⟩:=own_blk (h.out.dat o ho) e;have:=hc.blk;rw [hcur] at this;simp at this
  · refine ⟨?_,fun o ho e=>?_⟩
    · rintro (e | e)
      · have:=h.blk;rw [← e,hmb] at this;simp at this
      · obtain ⟨cur,hcur⟩:=own_blk h.out.row e;rw [hmb] at hcur;simp at hcur
    · obtain ⟨cur,hcur⟩:=own_blk (h.out.dat o ho) e;rw [hmb] at hcur;simp at hcur
 have h2:BlkAt w2 B BV ov L:=h.but hb12 hdat
 have hs2:SesAt w2 sb V (newS BV.win que):=hs1.but hb2 (fun g hg e=>by have:=hnew g hg;omega)
 have hE2:EncOK N0 w2 (ackS false 0) d:=hE.but hb12 (by rintro g (rfl | rfl);exact hN0.1;exact hN0.2)
 have hx2:Boxes w2 B CV.cb x y:=hx1.keep (hb2.keep _ (blk_lt hx1.bx) (fun e=>by have:=hx1.bx;rw [e,hc1] at this;simp at this)) (hb2.keep _ (blk_lt hx1.by_) (fun e=>by have:=hx1.by_;rw [e,hc1] at this;simp at this))
 have hS2:Sink w2 B CV.cb x y n:=⟨hx2.bx,hx2.by_,⟨_,hc2,(conC_at n _ _).1⟩⟩
 refine cn_end (N0:=N0) B CV.cb sb x y n false d V (newS BV.win que) BV ov L w2 R hE2 hs2 h2 hS2 hL rfl rfl ?_ _ _ _ _ _ _ _ _ _ _ _ _ _ _ _ _ _ _ _ _ _ _ _ _ _ _ _ _ _ _ _ _ _ _ _ _ _ _ _ _ _ _ _ _ _ _ _ _ _ _ _ _ _ _ _ _ _ _ _ _ _ _ _ _ _ _ _ _ _ _ _ _ _ _ _ _ _ _ _ _ _ _ _ _ _ _ _ _ _ _ _ _ _
 intro w3 hw3 hs3
 obtain ⟨ov',M,q1,q2,q3,q4,q5⟩:=hw3
 have hnewb:w.heap.size≤sb:=hnew sb (Or.inl rfl)
 -- what the writing leaves
 have keep3:∀ g o,w2.heap[g]?=some o→(∀ c,o≠Obj.cells c 188)→(∀ c,o≠Obj.cells c 131)→(∀ c,o≠Obj.cells c 66)→w3.heap[g]?=some o:=fun g o hg n1 n2 n3=>q3.blk (fun f=>by
  rcases f with rfl | rfl | f
  · rw [hs2.blk] at hg;exact n1 _ (Option.some.inj hg).symm
  · rw [h2.blk] at hg;exact n2 _ (Option.some.inj hg).symm
  · obtain ⟨cur,hcur⟩:=own_blk h2.out.row f;rw [hcur] at hg;exact n3 _ (Option.some.inj hg).symm) hg
 have keepC:∀ {g:Nat} {c:Array Value} {t:TypeId},w2.heap[g]?=some (.cells c t)→t≠188→t≠131→t≠66→w3.heap[g]?=some (.cells c t):=fun hg n1 n2 n3=>keep3 _ _ hg (fun c e=>by simp at e;exact n1 e.2) (fun c e=>by simp at e;exact n2 e.2) (fun c e=>by simp at e;exact n3 e.2)
 refine hR w3 sb V ⟨CV.cb,CV.wv,a,b,a',b',sb⟩ ⟨⟨ov',M,q1,q2,?_,q4.imp id (fun ⟨g,e1,e2⟩=>⟨g,e1,by omega⟩),fun o ho g hg=>by have:=q5 o ho g hg;omega⟩,hs3,hnew,⟨keepC hc2 (by decide) (by decide) (by decide),?_,⟨keepC k1.bx (by decide) (by decide) (by decide),keepC k1.by_ (by decide) (by decide) (by decide)⟩,⟨keepC k2.bx (by decide) (by decide) (by decide),keepC k2.by_ (by decide) (by decide) (by decide)⟩⟩,rfl,rfl,rfl,⟨by simp only;omega,by simp only;omega,by simp only;omega,by simp only;omega⟩,?_,⟨keepC hx2.bx (by decide) (by decide) (by decide),keepC hx2.by_ (by decide) (by decide) (by decide),⟨_,keepC hc2 (by decide) (by decide) (by decide),(conC_at n _ _).1⟩⟩⟩
 · exact (hb12.wide (fun _ _ f=>Or.inl f)).trans q3 (fun g hg f=>by
    rcases f with rfl | f
    · omega
    · exact Or.inr f)
 · exact own_keep hc.wai (fun g hg=>by
    obtain ⟨cur,hcur⟩:=own_blk hc.wai hg
    have e2:=hb12.blk (fun f=>by
     rcases f with rfl | rfl
     · have:=hc.blk;rw [hcur] at this;simp at this
     · rw [hmb] at hcur;simp at hcur) hcur
    rw [keepC e2 (by decide) (by decide) (by decide),hcur])
 · obtain ⟨es1,cl1,m1,m2⟩:=hM1
   have e2:w2.heap[BV.mb]?=some (.map es1 cl1):=hb2.blk (fun e=>by rw [e,hc1] at m1;simp at m1) m1
   exact ⟨es1,cl1,keep3 _ _ e2 (fun c e=>by cases e) (fun c e=>by cases e) (fun c e=>by cases e),m2⟩
theorem cn_three (w:World) (B cb:Nat) (P:Array Value) (W3:World) (h:W3=((w.alloc (.cells #[.pointer (some ⟨B,0,none⟩)] 55)).alloc (.cells #[.pointer (some ⟨cb,0,none⟩)] 124)).alloc (.cells P 36)) :
 Boxes W3 B cb w.heap.size (w.heap.size+1)∧W3.heap[w.heap.size+1+1]?=some (.cells P 36)∧Below w.heap.size w W3∧w.heap.size+1+1 < W3.heap.size:=by
 subst h
 refine ⟨⟨?_,?_⟩,?_,(((Below.refl w.heap.size w).alloc (Nat.le_refl _) _).alloc (by simp) _).alloc (by simp;omega) _,by simp⟩
 · rw [Below.heap_alloc _ _ _ (by simp;omega),Below.heap_alloc _ _ _ (by simp)];exact heap_alloc_new _ _
 · rw [Below.heap_alloc _ _ _ (by simp)]
   have:=heap_alloc_new (w.alloc (.cells #[.pointer (some ⟨B,0,none⟩)] 55)) (.cells #[.pointer (some ⟨cb,0,none⟩)] 124)
   simpa using this
 · have:=heap_alloc_new ((w.alloc (.cells #[.pointer (some ⟨B,0,none⟩)] 55)).alloc (.cells #[.pointer (some ⟨cb,0,none⟩)] 124)) (.cells P 36)
   simpa using this
set_option maxHeartbeats 3200000 in
set_option maxRecDepth 100000 in
theorem conn_keep {N0:Nat} (B m:Nat) (n:Int) (que:Nat) (p:Pkt) (f1:Option Addr) (f2 f3:Nat) (c1:Option Addr) (c2 c3:Nat) (d:List UInt8) (D:DataW Unit) (BV:BrV) (ov:Value) (L:List (OutS×Value)) (CV:ConV) (C:Con) (cs:Nat→Option (ConV×Con)) (w:World) (hE:EncOK N0 w (ackS false 0) d) (h:BlkAt w B BV ov L) (hc:ConAt w B n CV C) (hC:C.hello=none)
 (hcs:∀ k,k < 8→ConO w B BV k (cs k)) (hn:∀ k,k < 8→notFor p.client (cs k)) (hne:p.client≠[]) (hcn:p.clean=false)
 (hM:w.ownsMap Tryz.prog 9 ptrElem BV.mb m D) (hD:Maps.has D (.string p.client)=false) (hm:Maps.size D < 8) (hm2:m < 1000) (hcl:p.client.length≤1000) (hq:BV.que=(que:Int)) (hq8:que≤8) (hL:L.length < 1000000000000) (hN0:N0≤CV.cb∧N0≤BV.mb) :
 Calls Tryz.prog 90 #[.pointer (some ⟨B,0,none⟩),.pointer (some ⟨CV.cb,0,none⟩),.agg (pkK { p with fv:=.slice f1 f2 f3,cv:=.slice c1 c2 c3 })] w fun e w'=>e=.returned (.tuple #[])∧∃ w0 sb V CV' x y,Below w.heap.size w w0∧w.heap.size≤x∧w.heap.size≤y∧CnPost w0 B n d { p with fv:=.slice f1 f2 f3,cv:=.slice c1 c2 c3 } que m D BV ov L CV C w' sb V CV' x y:=by
 have hE3:=hide fun W (hb:Below w.heap.size w W)=>hE.below hb
 have h3:=hide fun W (hb:Below w.heap.size w W)=>h.below hb
 have hc3:=hide fun W (hb:Below w.heap.size w W)=>hc.below hb
 have hM3:=hide fun W (hb:Below w.heap.size w W)=>(show W.ownsMap Tryz.prog 9 ptrElem BV.mb m D by obtain ⟨es,cl,k1,k2⟩:=hM;exact ⟨es,cl,(hb.block _ (blk_lt k1)).trans k1,k2⟩)
 have hcs3:=hide fun W (hb:Below w.heap.size w W) k hk=>(show ConO W B BV k (cs k) by
  have:=hcs k hk
  cases hck:cs k with
  | none=>rw [hck] at this;exact this
  | some cv=>rw [hck] at this;obtain ⟨a,b⟩:=cv;exact ⟨this.1,this.2.below hb⟩)
 have hlk:∀ W:World,W.ownsMap Tryz.prog 9 ptrElem BV.mb m D→(Instr.lookup 126 (.map (some BV.mb)) (.string (bs p.client)) false).run Tryz.prog W=.ok (.pointer none) W:=fun W hW=>by
  obtain ⟨v,ps,hrun,hv⟩:=hW.lookup (t:=126) (e:=135) keyStr Tryz.underlying126 (zeroPtr _) (zd:=.nil) (zp:=[]) rfl (key_bs p.client hcl)
  rw [atKey_none hD] at hv
  obtain rfl:=ptr_inv hv
  exact hrun
 have hln:∀ (W:World) (ty:TypeId),W.ownsMap Tryz.prog 9 ptrElem BV.mb m D→(Builtin.len_ #[126] ty #[.map (some BV.mb)]).run Tryz.prog W=.ok (.int .i64 (Maps.size D)) W:=fun W ty hW=>hW.len (t:=126) (e:=135) Tryz.underlying126 ty
 have h8:¬ (8:Int)≤(Maps.size D:Int):=by omega
 have hlB:=blk_lt h.blk
 have hem:((bs p.client).toList == [])=false:=by
  rw [ByteArray.toList_eq,data_bs];simpa using hne
 have hem2:¬ ((bs p.client).toList = []):=by
  rw [ByteArray.toList_eq,data_bs];exact hne
 have HN:=hide hn
 have HP:Hid (pkK { p with fv:=.slice f1 f2 f3,cv:=.slice c1 c2 c3 }=#[.int .i64 p.kind,.bool p.clean,.bool p.will,.int .i64 p.keep,.string (bs p.client),.bool p.present,.int .i64 p.code,.bool p.dup,.int .i64 p.qos,.bool p.retain,.string (bs p.topic),.string (bs p.payload),.int .i64 p.id,.slice f1 f2 f3,.slice c1 c2 c3]):=rfl
 have HCN:=hide hcn
 clear hE h hc hM hcs hn hne hcn
 simp only [pkK]
 go_enter Tryz.func90,Tryz.ntmps90
 refine wp_seq_k fun K0 aK0=>?_
 have HK0:=hide aK0
 clear aK0
 go_wp2_with fail
 refine HK0.out _ _ ?_
 clear HK0 K0
 obtain ⟨W3,hW3⟩:∃ W3,W3=((w.alloc (.cells #[.pointer (some ⟨B,0,none⟩)] 55)).alloc (.cells #[.pointer (some ⟨CV.cb,0,none⟩)] 124)).alloc (.cells #[.int .i64 p.kind,.bool p.clean,.bool p.will,.int .i64 p.keep,.string (bs p.client),.bool p.present,.int .i64 p.code,.bool p.dup,.int .i64 p.qos,.bool p.retain,.string (bs p.topic),.string (bs p.payload),.int .i64 p.id,.slice f1 f2 f3,.slice c1 c2 c3] 36):=⟨_,rfl⟩
 rw [← hW3]
 obtain ⟨g1,g2,g3,g4⟩:=cn_three w B CV.cb _ W3 hW3
 clear hW3
 have cx:W3.cell? ⟨w.heap.size,0,none⟩=some (.pointer (some ⟨B,0,none⟩)):=blk_cell g1.bx rfl
 have p1:W3.cell? ⟨w.heap.size+1+1,1,none⟩=some (.bool p.clean):=blk_cell g2 rfl
 rw [HCN.out] at p1
 have p4:W3.cell? ⟨w.heap.size+1+1,4,none⟩=some (.string (bs p.client)):=blk_cell g2 rfl
 have b10:W3.cell? ⟨B,10,none⟩=some (.map (some BV.mb)):=blk_cell (h3.out _ g3).blk rfl
 have hMW:=hM3.out _ g3
 have hMd:W3.drew.ownsMap Tryz.prog 9 ptrElem BV.mb m D:=by obtain ⟨es,cl,k1,k2⟩:=hMW;exact ⟨es,cl,k1,k2⟩
 have G1:=hide g1
 have G2:=hide g2
 have G3:=hide g3
 clear g1 g2 g3
 refine wp_seq_k fun K1 aK1=>?_
 have HK1:=hide aK1
 clear aK1
 go_wp2_with fail
 refine HK1.out _ _ ?_
 clear HK1 K1
 refine wp_seq_k fun K2 aK2=>?_
 have HK2:=hide aK2
 clear aK2
 refine wp_seq_k fun K3 aK3=>?_
 have HK3:=hide aK3
 clear aK3
 go_region_held3 (fun w'=>w'.cell? ⟨w.heap.size,0,none⟩=some (.pointer (some ⟨B,0,none⟩))∧w'.cell? ⟨B,10,none⟩=some (.map (some BV.mb))∧w'.cell? ⟨w.heap.size+1+1,4,none⟩=some (.string (bs p.client))∧w'.ownsMap Tryz.prog 9 ptrElem BV.mb m D) (go_keep) (fail)
 go_wp2_with fail
 refine HK3.out _ _ ?_
 clear HK3 K3
 go_wp2_with fail
 refine HK2.out _ _ ?_
 clear HK2 K2 hlk hln hMd
 refine wp_seq_k fun K2 aK2=>?_
 have HK2:=hide aK2
 clear aK2
 go_wp2_with fail
 have hB3d:Below w.heap.size w W3.drew:=G3.out.drew
 refine (conFor_none B BV ov L cs p.client W3.drew (h3.out _ hB3d) (fun k hk=>hcs3.out _ hB3d k hk) HN.out).mono ?_
 rintro e w4 ⟨rfl,hB4⟩
 have hB34:Below W3.heap.size W3 w4:=(Below.refl W3.heap.size W3).drew.trans hB4
 have hBw4:=G3.out.trans (hB34.mono G3.out.size)
 have p1':w4.cell? ⟨w.heap.size+1+1,1,none⟩=some (.bool false):=by rw [hB34.cell g4];exact p1
 have HB4:=hide hBw4
 have HX4:=hide (G1.out.below hB34)
 have HP4:=hide ((hB34.block _ g4).trans G2.out)
 clear hB4 hB34 hBw4 hB3d p1 p4 b10 cx hMW
 go_wp2_with fail
 refine HK2.out _ _ ?_
 clear HK2 K2
 refine wp_seq_k fun K2 aK2=>?_
 have HK2:=hide aK2
 clear aK2
 go_wp2_with fail
 refine HK2.out _ _ ?_
 clear HK2 K2
 refine cn_tail (N0:=N0) B w.heap.size (w.heap.size+1) (w.heap.size+1+1) m n que p f1 f2 f3 c1 c2 c3 d D BV ov L CV C w4 _ (hE3.out _ HB4.out) HX4.out (h3.out _ HB4.out) (hc3.out _ HB4.out) hC (by rw [HP.out,HP4.out]) (hM3.out _ HB4.out) hD hm2 hcl hq hq8 hL hN0 ?_ _ _ _ _ _ _ _ _ _ _ _ _ _ _ _ _ _ _ _ _ _ _ _ _ _ _ _ _ _ _ _ _ _ _ _ _ _ _ _ _ _ _ _ _ _ _ _ _ _ _ _ _ _ _ _ _ _ _ _ _ _ _ _ _ _ _ _ _ _ _ _ _ _ _ _ _ _ _ _ _ _ _ _ _ _ _ _ _ _ _ _ _ _ _
 intro w' sb V CV' hpost
 exact ⟨rfl,w4,sb,V,CV',w.heap.size,w.heap.size+1,HB4.out,Nat.le_refl _,by omega,hpost⟩
set_option maxHeartbeats 3200000 in
set_option maxRecDepth 100000 in
theorem conn_clean {N0:Nat} (B m:Nat) (n:Int) (que:Nat) (p:Pkt) (f1:Option Addr) (f2 f3:Nat) (c1:Option Addr) (c2 c3:Nat) (d:List UInt8) (D:DataW Unit) (BV:BrV) (ov:Value) (L:List (OutS×Value)) (CV:ConV) (C:Con) (cs:Nat→Option (ConV×Con)) (w:World) (hE:EncOK N0 w (ackS false 0) d) (h:BlkAt w B BV ov L) (hc:ConAt w B n CV C) (hC:C.hello=none)
 (hcs:∀ k,k < 8→ConO w B BV k (cs k)) (hn:∀ k,k < 8→notFor p.client (cs k)) (hne:p.client≠[]) (hcn:p.clean=true)
 (hM:w.ownsMap Tryz.prog 9 ptrElem BV.mb m D) (hD:Maps.has D (.string p.client)=false) (hm:Maps.size D < 8) (hm2:m < 1000) (hcl:p.client.length≤1000) (hq:BV.que=(que:Int)) (hq8:que≤8) (hL:L.length < 1000000000000) (hN0:N0≤CV.cb∧N0≤BV.mb) :
 Calls Tryz.prog 90 #[.pointer (some ⟨B,0,none⟩),.pointer (some ⟨CV.cb,0,none⟩),.agg (pkK { p with fv:=.slice f1 f2 f3,cv:=.slice c1 c2 c3 })] w fun e w'=>e=.returned (.tuple #[])∧∃ w0 sb V CV' x y,But (fun g=>g=BV.mb) w w0∧w.heap.size≤x∧w.heap.size≤y∧CnPost w0 B n d { p with fv:=.slice f1 f2 f3,cv:=.slice c1 c2 c3 } que m D BV ov L CV C w' sb V CV' x y:=by
 have hE3:=hide fun W (hb:Below w.heap.size w W)=>hE.below hb
 have h3:=hide fun W (hb:Below w.heap.size w W)=>h.below hb
 have hc3:=hide fun W (hb:Below w.heap.size w W)=>hc.below hb
 have hM3:=hide fun W (hb:Below w.heap.size w W)=>(show W.ownsMap Tryz.prog 9 ptrElem BV.mb m D by obtain ⟨es,cl,k1,k2⟩:=hM;exact ⟨es,cl,(hb.block _ (blk_lt k1)).trans k1,k2⟩)
 have hcs3:=hide fun W (hb:Below w.heap.size w W) k hk=>(show ConO W B BV k (cs k) by
  have:=hcs k hk
  cases hck:cs k with
  | none=>rw [hck] at this;exact this
  | some cv=>rw [hck] at this;obtain ⟨a,b⟩:=cv;exact ⟨this.1,this.2.below hb⟩)
 have hlk:∀ W:World,W.ownsMap Tryz.prog 9 ptrElem BV.mb m D→(Instr.lookup 126 (.map (some BV.mb)) (.string (bs p.client)) false).run Tryz.prog W=.ok (.pointer none) W:=fun W hW=>by
  obtain ⟨v,ps,hrun,hv⟩:=hW.lookup (t:=126) (e:=135) keyStr Tryz.underlying126 (zeroPtr _) (zd:=.nil) (zp:=[]) rfl (key_bs p.client hcl)
  rw [atKey_none hD] at hv
  obtain rfl:=ptr_inv hv
  exact hrun
 have hln:∀ (W:World) (ty:TypeId),W.ownsMap Tryz.prog 9 ptrElem BV.mb m D→(Builtin.len_ #[126] ty #[.map (some BV.mb)]).run Tryz.prog W=.ok (.int .i64 (Maps.size D)) W:=fun W ty hW=>hW.len (t:=126) (e:=135) Tryz.underlying126 ty
 have h8:¬ (8:Int)≤(Maps.size D:Int):=by omega
 have hlB:=blk_lt h.blk
 have hem:((bs p.client).toList == [])=false:=by
  rw [ByteArray.toList_eq,data_bs];simpa using hne
 have hem2:¬ ((bs p.client).toList = []):=by
  rw [ByteArray.toList_eq,data_bs];exact hne
 have HN:=hide hn
 have HP:Hid (pkK { p with fv:=.slice f1 f2 f3,cv:=.slice c1 c2 c3 }=#[.int .i64 p.kind,.bool p.clean,.bool p.will,.int .i64 p.keep,.string (bs p.client),.bool p.present,.int .i64 p.code,.bool p.dup,.int .i64 p.qos,.bool p.retain,.string (bs p.topic),.string (bs p.payload),.int .i64 p.id,.slice f1 f2 f3,.slice c1 c2 c3]):=rfl
 have HCN:=hide hcn
 clear hE h hc hM hcs hn hne hcn
 simp only [pkK]
 go_enter Tryz.func90,Tryz.ntmps90
 refine wp_seq_k fun K0 aK0=>?_
 have HK0:=hide aK0
 clear aK0
 go_wp2_with fail
 refine HK0.out _ _ ?_
 clear HK0 K0
 obtain ⟨W3,hW3⟩:∃ W3,W3=((w.alloc (.cells #[.pointer (some ⟨B,0,none⟩)] 55)).alloc (.cells #[.pointer (some ⟨CV.cb,0,none⟩)] 124)).alloc (.cells #[.int .i64 p.kind,.bool p.clean,.bool p.will,.int .i64 p.keep,.string (bs p.client),.bool p.present,.int .i64 p.code,.bool p.dup,.int .i64 p.qos,.bool p.retain,.string (bs p.topic),.string (bs p.payload),.int .i64 p.id,.slice f1 f2 f3,.slice c1 c2 c3] 36):=⟨_,rfl⟩
 rw [← hW3]
 obtain ⟨g1,g2,g3,g4⟩:=cn_three w B CV.cb _ W3 hW3
 clear hW3
 have cx:W3.cell? ⟨w.heap.size,0,none⟩=some (.pointer (some ⟨B,0,none⟩)):=blk_cell g1.bx rfl
 have p1:W3.cell? ⟨w.heap.size+1+1,1,none⟩=some (.bool p.clean):=blk_cell g2 rfl
 rw [HCN.out] at p1
 have p4:W3.cell? ⟨w.heap.size+1+1,4,none⟩=some (.string (bs p.client)):=blk_cell g2 rfl
 have b10:W3.cell? ⟨B,10,none⟩=some (.map (some BV.mb)):=blk_cell (h3.out _ g3).blk rfl
 have hMW:=hM3.out _ g3
 have hMd:W3.drew.ownsMap Tryz.prog 9 ptrElem BV.mb m D:=by obtain ⟨es,cl,k1,k2⟩:=hMW;exact ⟨es,cl,k1,k2⟩
 have G1:=hide g1
 have G2:=hide g2
 have G3:=hide g3
 clear g1 g2 g3
 refine wp_seq_k fun K1 aK1=>?_
 have HK1:=hide aK1
 clear aK1
 go_wp2_with fail
 refine HK1.out _ _ ?_
 clear HK1 K1
 refine wp_seq_k fun K2 aK2=>?_
 have HK2:=hide aK2
 clear aK2
 refine wp_seq_k fun K3 aK3=>?_
 have HK3:=hide aK3
 clear aK3
 go_region_held3 (fun w'=>w'.cell? ⟨w.heap.size,0,none⟩=some (.pointer (some ⟨B,0,none⟩))∧w'.cell? ⟨B,10,none⟩=some (.map (some BV.mb))∧w'.cell? ⟨w.heap.size+1+1,4,none⟩=some (.string (bs p.client))∧w'.ownsMap Tryz.prog 9 ptrElem BV.mb m D) (go_keep) (fail)
 go_wp2_with fail
 refine HK3.out _ _ ?_
 clear HK3 K3
 go_wp2_with fail
 refine HK2.out _ _ ?_
 clear HK2 K2 hlk hln hMd
 refine wp_seq_k fun K2 aK2=>?_
 have HK2:=hide aK2
 clear aK2
 go_wp2_with fail
 have hB3d:Below w.heap.size w W3.drew:=G3.out.drew
 refine (conFor_none B BV ov L cs p.client W3.drew (h3.out _ hB3d) (fun k hk=>hcs3.out _ hB3d k hk) HN.out).mono ?_
 rintro e w4 ⟨rfl,hB4⟩
 have hB34:Below W3.heap.size W3 w4:=(Below.refl W3.heap.size W3).drew.trans hB4
 have hBw4:=G3.out.trans (hB34.mono G3.out.size)
 have p1':w4.cell? ⟨w.heap.size+1+1,1,none⟩=some (.bool true):=by rw [hB34.cell g4];exact p1
 have HB4:=hide hBw4
 have HX4:=hide (G1.out.below hB34)
 have HP4:=hide ((hB34.block _ g4).trans G2.out)
 have x4:w4.cell? ⟨w.heap.size,0,none⟩=some (.pointer (some ⟨B,0,none⟩)):=blk_cell HX4.out.bx rfl
 have p44:w4.cell? ⟨w.heap.size+1+1,4,none⟩=some (.string (bs p.client)):=blk_cell HP4.out rfl
 have b104:w4.cell? ⟨B,10,none⟩=some (.map (some BV.mb)):=blk_cell (h3.out _ hBw4).blk rfl
 have hM4:=hM3.out _ hBw4
 have hM4d:w4.drew.ownsMap Tryz.prog 9 ptrElem BV.mb m D:=by obtain ⟨es,cl,k1,k2⟩:=hM4;exact ⟨es,cl,k1,k2⟩
 obtain ⟨w5,hrun5,hM5,ht5⟩:=hM4d.drop (t:=126) (e:=135) keyStr Tryz.underlying126 (key_bs p.client hcl) 0
 rw [Maps.del_of_not_has hD] at hM5
 have hg5:w4.grownBy w5 (some BV.mb):=by have:=ht5.grown;exact ⟨this.os,this.tape,this.output,this.size,this.block⟩
 obtain ⟨es,cl,hmb,_⟩:=hM4
 have hb5:But (fun g=>g=BV.mb) w4 w5:=But.of_grown hg5 (fun b hb=>(Option.some.inj hb).symm)
 have hnm:∀ g o,w4.heap[g]?=some o→(∀ es cl,o≠Obj.map es cl)→w5.heap[g]?=some o:=fun g o hg ho=>hb5.blk (fun e=>by subst e;rw [hmb] at hg;exact ho _ _ (Option.some.inj hg).symm) hg
 have hx5:Boxes w5 B CV.cb w.heap.size (w.heap.size+1):=⟨hnm _ _ HX4.out.bx (fun _ _ e=>by cases e),hnm _ _ HX4.out.by_ (fun _ _ e=>by cases e)⟩
 have hp5:=hnm _ _ HP4.out (fun _ _ e=>by cases e)
 have h4:=h3.out _ hBw4
 have hc4:=hc3.out _ hBw4
 have hmbx:∀ b c t,w4.heap[b]?=some (.cells c t)→b≠BV.mb:=fun b c t hb e=>by subst e;rw [hmb] at hb;cases hb
 have h5:BlkAt w5 B BV ov L:=h4.but hb5 (fun g e=>by
  subst e
  refine ⟨?_,fun o ho e=>?_⟩
  · rintro (e | e)
    · exact hmbx _ _ _ h4.blk e.symm
    · obtain ⟨cur,hc⟩:=own_blk h4.out.row e;exact hmbx _ _ _ hc rfl
  · obtain ⟨cur,hc⟩:=own_blk (h4.out.dat o ho) e;exact hmbx _ _ _ hc rfl)
 have hc5:ConAt w5 B n CV C:=hc4.but hb5 (fun g hg e=>by
  subst e
  rcases hg with e | hg | e | e | e | e
  · exact hmbx _ _ _ hc4.blk e.symm
  · obtain ⟨cur,hc⟩:=own_blk hc4.wai hg;exact hmbx _ _ _ hc rfl
  · exact hmbx _ _ _ hc4.b1.bx e.symm
  · exact hmbx _ _ _ hc4.b1.by_ e.symm
  · exact hmbx _ _ _ hc4.b2.bx e.symm
  · exact hmbx _ _ _ hc4.b2.by_ e.symm)
 have hE5:EncOK N0 w5 (ackS false 0) d:=(hE3.out _ hBw4).but hb5 (fun g e=>by subst e;exact hN0.2)
 have hkb:∀ g o,w4.heap[g]?=some o→g≠BV.mb→w5.heap[g]?=some o:=fun g o hg hne=>hb5.blk hne hg
 have x5:w5.cell? ⟨w.heap.size,0,none⟩=some (.pointer (some ⟨B,0,none⟩)):=blk_cell hx5.bx rfl
 have p45:w5.cell? ⟨w.heap.size+1+1,4,none⟩=some (.string (bs p.client)):=blk_cell hp5 rfl
 have b105:w5.cell? ⟨B,10,none⟩=some (.map (some BV.mb)):=blk_cell h5.blk rfl
 have HX5:=hide hx5
 have HP5:=hide hp5
 have H5:=hide h5
 have HC5:=hide hc5
 have HE5:=hide hE5
 have HM5:=hide hM5
 have HB5:=hide ((But.of_below (F:=fun g=>g=BV.mb) hBw4).trans hb5 (fun _ _ h=>h))
 clear hB4 hB34 hBw4 hB3d p1 p4 b10 cx hMW hM4d ht5 hg5 hmb hb5 hnm hx5 hp5 h4 hc4 hmbx h5 hc5 hE5 hkb hM5
 go_wp2_with fail
 refine HK2.out _ _ ?_
 clear HK2 K2
 refine wp_seq_k fun K2 aK2=>?_
 have HK2:=hide aK2
 clear aK2
 go_wp2_with fail
 go_region_held3 (fun w'=>w'.cell? ⟨w.heap.size,0,none⟩=some (.pointer (some ⟨B,0,none⟩))∧w'.cell? ⟨B,10,none⟩=some (.map (some BV.mb))∧w'.cell? ⟨w.heap.size+1+1,4,none⟩=some (.string (bs p.client))) (go_keep) (fail)
 go_wp2_with fail
 refine HK2.out _ _ ?_
 clear HK2 K2
 refine cn_tail (N0:=N0) B w.heap.size (w.heap.size+1) (w.heap.size+1+1) m n que p f1 f2 f3 c1 c2 c3 d D BV ov L CV C w5 _ HE5.out HX5.out H5.out HC5.out hC (by rw [HP.out,HP5.out]) HM5.out hD hm2 hcl hq hq8 hL hN0 ?_ _ _ _ _ _ _ _ _ _ _ _ _ _ _ _ _ _ _ _ _ _ _ _ _ _ _ _ _ _ _ _ _ _ _ _ _ _ _ _ _ _ _ _ _ _ _ _ _ _ _ _ _ _ _ _ _ _ _ _ _ _ _ _ _ _ _ _ _ _ _ _ _ _ _ _ _ _ _ _ _ _ _ _ _ _ _ _ _ _ _ _ _ _ _
 intro w' sb V CV' hpost
 exact ⟨rfl,w5,sb,V,CV',w.heap.size,w.heap.size+1,HB5.out,Nat.le_refl _,by omega,hpost⟩
set_option maxRecDepth 100000 in
theorem conn_fresh {N0:Nat} (B m:Nat) (n:Int) (que:Nat) (p:Pkt) (f1:Option Addr) (f2 f3:Nat) (c1:Option Addr) (c2 c3:Nat) (d:List UInt8) (D:DataW Unit) (BV:BrV) (ov:Value) (L:List (OutS×Value)) (CV:ConV) (C:Con) (cs:Nat→Option (ConV×Con)) (w:World) (hE:EncOK N0 w (ackS false 0) d) (h:BlkAt w B BV ov L) (hc:ConAt w B n CV C) (hC:C.hello=none)
 (hcs:∀ k,k < 8→ConO w B BV k (cs k)) (hn:∀ k,k < 8→notFor p.client (cs k)) (hne:p.client≠[])
 (hM:w.ownsMap Tryz.prog 9 ptrElem BV.mb m D) (hD:Maps.has D (.string p.client)=false) (hm:Maps.size D < 8) (hm2:m < 1000) (hcl:p.client.length≤1000) (hq:BV.que=(que:Int)) (hq8:que≤8) (hL:L.length < 1000000000000) (hN0:N0≤CV.cb∧N0≤BV.mb) :
 Calls Tryz.prog 90 #[.pointer (some ⟨B,0,none⟩),.pointer (some ⟨CV.cb,0,none⟩),.agg (pkK { p with fv:=.slice f1 f2 f3,cv:=.slice c1 c2 c3 })] w fun e w'=>e=.returned (.tuple #[])∧∃ w0 sb V CV' x y,But (fun g=>g=BV.mb) w w0∧w.heap.size≤x∧w.heap.size≤y∧CnPost w0 B n d { p with fv:=.slice f1 f2 f3,cv:=.slice c1 c2 c3 } que m D BV ov L CV C w' sb V CV' x y:=by
 rcases Bool.eq_false_or_eq_true p.clean with hcn | hcn
 · exact conn_clean B m n que p f1 f2 f3 c1 c2 c3 d D BV ov L CV C cs w hE h hc hC hcs hn hne hcn hM hD hm hm2 hcl hq hq8 hL hN0
 · refine (conn_keep B m n que p f1 f2 f3 c1 c2 c3 d D BV ov L CV C cs w hE h hc hC hcs hn hne hcn hM hD hm hm2 hcl hq hq8 hL hN0).mono ?_
   rintro e w' ⟨h1,w0,sb,V,CV',x,y,h2,h3⟩
   exact ⟨h1,w0,sb,V,CV',x,y,But.of_below h2,h3⟩
set_option maxHeartbeats 800000 in
set_option maxRecDepth 100000 in
/-- a handler that calls a method with the broker, the connection and the packet -/
theorem h_conn (B cb x y:Nat) (p:Pkt) (w:World) (R:Ending→World→Prop) (hb:Boxes w B cb x y) (hfv:∃ a b c,p.fv=.slice a b c) (hcv:∃ a b c,p.cv=.slice a b c)
 (hK:∀ w',Below w.heap.size w w'→Calls Tryz.prog 90 #[.pointer (some ⟨B,0,none⟩),.pointer (some ⟨cb,0,none⟩),.agg (pkK p)] w' fun e w''=>e=.returned (.tuple #[])∧R e w'') :
 Calls Tryz.prog 89 #[.agg (pkK p),.pointer (some ⟨x,0,none⟩),.pointer (some ⟨y,0,none⟩)] w R:=by
 have cx:w.cell? ⟨x,0,none⟩=some (.pointer (some ⟨B,0,none⟩)):=blk_cell hb.bx rfl
 have cy:w.cell? ⟨y,0,none⟩=some (.pointer (some ⟨cb,0,none⟩)):=blk_cell hb.by_ rfl
 have hlx:=blk_lt hb.bx
 have hly:=blk_lt hb.by_
 obtain ⟨f1,f2,f3,hfv⟩:=hfv
 obtain ⟨c1,c2,c3,hcv⟩:=hcv
 have HK:=hide hK
 clear hK hb
 simp only [pkK,hfv,hcv] at HK ⊢
 have HB:=hide fun o=>(Below.refl w.heap.size w).alloc (Nat.le_refl _) o
 clear hfv hcv
 go_enter Tryz.func89,Tryz.ntmps89
 go_wp2_with fail
 refine (HK.out _ (HB.out _)).mono ?_
 rintro e w1 ⟨rfl,hR⟩
 have HR:=hide hR
 clear hR
 go_wp2
 go_end0
 exact HR.out
set_option maxHeartbeats 800000 in
set_option maxRecDepth 100000 in
/-- a handler that calls a method with the broker, the connection and the packet -/
theorem h_pub (B cb x y:Nat) (p:Pkt) (w:World) (R:Ending→World→Prop) (hb:Boxes w B cb x y) (hfv:∃ a b c,p.fv=.slice a b c) (hcv:∃ a b c,p.cv=.slice a b c)
 (hK:∀ w',Below w.heap.size w w'→Calls Tryz.prog 157 #[.pointer (some ⟨B,0,none⟩),.pointer (some ⟨cb,0,none⟩),.agg (pkK p)] w' fun e w''=>e=.returned (.tuple #[])∧R e w'') :
 Calls Tryz.prog 156 #[.agg (pkK p),.pointer (some ⟨x,0,none⟩),.pointer (some ⟨y,0,none⟩)] w R:=by
 have cx:w.cell? ⟨x,0,none⟩=some (.pointer (some ⟨B,0,none⟩)):=blk_cell hb.bx rfl
 have cy:w.cell? ⟨y,0,none⟩=some (.pointer (some ⟨cb,0,none⟩)):=blk_cell hb.by_ rfl
 have hlx:=blk_lt hb.bx
 have hly:=blk_lt hb.by_
 obtain ⟨f1,f2,f3,hfv⟩:=hfv
 obtain ⟨c1,c2,c3,hcv⟩:=hcv
 have HK:=hide hK
 clear hK hb
 simp only [pkK,hfv,hcv] at HK ⊢
 have HB:=hide fun o=>(Below.refl w.heap.size w).alloc (Nat.le_refl _) o
 clear hfv hcv
 go_enter Tryz.func156,Tryz.ntmps156
 go_wp2_with fail
 refine (HK.out _ (HB.out _)).mono ?_
 rintro e w1 ⟨rfl,hR⟩
 have HR:=hide hR
 clear hR
 go_wp2
 go_end0
 exact HR.out
set_option maxHeartbeats 800000 in
set_option maxRecDepth 100000 in
/-- a handler that calls a method with the broker, the connection and the packet -/
theorem h_sub (B cb x y:Nat) (p:Pkt) (w:World) (R:Ending→World→Prop) (hb:Boxes w B cb x y) (hfv:∃ a b c,p.fv=.slice a b c) (hcv:∃ a b c,p.cv=.slice a b c)
 (hK:∀ w',Below w.heap.size w w'→Calls Tryz.prog 167 #[.pointer (some ⟨B,0,none⟩),.pointer (some ⟨cb,0,none⟩),.agg (pkK p)] w' fun e w''=>e=.returned (.tuple #[])∧R e w'') :
 Calls Tryz.prog 166 #[.agg (pkK p),.pointer (some ⟨x,0,none⟩),.pointer (some ⟨y,0,none⟩)] w R:=by
 have cx:w.cell? ⟨x,0,none⟩=some (.pointer (some ⟨B,0,none⟩)):=blk_cell hb.bx rfl
 have cy:w.cell? ⟨y,0,none⟩=some (.pointer (some ⟨cb,0,none⟩)):=blk_cell hb.by_ rfl
 have hlx:=blk_lt hb.bx
 have hly:=blk_lt hb.by_
 obtain ⟨f1,f2,f3,hfv⟩:=hfv
 obtain ⟨c1,c2,c3,hcv⟩:=hcv
 have HK:=hide hK
 clear hK hb
 simp only [pkK,hfv,hcv] at HK ⊢
 have HB:=hide fun o=>(Below.refl w.heap.size w).alloc (Nat.le_refl _) o
 clear hfv hcv
 go_enter Tryz.func166,Tryz.ntmps166
 go_wp2_with fail
 refine (HK.out _ (HB.out _)).mono ?_
 rintro e w1 ⟨rfl,hR⟩
 have HR:=hide hR
 clear hR
 go_wp2
 go_end0
 exact HR.out
end br
end Go.Proofs.YtnmfmoimjkoieaaGreatDoor
