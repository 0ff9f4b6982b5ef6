import Derived.Test.YtnmfmoimjkoieaaGreatDoorF01
import Derived.Test.YtnmfmoimjkoieaaGreatDoorF30
import Derived.Test.YtnmfmoimjkoieaaGreatDoorF24
import Derived.Deep.LoopGhost
import Derived.Deep.RegionLawGrows
import Derived.Deep.RegionHeld3
import Derived.Deep.RegionWith
namespace Go.Proofs.YtnmfmoimjkoieaaGreatDoor
namespace br
open Go.RowKit topPlain topWalks decPlain rd ew encPlain rf
theorem infoU8:(Tryz.prog.info? 5).map (fun i=>(i.zero,i.size,i.bytes))=some (some (.int .u8 0),1,1):=by kernel_rfl
theorem add_off (b o j:Nat):((⟨b,o,none⟩:Addr).add j)=⟨b,o+j,none⟩:=by
 unfold Addr.add
 split
 · rename_i h;subst h;rfl
 · rfl
theorem wpList_append_new {P:Program} (w:World) {ops:Array Oper} {rest:List Oper} {o:Oper} {a:Act} {Q:Exit→Act→World→Prop} (hgd:o.guard=none) (s x:Operand) (t:TypeId)
 (ho:o.op=.call { callee:=.builtin .append,args:=#[s,x],argTypes:=#[t,t] }) (e:TypeId) (i:TypeInfo) (z:Value) (size bytes:Nat) (ht:P.underlying t=some (.slice e)) (hi:P.info? e=some i) (hz:i.zero=some z)
 (hsize:i.size=size) (hby:i.bytes=bytes) (hzs:z.cells.size=size) (hsz:0 < size) (v:Value) (n:Nat) (xs:List Value) (hs:a.eval s=v) (hown:w.ownsRow 0 e size v n xs) 
 (ad:Addr) (m c:Nat) (hroom:∀ q cp,v=.slice q n cp→cp < n+m) (hm:0 < m) (news:List Value) (hx:a.eval x=.slice (some ad) m c) (hl:news.length=m*size) (hnews:∀ j u,news[j]?=some u→w.cell? (ad.add j)=some u) (h1:∀ u∈news,u.oneCell'=true)
 (h63:n+m≤maxLen) (hbytes:(n+m)*bytes≤140737488355328)
 (h:∀ v' w',w'.ownsRow 0 e size v' (n+m) (xs ++ news)→w.grownBy w' none→v'.ownBlock=some w.heap.size→wpList P ops Q rest (a.put o.dst v') w') :
 wpList P ops Q (o :: rest) a w:=by
 refine wpList_plain hgd fun K hK=>?_
 obtain ⟨v',w',hr,h2,h3,_,h5⟩:=run_append_own_at (P:=P) w 0 t o.type e i z size bytes ht hi hz hsize hby hzs hsz v n xs hown ad m c news hl hnews h1 h63 hbytes (Nat.zero_le _)
 have key:v'.ownBlock=some w.heap.size∧w.grownBy w' none:=by
  have h63':n+m≤9223372036854775807:=by unfold maxLen at h63;omega
  rcases hown.2 with ⟨rfl,rfl⟩ | ⟨g,cap,cur,rfl,_,hg,_,_,hcs,_⟩
  · have hr2:=run_append_nil (P:=P) w t o.type e i z ht hi hz ad m c news (by rw [hsize];exact hl) hnews hm (by omega) (by rw [hby];rw [Nat.zero_add] at hbytes;omega)
    have e2:=hr.symm.trans hr2
    simp only [Result.ok.injEq] at e2
    refine ⟨by rw [e2.1];rfl,?_⟩
    rw [e2.2]
    exact ⟨rfl,rfl,rfl,by simp,fun k hk _=>Below.heap_alloc w.drew _ k hk⟩
  · have hcap:=hroom _ _ rfl
    have holds:∀ j u,xs[j]?=some u→w.cell? ((⟨g,0,none⟩:Addr).add j)=some u:=hown.cells (g:=g) rfl
    have hr2:=run_append_grow (P:=P) w t o.type e i z ht hi hz ⟨g,0,none⟩ n cap xs (by rw [hsize];exact hown.1) holds ad m c news (by rw [hsize];exact hl) hnews (by omega) (by omega) (growslice_fits (by omega) (by rw [hby];exact hbytes))
    have e2:=hr.symm.trans hr2
    simp only [Result.ok.injEq] at e2
    refine ⟨by rw [e2.1];rfl,?_⟩
    rw [e2.2]
    exact ⟨rfl,rfl,rfl,by simp,fun k hk _=>Below.heap_alloc w.drew _ k hk⟩
 unfold Oper.wp
 simp [execOp,ho,resolve,invoke,builtin,hs,hx,hr,Result.andThen]
 exact hK _ _ (h v' w' h2 key.2 key.1)
theorem own_below4 {w w':World} {C:Nat} {e:TypeId} {sz:Nat} {v:Value} {n:Nat} {xs:List Value} (h:w.ownsRow C e sz v n xs) (hb:Below w.heap.size w w'):w'.ownsRow C e sz v n xs:=own_keep h (fun b hx=>by obtain ⟨cur,hc⟩:=own_blk h hx;exact hb.block b (blk_lt hc))
theorem own_low {w:World} {C C':Nat} {e:TypeId} {sz:Nat} {v:Value} {n:Nat} {xs:List Value} (h:w.ownsRow C e sz v n xs) (hl:C'≤C):w.ownsRow C' e sz v n xs:=by
 refine ⟨h.1,?_⟩
 rcases h.2 with h1 | ⟨g,cap,cur,e1,h2,h3⟩
 · exact Or.inl h1
 · exact Or.inr ⟨g,cap,cur,e1,Nat.le_trans hl h2,h3⟩
theorem conC_heard (n:Int) (V:ConV) (C:Con) (x:Int):(conC n V C).setIfInBounds 17 (.int .i64 x)=conC n V { C with heard:=x }:=by
 obtain ⟨wt,hd,hl⟩:=C
 cases hl<;>kernel_rfl
theorem conC_bef (n:Int) (V:ConV) (C:Con) (h:C.hello=none):(conC n V C)[2+1]?=some (.func (.func 89) #[] #[.pointer (some ⟨V.x',0,none⟩),.pointer (some ⟨V.y',0,none⟩)]):=by
 obtain ⟨wt,hd,hl⟩:=C
 simp only at h
 subst h
 kernel_rfl
theorem conC_pub (n:Int) (V:ConV) (C:Con) (h:∃ q,C.hello=some q):(conC n V C)[2+3]?=some (.func (.func 156) #[] #[.pointer (some ⟨V.x',0,none⟩),.pointer (some ⟨V.y',0,none⟩)]):=by
 obtain ⟨wt,hd,hl⟩:=C
 obtain ⟨q,h⟩:=h
 simp only at h
 subst h
 kernel_rfl
theorem conC_sub (n:Int) (V:ConV) (C:Con) (h:∃ q,C.hello=some q):(conC n V C)[2+8]?=some (.func (.func 166) #[] #[.pointer (some ⟨V.x',0,none⟩),.pointer (some ⟨V.y',0,none⟩)]):=by
 obtain ⟨wt,hd,hl⟩:=C
 obtain ⟨q,h⟩:=h
 simp only at h
 subst h
 kernel_rfl
structure ReadPre (w:World) (B k:Nat) (BV:BrV) (CV:ConV) (C:Con) (fs:List (List UInt8×Int)) (cs:List Int) (w1:World) (fv cv:Value):Prop where
 but:But (fun g=>g=CV.cb) w w1
 con:ConAt w1 B (k:Int) CV { C with heard:=BV.clk }
 blk:BlkAt w1 B BV (.slice none 0 0) []
 fil:w1.ownsRow w.heap.size 95 2 fv fs.length (filC fs)
 cod:w1.ownsRow w.heap.size 3 1 cv cs.length (ints cs)
 lt:w.heap.size < w1.heap.size
theorem ReadPre.drew {w:World} {B k:Nat} {BV:BrV} {CV:ConV} {C:Con} {fs:List (List UInt8×Int)} {cs:List Int} {w1:World} {fv cv:Value} (h:ReadPre w B k BV CV C fs cs w1 fv cv):ReadPre w B k BV CV C fs cs w1.drew fv cv:=
 ⟨h.but.drew,h.con.keep (fun _ _=>rfl),⟨h.blk.blk,OutsAt.nil _⟩,own_keep h.fil (fun _ _=>rfl),own_keep h.cod (fun _ _=>rfl),h.lt⟩
structure ReadMid (N0:Nat) (ash aw:Addr) (B k:Nat) (CV:ConV) (w1 w2:World):Prop where
 gd:Gd N0 ash aw w2
 size:w1.heap.size≤w2.heap.size
 blk:∃ BV2 ov2,w2.heap[B]?=some (.cells (brC BV2 ov2) 131)∧BV2.cv k=.pointer (some ⟨CV.cb,0,none⟩)
 con:∃ CV2 C2,w2.heap[CV.cb]?=some (.cells (conC (k:Int) CV2 C2) 137)
def ReadPost (w:World) (B k:Nat) (BV:BrV) (CV:ConV) (C:Con) (fs:List (List UInt8×Int)) (cs:List Int) (HPost:World→World→Prop) (e:Ending) (w':World):Prop:=
 e=.returned (.tuple #[])∧∃ w1 fv cv w2 w3 v,ReadPre w B k BV CV C fs cs w1 fv cv∧HPost w1 w2∧Below w2.heap.size w2 w3∧w3.ownsRow w2.heap.size 5 1 v 0 []∧(∃ q,v=.slice q 0 0)∧w'=w3.setCell ⟨CV.cb,1,none⟩ v
theorem loop_rel {w w1:World} {l:List UInt8} {K:Nat} (Q:Nat→Value→World→Prop) (hgl:w.heap.size < w1.heap.size) (hgc:l.length≤K) (hgm:K≤maxLen) (HRV:∀ j u,(u8k l)[j]?=some u→w1.cell? ⟨w.heap.size,j,none⟩=some u) :
 ∃ RR:Nat→Value→World→Prop,RR 1 (.slice (some ⟨w.heap.size,0,none⟩) l.length K) w1∧(∀ g r wx,Q g r wx→RR g r wx)∧(∀ g r wx,RR g r wx→(g=1∧r=.slice (some ⟨w.heap.size,0,none⟩) l.length K∧wx=w1)∨Q g r wx)∧Hid (∀ w2,Below w1.heap.size w1 w2→BytesV w2.heap.size w2 (.slice (some ⟨w.heap.size,0,none⟩) l.length K) l):=
 ⟨fun g r wx=>(g=1∧r=.slice (some ⟨w.heap.size,0,none⟩) l.length K∧wx=w1)∨Q g r wx,Or.inl ⟨rfl,rfl,rfl⟩,fun _ _ _ h=>Or.inr h,fun _ _ _ h=>h,fun w2 hB2=>⟨w.heap.size,0,K,rfl,by omega,hgm,Nat.lt_of_lt_of_le hgl hB2.size,fun j x hx=>by
  rw [hB2.cell hgl,Nat.zero_add]
  refine HRV _ _ ?_
  simp [u8k,hx]⟩⟩
set_option maxHeartbeats 3200000 in
set_option maxRecDepth 100000 in
theorem read_gen {N0:Nat} {ash aw:Addr} (K f:Nat) (cps:Array Value) (hK:K < 15) (hcf:∀ (args:Array Value) (w:World),(callFunc f args).run Tryz.prog w=.ok (.enter f args) w) (B k:Nat) (BV:BrV) (CV:ConV) (C:Con) (p:Pkt) (fs:List (List UInt8×Int)) (cs:List Int) (l:List UInt8) (db doff dc:Nat) (w:World) (HPost:World→World→Prop) (hG:Gd N0 ash aw w) (h:BlkAt w B BV (.slice none 0 0) []) (hc:ConAt w B (k:Int) CV C) (hW:C.waiting = []) (hWv:∃ q,CV.wv=.slice q 0 0) (hC:(conC (k:Int) CV { C with heard:=BV.clk })[2+K]?=some (.func (.func f) #[] cps)) (hk:k < 8) (hv:BV.cv k=.pointer (some ⟨CV.cb,0,none⟩)) (hl0:0 < l.length) (hl:l.length≤1000000)
 (hd:∀ j x,l[j]?=some x→w.cell? ⟨db,doff+j,none⟩=some (.int .u8 (x.toNat:Int))) (hdec:decL l=.inr ((p,fs,cs),l.length)) (hkind:p.kind=(K:Int)) (_hN0:∀ g,CV.has g→N0≤g)
 (hH:∀ (w1:World) (fv cv:Value),ReadPre w B k BV CV C fs cs w1 fv cv→Calls Tryz.prog f (#[.agg (pkCells { p with fv:=fv,cv:=cv })] ++ cps) w1 fun e w2=>e=.returned (.tuple #[])∧HPost w1 w2)
 (hP:∀ w1 w2 fv cv,ReadPre w B k BV CV C fs cs w1 fv cv→HPost w1 w2→ReadMid N0 ash aw B k CV w1 w2) :
 Calls Tryz.prog 59 #[.pointer (some ⟨B,0,none⟩),.pointer (some ⟨CV.cb,0,none⟩),.slice (some ⟨db,doff,none⟩) l.length dc] w (ReadPost w B k BV CV C fs cs HPost):=by
 have a1:=blk_cell hc.blk (conC_at (k:Int) CV C).2.1
 obtain ⟨qw,hqw⟩:=hWv
 obtain ⟨i0,hi0,hz0,hz1,hz2⟩:=info_parts infoU8
 have HOW:=hide (show w.ownsRow 0 5 1 (.slice qw 0 0) 0 [] by have:=hc.wai;rw [hW,hqw] at this;exact this)
 rw [hqw] at a1
 have HNW:=hide (show ∀ j u,(u8k l)[j]?=some u→w.cell? ((⟨db,doff,none⟩:Addr).add j)=some u from fun j u hu=>by
  rw [add_off]
  simp only [u8k,List.getElem?_map,Option.map_eq_some_iff] at hu
  obtain ⟨x,hx,rfl⟩:=hu
  exact hd j x hx)
 have hul:(u8k l).length=l.length:=by simp [u8k]
 have HUL:=hide hul
 have HQW:=hide hqw
 have H:=hide h
 have HC:=hide hc
 have HG:=hide hG
 have HH:=hide hH
 have HP:=hide hP
 clear h hc hG hH hP hd hqw hul
 go_enter Tryz.func59,Tryz.ntmps59
 go_wp2_with (first | (at_builtin;refine wpList_append_new _ rfl _ _ 45 rfl 5 i0 (.int .u8 0) 1 1 Tryz.underlying45 hi0 hz0 hz1 hz2 rfl (by decide) _ _ _ rfl HOW.out ⟨db,doff,none⟩ l.length dc (by intro q cp e;cases e;omega) hl0 (u8k l) rfl (by rw [HUL.out];omega) HNW.out (by intro u hu;simp only [u8k,List.mem_map] at hu;obtain ⟨x,_,rfl⟩:=hu;rfl) (by unfold maxLen;omega) (by omega) ?_;intro rv w1 how1 hgr1 hloc1) | fail)
 have hB1:Below w.heap.size w w1:=⟨hgr1.os,hgr1.tape,hgr1.output,hgr1.size,fun b hb=>hgr1.block b hb (fun e=>by cases e)⟩
 rw [Nat.zero_add,List.nil_append] at how1
 obtain ⟨qr,kr,rfl⟩:=own_form how1
 obtain ⟨g,rfl,hgl,hgc,hgm,hgcell⟩:=own_at how1 (by omega)
 obtain rfl:g=w.heap.size:=by cases hloc1;rfl
 have HB1:=hide hB1
 have HRV:=hide hgcell
 have G1:=hide (HG.out.below (hB1.mono HG.out.env.size))
 have H1:=hide (H.out.below hB1)
 have HC1:=hide (HC.out.below hB1)
 have a0:=blk_cell (HC.out.below hB1).blk (conC_at (k:Int) CV C).1
 have HBS:=hide hgl
 clear hB1 how1 hgr1 hloc1 hgcell a1 HOW HNW HUL
 rcases (show kr=l.length∨kr≠l.length by omega) with rfl | hcap
 all_goals
  obtain ⟨RR,hRI,hRO,hRE,HBF⟩:=loop_rel (fun g r wx=>g=0∧∃ w1' fv cv off cap,r=.slice (some ⟨w.heap.size,off,none⟩) 0 cap∧cap≤maxLen∧ReadPre w B k BV CV C fs cs w1' fv cv∧HPost w1' wx) hgl hgc hgm HRV.out
  go_loopg [6] 1 (fun g r wx=>RR g r wx)
  case atStart=>exact hRI
  case round =>
   rcases hRE _ _ _ hrel with ⟨rfl,rfl,rfl⟩ | ⟨rfl,w1',fv,cv,off,cap,rfl,hcm,hpre,hpost⟩
   · go_wp2_with fail
     refine (isOpen_any B k BV _ _ wr H1.out.blk hk hv).mono ?_
     rintro e w2 ⟨rfl,hB2⟩
     have hB12:=HB1.out.trans (hB2.mono HB1.out.size)
     have HB2:=hide hB12
     have G2:=hide (G1.out.below (hB2.mono G1.out.env.size))
     have HBV:=hide (HBF.out _ hB2)
     have HSZ:=hide hB2.size
     have H2:=hide (H1.out.below hB2)
     have HC2:=hide (HC1.out.below hB2)
     have cD:=hide (decode_any ash aw w2 l _ (by omega) (Or.inr HBV.out) G2.out.errs G2.out.env')
     rw [hdec] at cD
     clear hB2 hB12 a0
     go_wp2_with fail
     refine cD.out.mono ?_
     rintro e w3 ⟨hB3,fv,cv,rfl,hfv,hcv⟩
     obtain ⟨qf,kf,rfl⟩:=own_form hfv
     obtain ⟨qc,kc,rfl⟩:=own_form hcv
     simp only [pkCells]
     have G3:=hide (G2.out.below (hB3.mono G2.out.env.size))
     have hB23:=HB2.out.trans (hB3.mono HB2.out.size)
     have HB3:=hide hB23
     have H3:=hide (H2.out.below hB3)
     have HC3:=hide (HC2.out.below hB3)
     have HFV:=hide hfv
     have HCV:=hide hcv
     have gs:=G3.out.errs.short
     have hgs:=cell_blt gs
     simp only at hgs
     have hB:=hide hB23.size
     have hls3:w.heap.size < w3.heap.size:=Nat.lt_of_lt_of_le hgl (Nat.le_trans HSZ.out hB3.size)
     clear hB3 hB23 hfv hcv cD HBV
     obtain ⟨PA,hPA⟩:∃ PA:Array Value,PA=#[.int .i64 (K:Int),.bool p.clean,.bool p.will,.int .i64 p.keep,.string (bs p.client),.bool p.present,.int .i64 p.code,.bool p.dup,.int .i64 p.qos,.bool p.retain,.string (bs p.topic),.string (bs p.payload),.int .i64 p.id,.slice qf fs.length kf,.slice qc cs.length kc]:=⟨_,rfl⟩
     have HPA:=hide hPA
     go_wp2_with fail
     refine (is_nil ash _).mono ?_
     rintro e w4 ⟨rfl,hB4⟩
     have hB34:Below w3.heap.size w3 w4:=((Below.refl w3.heap.size w3).alloc (Nat.le_refl _) _).trans (hB4.mono (by simp))
     have hpb:w4.heap[w3.heap.size]?=some (.cells #[.int .i64 (K:Int),.bool p.clean,.bool p.will,.int .i64 p.keep,.string (bs p.client),.bool p.present,.int .i64 p.code,.bool p.dup,.int .i64 p.qos,.bool p.retain,.string (bs p.topic),.string (bs p.payload),.int .i64 p.id,.slice qf fs.length kf,.slice qc cs.length kc] 36):=by rw [hB4.block _ (by simp)];exact heap_alloc_new _ _
     obtain ⟨k0,k1,k2,k3,k4,k5,k6,k7,k8,k9,k10,k11,k12,k13,k14⟩:=cells15 hpb
     have H4:=hide (H3.out.below hB34)
     have HC4:=hide (HC3.out.below hB34)
     have G4:=hide (G3.out.below (hB34.mono G3.out.env.size))
     have HB4:=hide (HB3.out.trans (hB34.mono HB3.out.size))
     have HPB:=hide hpb
     have HFV4:=hide (own_below4 HFV.out hB34)
     have HCV4:=hide (own_below4 HCV.out hB34)
     have b12:w4.cell? ⟨B,12,none⟩=some (.int .i64 BV.clk):=blk_cell H4.out.blk rfl
     have a17:=blk_cell HC4.out.blk (conC_at (k:Int) CV C).2.2.1
     have f17:w4.frozen? ⟨CV.cb,17,none⟩=false:=blk_frozen HC4.out.blk
     have hs34:w3.heap.size < w4.heap.size:=cell_blt k0
     have hltc:=blk_lt HC4.out.blk
     clear hB4 hB34 hpb gs hPA
     have hcc:CV.cb≠w3.heap.size:=by have:=blk_lt HC3.out.blk;omega
     have hset:(w4.setCell ⟨CV.cb,17,none⟩ (.int .i64 BV.clk)).heap[CV.cb]?=some (.cells (conC (k:Int) CV { C with heard:=BV.clk }) 137):=by rw [blk_set _ HC4.out.blk,conC_heard]
     have hoth:∀ g,g≠CV.cb→(w4.setCell ⟨CV.cb,17,none⟩ (.int .i64 BV.clk)).heap[g]?=w4.heap[g]?:=fun g hg=>Below.heap_setCell _ _ _ _ (fun e=>hg e)
     have hneC:∀ g c t,w4.heap[g]?=some (.cells c t)→t≠137→g≠CV.cb:=fun g c t hg ht e=>by subst e;rw [HC4.out.blk] at hg;simp at hg;exact ht hg.2.symm
     have hcon5:ConAt (w4.setCell ⟨CV.cb,17,none⟩ (.int .i64 BV.clk)) B (k:Int) CV { C with heard:=BV.clk }:=⟨hset,own_keep HC4.out.wai (fun b hb=>hoth b (by obtain ⟨cur,hc⟩:=own_blk HC4.out.wai hb;exact hneC _ _ _ hc (by decide))),HC4.out.b1.keep (hoth _ (hneC _ _ _ HC4.out.b1.bx (by decide))) (hoth _ (hneC _ _ _ HC4.out.b1.by_ (by decide))),HC4.out.b2.keep (hoth _ (hneC _ _ _ HC4.out.b2.bx (by decide))) (hoth _ (hneC _ _ _ HC4.out.b2.by_ (by decide)))⟩
     have hblk5:BlkAt (w4.setCell ⟨CV.cb,17,none⟩ (.int .i64 BV.clk)) B BV (.slice none 0 0) []:=⟨(hoth _ (hneC _ _ _ H4.out.blk (by decide))).trans H4.out.blk,OutsAt.nil _⟩
     have hpre:ReadPre w B k BV CV C fs cs (w4.setCell ⟨CV.cb,17,none⟩ (.int .i64 BV.clk)) (.slice qf fs.length kf) (.slice qc cs.length kc):=⟨(But.of_below (F:=fun g=>g=CV.cb) HB4.out).trans (But.set (F:=fun g=>g=CV.cb) w4 ⟨CV.cb,17,none⟩ _ rfl) (fun _ _ h=>h),hcon5,hblk5,own_low (own_keep HFV4.out (fun b hb=>hoth b (by obtain ⟨cur,hc⟩:=own_blk HFV4.out hb;exact hneC _ _ _ hc (by decide)))) (Nat.le_trans HB1.out.size HSZ.out),own_low (own_keep HCV4.out (fun b hb=>hoth b (by obtain ⟨cur,hc⟩:=own_blk HCV4.out hb;exact hneC _ _ _ hc (by decide)))) (Nat.le_trans HB1.out.size HSZ.out),by simp only [World.setCell,Array.size_modify];omega⟩
     have hfn:(w4.setCell ⟨CV.cb,17,none⟩ (.int .i64 BV.clk)).cell? ⟨CV.cb,2+K,none⟩=some (.func (.func f) #[] cps):=blk_cell hset hC
     have hK1:(K:Int) < 15:=by omega
     have HK:=hide hC
     clear hC
     have n0:(w4.setCell ⟨CV.cb,17,none⟩ (.int .i64 BV.clk)).cell? ⟨w3.heap.size,0,none⟩=some (.int .i64 (K:Int)):=by rw [World.cell?_of_block (hoth _ (fun e=>hcc e.symm))];exact k0
     have n1:(w4.setCell ⟨CV.cb,17,none⟩ (.int .i64 BV.clk)).cell? ⟨w3.heap.size,1,none⟩=some (.bool p.clean):=by rw [World.cell?_of_block (hoth _ (fun e=>hcc e.symm))];exact k1
     have n2:(w4.setCell ⟨CV.cb,17,none⟩ (.int .i64 BV.clk)).cell? ⟨w3.heap.size,2,none⟩=some (.bool p.will):=by rw [World.cell?_of_block (hoth _ (fun e=>hcc e.symm))];exact k2
     have n3:(w4.setCell ⟨CV.cb,17,none⟩ (.int .i64 BV.clk)).cell? ⟨w3.heap.size,3,none⟩=some (.int .i64 p.keep):=by rw [World.cell?_of_block (hoth _ (fun e=>hcc e.symm))];exact k3
     have n4:(w4.setCell ⟨CV.cb,17,none⟩ (.int .i64 BV.clk)).cell? ⟨w3.heap.size,4,none⟩=some (.string (bs p.client)):=by rw [World.cell?_of_block (hoth _ (fun e=>hcc e.symm))];exact k4
     have n5:(w4.setCell ⟨CV.cb,17,none⟩ (.int .i64 BV.clk)).cell? ⟨w3.heap.size,5,none⟩=some (.bool p.present):=by rw [World.cell?_of_block (hoth _ (fun e=>hcc e.symm))];exact k5
     have n6:(w4.setCell ⟨CV.cb,17,none⟩ (.int .i64 BV.clk)).cell? ⟨w3.heap.size,6,none⟩=some (.int .i64 p.code):=by rw [World.cell?_of_block (hoth _ (fun e=>hcc e.symm))];exact k6
     have n7:(w4.setCell ⟨CV.cb,17,none⟩ (.int .i64 BV.clk)).cell? ⟨w3.heap.size,7,none⟩=some (.bool p.dup):=by rw [World.cell?_of_block (hoth _ (fun e=>hcc e.symm))];exact k7
     have n8:(w4.setCell ⟨CV.cb,17,none⟩ (.int .i64 BV.clk)).cell? ⟨w3.heap.size,8,none⟩=some (.int .i64 p.qos):=by rw [World.cell?_of_block (hoth _ (fun e=>hcc e.symm))];exact k8
     have n9:(w4.setCell ⟨CV.cb,17,none⟩ (.int .i64 BV.clk)).cell? ⟨w3.heap.size,9,none⟩=some (.bool p.retain):=by rw [World.cell?_of_block (hoth _ (fun e=>hcc e.symm))];exact k9
     have n10:(w4.setCell ⟨CV.cb,17,none⟩ (.int .i64 BV.clk)).cell? ⟨w3.heap.size,10,none⟩=some (.string (bs p.topic)):=by rw [World.cell?_of_block (hoth _ (fun e=>hcc e.symm))];exact k10
     have n11:(w4.setCell ⟨CV.cb,17,none⟩ (.int .i64 BV.clk)).cell? ⟨w3.heap.size,11,none⟩=some (.string (bs p.payload)):=by rw [World.cell?_of_block (hoth _ (fun e=>hcc e.symm))];exact k11
     have n12:(w4.setCell ⟨CV.cb,17,none⟩ (.int .i64 BV.clk)).cell? ⟨w3.heap.size,12,none⟩=some (.int .i64 p.id):=by rw [World.cell?_of_block (hoth _ (fun e=>hcc e.symm))];exact k12
     have n13:(w4.setCell ⟨CV.cb,17,none⟩ (.int .i64 BV.clk)).cell? ⟨w3.heap.size,13,none⟩=some (.slice qf fs.length kf):=by rw [World.cell?_of_block (hoth _ (fun e=>hcc e.symm))];exact k13
     have n14:(w4.setCell ⟨CV.cb,17,none⟩ (.int .i64 BV.clk)).cell? ⟨w3.heap.size,14,none⟩=some (.slice qc cs.length kc):=by rw [World.cell?_of_block (hoth _ (fun e=>hcc e.symm))];exact k14
     have HPRE:=hide hpre
     clear hset hoth hneC hcon5 hblk5 hpre
     go_wp2_with fail
     all_goals
      generalize w4.setCell ⟨CV.cb,17,none⟩ (.int .i64 BV.clk)=w5 at *
      have hpre5:=HPRE.out.drew
      have cH:=hide (HH.out _ _ _ hpre5)
      simp only [pkCells,hkind] at cH
      have HPR5:=hide hpre5
      clear hpre5
      go_region_with (
       refine cH.out.mono ?_
       rintro e w6 ⟨rfl,hpo⟩
       have HPO:=hide hpo
       clear hpo)
      all_goals
       go_wp2_with fail
       go_roundg 0
       case measure=>omega
       case rel=>exact hRO _ _ _ ⟨rfl,_,_,_,_,_,rfl,by unfold maxLen at *;omega,HPR5.out,HPO.out⟩
   · obtain ⟨m1,m2,⟨BV2,ov2,m3,m4⟩,CV2,C2,m5⟩:=HP.out _ _ _ _ hpre hpost
     have hNs:w.heap.size < wr.heap.size:=Nat.lt_of_lt_of_le hpre.lt m2
     have a0:=blk_cell m5 (conC_at (k:Int) CV2 C2).1
     have G1:=hide m1
     have HPRE:=hide hpre
     have HPO:=hide hpost
     have HCB:=hide m5
     clear hpre hpost
     go_wp2_with fail
     refine (isOpen_any B k BV2 _ _ wr m3 hk m4).mono ?_
     rintro e w2 ⟨rfl,hB2⟩
     have G2:=hide (G1.out.below (hB2.mono G1.out.env.size))
     have HB2:=hide hB2
     have cD:=hide (decode_any ash aw w2 [] (.slice (some ⟨w.heap.size,off,none⟩) 0 cap) (by simp) (Or.inr ⟨w.heap.size,off,cap,rfl,Nat.zero_le _,hcm,Nat.lt_of_lt_of_le hNs hB2.size,fun j x hx=>by simp at hx⟩) G2.out.errs G2.out.env')
     have HCB2:=hide ((hB2.block _ (blk_lt m5)).trans m5)
     clear hB2 a0 m3 m5
     go_wp2_with fail
     refine cD.out.mono ?_
     rintro e w3 ⟨hB3,ev,en,rfl,hev⟩
     simp only [if_true] at hev
     simp only [pkCells,zeroP]
     have G3:=hide (G2.out.below (hB3.mono G2.out.env.size))
     have hB23:=HB2.out.trans (hB3.mono HB2.out.size)
     have HB3:=hide hB23
     have HCB3:=hide ((hB3.block _ (blk_lt HCB2.out)).trans HCB2.out)
     have gs:=G3.out.errs.short
     have hgs:=cell_blt gs
     simp only at hgs
     have HEV:=hide hev
     clear hB3 hB23 hev cD
     go_wp2_with fail
     obtain ⟨ca,ta,hash⟩:=G3.out.errs.bsh
     refine (is_any ash ash ca ca ta ta (en+1) ev _ HEV.out (by rw [Below.heap_alloc _ _ _ (blk_lt hash)];exact hash) (by rw [Below.heap_alloc _ _ _ (blk_lt hash)];exact hash)).mono ?_
     rintro e w4 ⟨rfl,hB4⟩
     have hB34:Below w3.heap.size w3 w4:=((Below.refl w3.heap.size w3).alloc (Nat.le_refl _) _).trans (hB4.mono (by simp))
     have HB4:=hide (HB3.out.trans (hB34.mono HB3.out.size))
     have HCB4:=hide ((hB34.block _ (blk_lt HCB3.out)).trans HCB3.out)
     clear hash hB4 hB34 gs
     simp only [decide_true]
     go_wp2_with fail
     refine (clone_none _ _ _).mono ?_
     rintro e w5 ⟨qv,rfl,hB5,hv5⟩
     have hB:=HB4.out.trans (hB5.mono HB4.out.size)
     have HB5:=hide hB
     have hcb5:=(hB5.block _ (blk_lt HCB4.out)).trans HCB4.out
     have a1:=blk_cell hcb5 (conC_at (k:Int) CV2 C2).2.1
     have f1:w5.frozen? ⟨CV.cb,1,none⟩=false:=blk_frozen hcb5
     have HV5:=hide (own_low hv5 (Nat.le_trans HB4.out.size (Nat.le_refl _)))
     clear hB hB5 hv5 hcb5
     go_wp2_with fail
     refine bodyPost_ret (v:=.tuple #[]) (by simp [results,Tryz.results59]) rfl ?_
     exact ⟨rfl,w1',fv,cv,wr,w5,.slice qv 0 0,HPRE.out,HPO.out,HB5.out,HV5.out,⟨qv,rfl⟩,rfl⟩
theorem call_beforeConnect1 (args:Array Value) (w:World):(callFunc 89 args).run Tryz.prog w=.ok (.enter 89 args) w:=by
 simp [callFunc,go_sem,Tryz.func89]
 kernel_rfl
theorem call_once1 (args:Array Value) (w:World):(callFunc 156 args).run Tryz.prog w=.ok (.enter 156 args) w:=by
 simp [callFunc,go_sem,Tryz.func156]
 kernel_rfl
theorem call_once2 (args:Array Value) (w:World):(callFunc 158 args).run Tryz.prog w=.ok (.enter 158 args) w:=by
 simp [callFunc,go_sem,Tryz.func158]
 kernel_rfl
theorem call_once3 (args:Array Value) (w:World):(callFunc 160 args).run Tryz.prog w=.ok (.enter 160 args) w:=by
 simp [callFunc,go_sem,Tryz.func160]
 kernel_rfl
theorem call_once4 (args:Array Value) (w:World):(callFunc 162 args).run Tryz.prog w=.ok (.enter 162 args) w:=by
 simp [callFunc,go_sem,Tryz.func162]
 kernel_rfl
theorem call_once5 (args:Array Value) (w:World):(callFunc 164 args).run Tryz.prog w=.ok (.enter 164 args) w:=by
 simp [callFunc,go_sem,Tryz.func164]
 kernel_rfl
theorem call_once6 (args:Array Value) (w:World):(callFunc 166 args).run Tryz.prog w=.ok (.enter 166 args) w:=by
 simp [callFunc,go_sem,Tryz.func166]
 kernel_rfl
theorem read_conn {N0:Nat} {ash aw:Addr} (B k:Nat) (BV:BrV) (CV:ConV) (C:Con) (p:Pkt) (fs:List (List UInt8×Int)) (cs:List Int) (l:List UInt8) (db doff dc:Nat) (w:World) (HPost:World→World→Prop) (hG:Gd N0 ash aw w) (h:BlkAt w B BV (.slice none 0 0) []) (hc:ConAt w B (k:Int) CV C) (hW:C.waiting = []) (hWv:∃ q,CV.wv=.slice q 0 0) (hC:C.hello=none) (hk:k < 8) (hv:BV.cv k=.pointer (some ⟨CV.cb,0,none⟩)) (hl0:0 < l.length) (hl:l.length≤1000000)
 (hd:∀ j x,l[j]?=some x→w.cell? ⟨db,doff+j,none⟩=some (.int .u8 (x.toNat:Int))) (hdec:decL l=.inr ((p,fs,cs),l.length)) (hkind:p.kind=1) (_hN0:∀ g,CV.has g→N0≤g)
 (hH:∀ (w1:World) (fv cv:Value),ReadPre w B k BV CV C fs cs w1 fv cv→Calls Tryz.prog 89 #[.agg (pkCells { p with fv:=fv,cv:=cv }),.pointer (some ⟨CV.x',0,none⟩),.pointer (some ⟨CV.y',0,none⟩)] w1 fun e w2=>e=.returned (.tuple #[])∧HPost w1 w2)
 (hP:∀ w1 w2 fv cv,ReadPre w B k BV CV C fs cs w1 fv cv→HPost w1 w2→ReadMid N0 ash aw B k CV w1 w2) :
 Calls Tryz.prog 59 #[.pointer (some ⟨B,0,none⟩),.pointer (some ⟨CV.cb,0,none⟩),.slice (some ⟨db,doff,none⟩) l.length dc] w (ReadPost w B k BV CV C fs cs HPost):=
 read_gen 1 89 #[.pointer (some ⟨CV.x',0,none⟩),.pointer (some ⟨CV.y',0,none⟩)] (by decide) (fun args w=>call_beforeConnect1 args w) B k BV CV C p fs cs l db doff dc w HPost hG h hc hW hWv (conC_bef _ _ _ hC) hk hv hl0 hl hd hdec hkind _hN0 (fun w1 fv cv hpre=>hH w1 fv cv hpre) hP
theorem read_pub {N0:Nat} {ash aw:Addr} (B k:Nat) (BV:BrV) (CV:ConV) (C:Con) (p:Pkt) (fs:List (List UInt8×Int)) (cs:List Int) (l:List UInt8) (db doff dc:Nat) (w:World) (HPost:World→World→Prop) (hG:Gd N0 ash aw w) (h:BlkAt w B BV (.slice none 0 0) []) (hc:ConAt w B (k:Int) CV C) (hW:C.waiting = []) (hWv:∃ q,CV.wv=.slice q 0 0) (hC:∃ q,C.hello=some q) (hk:k < 8) (hv:BV.cv k=.pointer (some ⟨CV.cb,0,none⟩)) (hl0:0 < l.length) (hl:l.length≤1000000)
 (hd:∀ j x,l[j]?=some x→w.cell? ⟨db,doff+j,none⟩=some (.int .u8 (x.toNat:Int))) (hdec:decL l=.inr ((p,fs,cs),l.length)) (hkind:p.kind=3) (_hN0:∀ g,CV.has g→N0≤g)
 (hH:∀ (w1:World) (fv cv:Value),ReadPre w B k BV CV C fs cs w1 fv cv→Calls Tryz.prog 156 #[.agg (pkCells { p with fv:=fv,cv:=cv }),.pointer (some ⟨CV.x',0,none⟩),.pointer (some ⟨CV.y',0,none⟩)] w1 fun e w2=>e=.returned (.tuple #[])∧HPost w1 w2)
 (hP:∀ w1 w2 fv cv,ReadPre w B k BV CV C fs cs w1 fv cv→HPost w1 w2→ReadMid N0 ash aw B k CV w1 w2) :
 Calls Tryz.prog 59 #[.pointer (some ⟨B,0,none⟩),.pointer (some ⟨CV.cb,0,none⟩),.slice (some ⟨db,doff,none⟩) l.length dc] w (ReadPost w B k BV CV C fs cs HPost):=
 read_gen 3 156 #[.pointer (some ⟨CV.x',0,none⟩),.pointer (some ⟨CV.y',0,none⟩)] (by decide) (fun args w=>call_once1 args w) B k BV CV C p fs cs l db doff dc w HPost hG h hc hW hWv (conC_pub _ _ _ hC) hk hv hl0 hl hd hdec hkind _hN0 (fun w1 fv cv hpre=>hH w1 fv cv hpre) hP
theorem read_sub {N0:Nat} {ash aw:Addr} (B k:Nat) (BV:BrV) (CV:ConV) (C:Con) (p:Pkt) (fs:List (List UInt8×Int)) (cs:List Int) (l:List UInt8) (db doff dc:Nat) (w:World) (HPost:World→World→Prop) (hG:Gd N0 ash aw w) (h:BlkAt w B BV (.slice none 0 0) []) (hc:ConAt w B (k:Int) CV C) (hW:C.waiting = []) (hWv:∃ q,CV.wv=.slice q 0 0) (hC:∃ q,C.hello=some q) (hk:k < 8) (hv:BV.cv k=.pointer (some ⟨CV.cb,0,none⟩)) (hl0:0 < l.length) (hl:l.length≤1000000)
 (hd:∀ j x,l[j]?=some x→w.cell? ⟨db,doff+j,none⟩=some (.int .u8 (x.toNat:Int))) (hdec:decL l=.inr ((p,fs,cs),l.length)) (hkind:p.kind=8) (_hN0:∀ g,CV.has g→N0≤g)
 (hH:∀ (w1:World) (fv cv:Value),ReadPre w B k BV CV C fs cs w1 fv cv→Calls Tryz.prog 166 #[.agg (pkCells { p with fv:=fv,cv:=cv }),.pointer (some ⟨CV.x',0,none⟩),.pointer (some ⟨CV.y',0,none⟩)] w1 fun e w2=>e=.returned (.tuple #[])∧HPost w1 w2)
 (hP:∀ w1 w2 fv cv,ReadPre w B k BV CV C fs cs w1 fv cv→HPost w1 w2→ReadMid N0 ash aw B k CV w1 w2) :
 Calls Tryz.prog 59 #[.pointer (some ⟨B,0,none⟩),.pointer (some ⟨CV.cb,0,none⟩),.slice (some ⟨db,doff,none⟩) l.length dc] w (ReadPost w B k BV CV C fs cs HPost):=
 read_gen 8 166 #[.pointer (some ⟨CV.x',0,none⟩),.pointer (some ⟨CV.y',0,none⟩)] (by decide) (fun args w=>call_once6 args w) B k BV CV C p fs cs l db doff dc w HPost hG h hc hW hWv (conC_sub _ _ _ hC) hk hv hl0 hl hd hdec hkind _hN0 (fun w1 fv cv hpre=>hH w1 fv cv hpre) hP
theorem conC_ack (n:Int) (V:ConV) (C:Con) (h:∃ q,C.hello=some q):(conC n V C)[2+4]?=some (.func (.func 158) #[] #[.pointer (some ⟨V.y',0,none⟩)]):=by
 obtain ⟨wt,hd,hl⟩:=C
 obtain ⟨q,h⟩:=h
 simp only at h
 subst h
 kernel_rfl
theorem conC_rec (n:Int) (V:ConV) (C:Con) (h:∃ q,C.hello=some q):(conC n V C)[2+5]?=some (.func (.func 160) #[] #[.pointer (some ⟨V.y',0,none⟩)]):=by
 obtain ⟨wt,hd,hl⟩:=C
 obtain ⟨q,h⟩:=h
 simp only at h
 subst h
 kernel_rfl
theorem conC_rel (n:Int) (V:ConV) (C:Con) (h:∃ q,C.hello=some q):(conC n V C)[2+6]?=some (.func (.func 162) #[] #[.pointer (some ⟨V.x',0,none⟩),.pointer (some ⟨V.y',0,none⟩)]):=by
 obtain ⟨wt,hd,hl⟩:=C
 obtain ⟨q,h⟩:=h
 simp only at h
 subst h
 kernel_rfl
theorem conC_comp (n:Int) (V:ConV) (C:Con) (h:∃ q,C.hello=some q):(conC n V C)[2+7]?=some (.func (.func 164) #[] #[.pointer (some ⟨V.y',0,none⟩)]):=by
 obtain ⟨wt,hd,hl⟩:=C
 obtain ⟨q,h⟩:=h
 simp only at h
 subst h
 kernel_rfl
end br
end Go.Proofs.YtnmfmoimjkoieaaGreatDoor
