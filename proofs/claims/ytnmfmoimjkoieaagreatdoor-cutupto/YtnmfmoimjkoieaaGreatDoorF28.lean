import Derived.Test.YtnmfmoimjkoieaaGreatDoorF24
import Derived.Deep.RegionLawGrows
namespace Go.Proofs.YtnmfmoimjkoieaaGreatDoor
namespace br
open Go.RowKit topPlain topWalks decPlain
theorem infoUw:(Tryz.prog.info? 252).map (fun i=>(i.zero,i.size,i.bytes))=some (some (.agg #[.int .i64 0,.int .i64 0,.bool false,.string ByteArray.empty,.string ByteArray.empty,.int .i64 0,.bool false]),7,72):=by kernel_rfl
def beginS (S:Ses) (m:Msg):Ses:={ S with last:=nextS S.last S.under,under:=S.under ++ [⟨nextS S.last S.under,m.qos,false,m⟩] }
theorem SesAt.addUw {w w1:World} {sb:Nat} {V:SesV} {S:Ses} {uv':Value} {l':List Uw} (h:SesAt w sb V S) (hB:w.grownBy w1 V.uv.ownBlock) (ho:w1.ownsRow 0 252 7 uv' l'.length (l'.flatMap uwC)) :
 SesAt (w1.setCell ⟨sb,5,none⟩ uv') sb { V with uv:=uv' } { S with under:=l' }:=by
 obtain ⟨n1,n2,n3,n4,_,n6,n7⟩:=h.own_ne
 have hk1:∀ b,V.has sb b→V.uv.ownBlock≠some b→w1.heap[b]?=w.heap[b]?:=fun b hb hn=>hB.block b (h.lt hb) (fun e=>hn e.symm)
 have hk2:∀ b,b≠sb→(w1.setCell ⟨sb,5,none⟩ uv').heap[b]?=w1.heap[b]?:=fun b hb=>Below.heap_setCell _ _ _ _ (fun e=>hb e)
 have hblk:=(hk1 sb (Or.inl rfl) n2).trans h.blk
 refine ⟨by rw [blk_set _ hblk];rfl,own_keep h.fil (fun b hb=>?_),own_keep ho (fun b hb=>hk2 b (fun e=>?_)),?_,?_⟩
 · exact (hk2 b (fun e=>n1 (e ▸ hb))).trans (hk1 b (Or.inr (Or.inl hb)) (n6 b hb).1)
 · obtain ⟨cur,hc⟩:=own_blk ho hb;rw [e,hblk] at hc;simp at hc
 · obtain ⟨D,⟨es,clock,hb,j1,j2,j3⟩,j4⟩:=h.kno
   exact ⟨D,⟨es,clock,((hk2 _ n3).trans (hk1 _ (Or.inr (Or.inr (Or.inl rfl))) (fun e=>(n7 _ e).1 rfl))).trans hb,j1,j2,j3⟩,j4⟩
 · obtain ⟨s,r,hb⟩:=h.chn
   exact ⟨s,r,((hk2 _ n4).trans (hk1 _ (Or.inr (Or.inr (Or.inr (Or.inl rfl)))) (fun e=>(n7 _ e).2 rfl))).trans hb⟩
set_option maxHeartbeats 800000 in
/-- all behind the append -/
theorem begin_end {N0:Nat} (sb B cb:Nat) (n idn:Int) (m:Msg) (d:List UInt8) (V:SesV) (S S2:Ses) (BV:BrV) (ov:Value) (L:List (OutS×Value)) (w w2 w8:World) (hs:SesAt w sb V S) (h:BlkAt w B BV ov L) (hE:EncOK N0 w (pktS m idn) d) (hV:∀ b,V.has sb b→N0≤b) (hS:SinkO w B cb n V.snd) (hL:L.length < 1000000000000)
 (hs2:SesAt w2 sb V { S with last:=idn }) (hF2:But (fun b=>b=sb) w w2) (hls:w.heap.size < w2.heap.size) (p0:w2.cell? ⟨w.heap.size,0,none⟩=some (.string (bs m.topic))) (p1:w2.cell? ⟨w.heap.size,1,none⟩=some (.string (bs m.payload))) (p2:w2.cell? ⟨w.heap.size,2,none⟩=some (.int .i64 m.qos)) (p3:w2.cell? ⟨w.heap.size,3,none⟩=some (.bool m.retain))
 (hg:w2.grownBy w8 V.uv.ownBlock) (hbm:w8.heap[w.heap.size]?=w2.heap[w.heap.size]?) (q':Option Addr) (cap':Nat) (how:w8.ownsRow 0 252 7 (.slice q' (S.under.length+1) cap') (S.under.length+1) (S.under.flatMap uwC ++ [.int .i64 idn,.int .i64 m.qos,.bool false,.string (bs m.topic),.string (bs m.payload),.int .i64 m.qos,.bool m.retain]))
 (hloc:(Value.slice q' (S.under.length+1) cap').ownBlock=V.uv.ownBlock∨∃ b,(Value.slice q' (S.under.length+1) cap').ownBlock=some b∧w2.heap.size≤b) (hS2:S2 = { S with last:=idn,under:=S.under ++ [⟨idn,m.qos,false,m⟩] })
 (u1 u2 u4 u5 u6 u7 u8 u9 u10 u11 u12 u13 u14 u15 u16 u17 u18 u19 u20 u21 u22 u23 u24 u25 u26 u27 u28 u29 u30 u31 u32 u33:Value) :
 Code.wp Tryz.prog (dropS 3 (Tryz.f197.body.getD .skip)) (bodyPost Tryz.prog Tryz.f197 fun e w'=>e=.returned (.tuple #[])∧Wrote (V.has sb) w B BV ov L (outTo n V.snd [d]) w'∧∃ uv',SesAt w' sb { V with uv:=uv' } S2∧(uv'.ownBlock=V.uv.ownBlock∨∃ b,uv'.ownBlock=some b∧w.heap.size≤b)) ⟨#[.pointer (some ⟨sb,0,none⟩),u1,u2,.pointer (some ⟨w.heap.size,0,none⟩),u4,u5,u6,u7,u8,u9,u10,u11,u12,u13,u14,u15,u16,u17,u18,u19,u20,u21,u22,u23,u24,u25,u26,u27,u28,u29,u30,u31,u32,u33],[]⟩ (w8.setCell ⟨sb,5,none⟩ (.slice q' (S.under.length+1) cap')):=by
 have hsz:=hF2.size
 have hu9:SesAt (w8.setCell ⟨sb,5,none⟩ (.slice q' (S.under.length+1) cap')) sb { V with uv:=.slice q' (S.under.length+1) cap' } S2:=by
  have:=hs2.addUw (uv':=.slice q' (S.under.length+1) cap') (l':=S.under ++ [⟨idn,m.qos,false,m⟩]) hg (by simpa [uwC] using how)
  rw [hS2];exact this
 have hb9:But (V.has sb) w (w8.setCell ⟨sb,5,none⟩ (.slice q' (S.under.length+1) cap')):=
  (hF2.wide (fun _ _ e=>Or.inl e)).trans ((But.of_grown (F:=V.has sb) hg (fun b hb=>Or.inr (Or.inr (Or.inr (Or.inr hb))))).trans (But.set _ ⟨sb,5,none⟩ _ (Or.inl rfl)) (fun _ _ h=>h)) (fun _ _ h=>h)
 have hne:w.heap.size≠sb:=by have:=blk_lt hs.blk;omega
 have hkm:(w8.setCell ⟨sb,5,none⟩ (.slice q' (S.under.length+1) cap')).heap[w.heap.size]?=w2.heap[w.heap.size]?:=(Below.heap_setCell _ _ _ _ (fun e=>hne e)).trans hbm
 have hblk:BlkAt (w8.setCell ⟨sb,5,none⟩ (.slice q' (S.under.length+1) cap')) B BV ov L:=
  h.but hb9 (hs.clear h)
 refine begin_tail (N0:=N0) sb B cb w.heap.size n idn m d { V with uv:=.slice q' (S.under.length+1) cap' } S2 BV ov L _ _ ?_ hu9 hblk ?_ hL (by rw [hS2]) ?_ ?_ ?_ ?_ ?_ ?_ _ _ _ _ _ _ _ _ _ _ _ _ _ _ _ _ _ _ _ _ _ _ _ _ _ _ _ _ _ _ _ _
 · exact hE.but hb9 hV
 · exact hS.but hb9 (fun x y k=>⟨(k.free hs).1,(k.free hs).2.1,(k.free hs).2.2⟩)
 · rw [World.cell?_of_block (w:=w2) hkm];exact p0
 · rw [World.cell?_of_block (w:=w2) hkm];exact p1
 · rw [World.cell?_of_block (w:=w2) hkm];exact p2
 · rw [World.cell?_of_block (w:=w2) hkm];exact p3
 · rintro (e | e)
   · have:=blk_lt h.blk;omega
   · obtain ⟨cur,hc⟩:=own_blk h.out.row e;have:=blk_lt hc;omega
 · rintro w' ⟨ov',M,k1,k2,k3,k4,k5⟩
   have hs9:=hb9.size
   refine ⟨rfl,⟨ov',M,k1,k2,(hb9.wide (fun _ _ f=>Or.inl f)).trans k3 (fun b _ f=>f.imp (fun g=>g.elim) id),k4.imp id (fun ⟨b,e1,e2⟩=>⟨b,e1,Nat.le_trans hs9 e2⟩),fun o ho b hb=>Nat.le_trans hs9 (k5 o ho b hb)⟩,.slice q' (S.under.length+1) cap',?_,?_⟩
   · exact hu9.but k3 (fun b hb f=>f.elim id (fun g=>hu9.apart hblk hb g))
   · exact hloc.imp id (fun ⟨b,e1,e2⟩=>⟨b,e1,by omega⟩)
set_option maxHeartbeats 1600000 in
set_option maxRecDepth 100000 in
theorem begin_any {N0:Nat} (sb B cb:Nat) (n:Int) (m:Msg) (d:List UInt8) (V:SesV) (S:Ses) (BV:BrV) (ov:Value) (L:List (OutS×Value)) (w:World) (hE:EncOK N0 w (pktS m (nextS S.last S.under)) d) (hV:∀ b,V.has sb b→N0≤b) (hs:SesAt w sb V S) (h:BlkAt w B BV ov L) (hS:SinkO w B cb n V.snd) (hL:L.length < 1000000000000) (h0:0≤S.last) (hl:S.under.length < 65000) :
 Calls Tryz.prog 197 #[.pointer (some ⟨sb,0,none⟩),msgV m] w fun e w'=>e=.returned (.tuple #[])∧Wrote (V.has sb) w B BV ov L (outTo n V.snd [d]) w'∧∃ uv',SesAt w' sb { V with uv:=uv' } (beginS S m)∧(uv'.ownBlock=V.uv.ownBlock∨∃ b,uv'.ownBlock=some b∧w.heap.size≤b):=by
 have H:=hide h
 have HS:=hide hs
 have HE:=hide hE
 have c5:w.cell? ⟨sb,5,none⟩=some V.uv:=blk_cell hs.blk rfl
 have c6:w.cell? ⟨sb,6,none⟩=some (.int .i64 S.last):=blk_cell hs.blk rfl
 have hlt:=blk_lt hs.blk
 have cN:=hide fun w' (hb:Below w.heap.size w w')=>nextId_any sb V.uv S.under S.last w' (blk_cell (hs.below hb).blk rfl) (blk_cell (hs.below hb).blk rfl) (hs.below hb).und h0 hl
 have HB:=hide fun o=>(Below.refl w.heap.size w).alloc (Nat.le_refl _) o
 clear hs h hE
 unfold msgV
 go_enter Tryz.func197,Tryz.ntmps197
 go_wp2_with fail
 refine (cN.out _ (HB.out _)).mono ?_
 rintro e w1 ⟨rfl,hB1⟩
 obtain ⟨i0,hi0,hz0,hz1,hz2⟩:=info_parts infoUw
 have hBw:=(HB.out (.cells #[.string (bs m.topic),.string (bs m.payload),.int .i64 m.qos,.bool m.retain] 206)).trans (hB1.mono (by simp))
 have p0:w1.cell? ⟨w.heap.size,0,none⟩=some (.string (bs m.topic)):=by rw [hB1.cell (by simp)];exact cell_new _ _ _ rfl
 have p1:w1.cell? ⟨w.heap.size,1,none⟩=some (.string (bs m.payload)):=by rw [hB1.cell (by simp)];exact cell_new _ _ _ rfl
 have p2:w1.cell? ⟨w.heap.size,2,none⟩=some (.int .i64 m.qos):=by rw [hB1.cell (by simp)];exact cell_new _ _ _ rfl
 have p3:w1.cell? ⟨w.heap.size,3,none⟩=some (.bool m.retain):=by rw [hB1.cell (by simp)];exact cell_new _ _ _ rfl
 have c6':w1.cell? ⟨sb,6,none⟩=some (.int .i64 S.last):=by rw [hBw.cell hlt];exact c6
 have f6':w1.frozen? ⟨sb,6,none⟩=false:=blk_frozen (HS.out.below hBw).blk
 have hlt1:w.heap.size < w1.heap.size:=cell_blt p0
 have HBW:=hide hBw
 clear hB1 hBw c5 c6
 go_wp2_with fail
 have HS2:=hide ((HS.out.below HBW.out).set (V':=V) (S':={ S with last:=nextS S.last S.under }) 6 (.int .i64 (nextS S.last S.under)) rfl rfl rfl rfl rfl rfl rfl rfl rfl rfl)
 have HF2:=hide ((But.of_below (F:=fun b=>b=sb) HBW.out).trans (But.set (F:=fun b=>b=sb) w1 ⟨sb,6,none⟩ (.int .i64 (nextS S.last S.under)) rfl) (fun _ _ h=>h))
 have hne:w.heap.size≠sb:=by omega
 have hkp:∀ i,(w1.setCell ⟨sb,6,none⟩ (.int .i64 (nextS S.last S.under))).cell? ⟨w.heap.size,i,none⟩=w1.cell? ⟨w.heap.size,i,none⟩:=fun i=>World.cell?_of_block (Below.heap_setCell _ _ _ _ (fun e=>hne e))
 rw [← hkp] at p0 p1 p2 p3
 have hsz2:(w1.setCell ⟨sb,6,none⟩ (.int .i64 (nextS S.last S.under))).heap.size=w1.heap.size:=by simp [World.setCell]
 have HID:Hid (beginS S m = { S with last:=nextS S.last S.under,under:=S.under ++ [⟨nextS S.last S.under,m.qos,false,m⟩] }):=rfl
 clear hkp c6' f6'
 generalize nextS S.last S.under=idn at *
 generalize w1.setCell ⟨sb,6,none⟩ (.int .i64 idn)=w2 at *
 have c5':w2.cell? ⟨sb,5,none⟩=some V.uv:=blk_cell HS2.out.blk rfl
 have f5':w2.frozen? ⟨sb,5,none⟩=false:=blk_frozen HS2.out.blk
 have c6':w2.cell? ⟨sb,6,none⟩=some (.int .i64 idn):=blk_cell HS2.out.blk rfl
 obtain ⟨q,cap,hq⟩:=own_form HS2.out.und
 simp only at hq
 rw [hq] at c5'
 have HQ:=hide hq
 have HQB:=hide (congrArg Value.ownBlock hq)
 have hlt2:sb < w2.heap.size:=cell_blt c5'
 have HROW:=hide (show w2.ownsRow 0 252 7 (.slice q S.under.length cap) S.under.length (S.under.flatMap uwC) by rw [← hq];exact HS2.out.und)
 clear hq
 have HNW:=hide (news_new w2 #[.int .i64 idn,.int .i64 m.qos,.bool false,.string (bs m.topic),.string (bs m.payload),.int .i64 m.qos,.bool m.retain] 252)
 have hA:=fun o=>alloc_cell c5' o
 have hA6:=fun o=>alloc_cell c6' o
 have hP0:=fun o=>alloc_cell p0 o
 have hP1:=fun o=>alloc_cell p1 o
 have hP2:=fun o=>alloc_cell p2 o
 have hP3:=fun o=>alloc_cell p3 o
 have hne2:(Value.slice q S.under.length cap).ownBlock≠some sb:=by rw [← HQ.out];exact HS.out.own_ne.2.1
 have HNE:=hide hne2
 have hnm:(Value.slice q S.under.length cap).ownBlock≠some w.heap.size:=fun e=>by
  rw [← HQ.out] at e
  have:=HS.out.lt (Or.inr (Or.inr (Or.inr (Or.inr e))))
  omega
 have HNM:=hide hnm
 have HP0:=hide p0
 have HP1:=hide p1
 have HP2:=hide p2
 have HP3:=hide p3
 clear hnm
 clear hne2
 have hls:w.heap.size < w2.heap.size:=by omega
 clear hsz2 hlt1
 rename_i aK
 have HK:=hide aK
 clear aK
 go_region_law (
  refine step_append_at rfl (.tmp 13) (.tmp 22) 186 rfl 0 252 i0 (.agg #[.int .i64 0,.int .i64 0,.bool false,.string ByteArray.empty,.string ByteArray.empty,.int .i64 0,.bool false]) 7 72 Tryz.underlying186 hi0 hz0 hz1 hz2 rfl (by decide) (.slice q S.under.length cap) S.under.length (S.under.flatMap uwC) ?s1 ?s2 ⟨w2.heap.size,0,none⟩ 1 1 [.int .i64 idn,.int .i64 m.qos,.bool false,.string (bs m.topic),.string (bs m.payload),.int .i64 m.qos,.bool m.retain] ?s3 rfl ?s4 ?s5 ?s6 ?s7 ?s8 ?_
  case s1=>simp [Act.eval]
  case s3=>simp [Act.eval]
  case s2=>exact HROW.out.alloc _
  case s4=>exact HNW.out
  case s5=>intro u hu;simp at hu;rcases hu with rfl | rfl | rfl | rfl | rfl | rfl | rfl<;>rfl
  case s6=>unfold maxLen;omega
  case s7=>omega
  case s8=>exact Nat.zero_le _
  intro v' w8 hown' hgrow hloc
  obtain ⟨q',cap',rfl⟩:=own_form hown'
  have hg8:(w2.alloc (.cells #[.int .i64 idn,.int .i64 m.qos,.bool false,.string (bs m.topic),.string (bs m.payload),.int .i64 m.qos,.bool m.retain] 252)).grownBy w8 (Value.slice q S.under.length cap).ownBlock:=⟨hgrow.os,hgrow.tape,hgrow.output,hgrow.size,hgrow.block⟩
  have HG:=hide hg8
  have hbk:w8.heap[sb]?=w2.heap[sb]?:=(hg8.block sb (by simp;omega) (fun e=>HNE.out e.symm)).trans (Below.heap_alloc _ _ _ hlt2)
  have c8:w8.cell? ⟨sb,5,none⟩=some (.slice q S.under.length cap):=by rw [World.cell?_of_block (w:=w2) hbk];exact c5'
  have f8:w8.frozen? ⟨sb,5,none⟩=false:=by rw [World.frozen?_of_block (w:=w2) hbk];exact f5'
  have HOW:=hide hown'
  have HLOC:=hide hloc
  have hbm:w8.heap[w.heap.size]?=w2.heap[w.heap.size]?:=(hg8.block w.heap.size (by simp;omega) (fun e=>HNM.out e.symm)).trans (Below.heap_alloc _ _ _ hls)
  have HBM:=hide hbm
  clear c5' f5' c6' p0 p1 p2 p3 hbm hA hA6 hP0 hP1 hP2 hP3 HNW hgrow hg8 hown' hloc hbk)
 all_goals
  go_wp2_with fail
  refine HK.out _ _ ?_
  have hg:w2.grownBy w8 V.uv.ownBlock:=⟨HG.out.os,HG.out.tape,HG.out.output,Nat.le_trans (by simp) HG.out.size,fun k hk hne=>(HG.out.block k (by simp;omega) (by rw [← HQB.out];exact hne)).trans (Below.heap_alloc _ _ _ hk)⟩
  exact begin_end sb B cb n idn m d V S (beginS S m) BV ov L w w2 w8 HS.out H.out HE.out hV hS hL HS2.out HF2.out hls HP0.out HP1.out HP2.out HP3.out hg HBM.out q' cap' HOW.out (HLOC.out.imp (fun h=>h.trans HQB.out.symm) (fun h=>⟨_,h,by simp⟩)) HID.out _ _ _ _ _ _ _ _ _ _ _ _ _ _ _ _ _ _ _ _ _ _ _ _ _ _ _ _ _ _ _ _
theorem Wrote.after {F:Nat→Prop} {w w1 w':World} {B:Nat} {BV:BrV} {ov:Value} {L:List (OutS×Value)} {ms:List OutS} (hB:Below w.heap.size w w1) (h:Wrote F w1 B BV ov L ms w'):Wrote F w B BV ov L ms w':=by
 obtain ⟨ov',M,h1,h2,h3,h4,h5⟩:=h
 exact ⟨ov',M,h1,h2,(But.of_below hB).trans h3 (fun _ _ h=>h),h4.imp id (fun ⟨b,e,hb⟩=>⟨b,e,Nat.le_trans hB.size hb⟩),fun o ho b hb=>Nat.le_trans hB.size (h5 o ho b hb)⟩
theorem Wrote.wide {F G:Nat→Prop} {w w':World} {B:Nat} {BV:BrV} {ov:Value} {L:List (OutS×Value)} {ms:List OutS} (h:Wrote F w B BV ov L ms w') (hFG:∀ b,F b→G b):Wrote G w B BV ov L ms w':=by
 obtain ⟨ov',M,h1,h2,h3,h4,h5⟩:=h
 exact ⟨ov',M,h1,h2,h3.wide (fun _ _ h=>h.imp (hFG _) id),h4,h5⟩
def tellS (on:Bool) (S:Ses) (m:Msg):Ses:=if m.qos=0 then S else if on && decide ((S.under.length:Int) < S.window) then beginS S m else waitS S m
def tellId (S:Ses) (m:Msg):Int:=if m.qos=0 then 0 else nextS S.last S.under
def tellO (n:Int) (snd:Option (Nat×Nat)) (S:Ses) (m:Msg) (d:List UInt8):List OutS:=if m.qos=0 then outTo n snd [d] else if snd.isSome && decide ((S.under.length:Int) < S.window) then outTo n snd [d] else []
set_option maxHeartbeats 800000 in
set_option maxRecDepth 100000 in
theorem tell_any {N0:Nat} (sb B cb:Nat) (n:Int) (m:Msg) (d:List UInt8) (V:SesV) (S:Ses) (BV:BrV) (ov:Value) (L:List (OutS×Value)) (w:World) (hE:EncOK N0 w (pktS m (tellId S m)) d) (hV:∀ b,V.has sb b→N0≤b) (hs:SesAt w sb V S) (h:BlkAt w B BV ov L) (hS:SinkO w B cb n V.snd) (hL:L.length < 1000000000000) (h0:0≤S.last) (hl:S.under.length < 65000) :
 Calls Tryz.prog 145 #[.pointer (some ⟨sb,0,none⟩),msgV m] w fun e w'=>e=.returned (.tuple #[])∧Wrote (V.has sb) w B BV ov L (tellO n V.snd S m d) w'∧∃ uv',SesAt w' sb { V with uv:=uv' } (tellS V.snd.isSome S m)∧(uv'.ownBlock=V.uv.ownBlock∨∃ b,uv'.ownBlock=some b∧w.heap.size≤b):=by
 have H:=hide h
 have HS:=hide hs
 have HE:=hide hE
 have HK:=hide hS
 have hlt:=blk_lt hs.blk
 have HB:=hide fun o=>(Below.refl w.heap.size w).alloc (Nat.le_refl _) o
 have cP:=hide fun w=>packet_any m 0 w
 have cM:=hide fun w' (hb:Below w.heap.size w w')=>mayGo_any sb V S w' (hs.below hb)
 clear hs h hE hS
 by_cases hq:m.qos=0
 · have e1:tellS V.snd.isSome S m=S:=by simp [tellS,hq]
   have e2:tellO n V.snd S m d=outTo n V.snd [d]:=by simp [tellO,hq]
   have e3:tellId S m=0:=by simp [tellId,hq]
   rw [e1,e2]
   rw [e3] at HE
   clear e1 e2 e3
   rw [hq] at cP
   unfold msgV
   go_enter Tryz.func145,Tryz.ntmps145
   go_wp2_with fail
   refine (cP.out _).mono ?_
   rintro e w1 ⟨rfl,hB1⟩
   have hA:=HB.out (.cells #[.string (bs m.topic),.string (bs m.payload),.int .i64 0,.bool m.retain] 206)
   have hBw:Below w.heap.size w w1:=hA.trans (hB1.mono hA.size)
   have HBW:=hide hBw
   clear hA hB1 hBw
   go_wp2_with fail
   refine (swrite_any sb B cb n (pktS m 0) d V S BV ov L w1 (HE.out.below HBW.out) (HS.out.below HBW.out) (H.out.below HBW.out) (HK.out.below HBW.out) hL).mono ?_
   rintro e w2 ⟨rfl,hW⟩
   have HW:=hide hW
   clear hW
   go_wp2_with fail
   have hb:=HW.out
   obtain ⟨ov',M,h1,h2,h3,h4,h5⟩:=hb
   go_end0
   refine ⟨rfl,(HW.out.after HBW.out).wide (fun _ h=>h.elim),V.uv,?_,Or.inl rfl⟩
   exact (HS.out.below HBW.out).but h3 (fun b hb h=>h.elim id ((HS.out.below HBW.out).apart (H.out.below HBW.out) hb))
 · have HQ:=hide hq
   by_cases hg:(V.snd.isSome && decide ((S.under.length:Int) < S.window))=true
   · have e1:tellS V.snd.isSome S m=beginS S m:=by unfold tellS;rw [if_neg hq,if_pos hg]
     have e2:tellO n V.snd S m d=outTo n V.snd [d]:=by unfold tellO;rw [if_neg hq,if_pos hg]
     have e3:tellId S m=nextS S.last S.under:=by unfold tellId;rw [if_neg hq]
     rw [e1,e2]
     rw [e3] at HE
     rw [hg] at cM
     clear e1 e2 e3 hg
     unfold msgV
     go_enter Tryz.func145,Tryz.ntmps145
     go_wp2_with fail
     refine (cM.out _ (HB.out _)).mono ?_
     rintro e w1 ⟨rfl,hB1⟩
     have hm1:∀ i x,#[Value.string (bs m.topic),.string (bs m.payload),.int .i64 m.qos,.bool m.retain][i]?=some x→w1.cell? ⟨w.heap.size,i,none⟩=some x:=fun i x hx=>by rw [hB1.cell (by simp)];exact cell_new _ _ _ hx
     have p0:=hm1 0 _ rfl
     have p1:=hm1 1 _ rfl
     have p2:=hm1 2 _ rfl
     have p3:=hm1 3 _ rfl
     have hA:=HB.out (.cells #[.string (bs m.topic),.string (bs m.payload),.int .i64 m.qos,.bool m.retain] 206)
     have hBw:Below w.heap.size w w1:=hA.trans (hB1.mono hA.size)
     have HBW:=hide hBw
     clear hA hB1 hBw hm1
     go_wp2_with fail
     refine (begin_any sb B cb n m d V S BV ov L w1 (HE.out.below HBW.out) hV (HS.out.below HBW.out) (H.out.below HBW.out) (HK.out.below HBW.out) hL h0 hl).mono ?_
     rintro e w2 ⟨rfl,hW,uv',hs',ho'⟩
     have HW:=hide hW
     have HS':=hide hs'
     have HO':=hide ho'
     clear hW hs' ho'
     go_wp2_with fail
     go_end0
     exact ⟨rfl,HW.out.after HBW.out,uv',HS'.out,HO'.out.imp id (fun ⟨b,e,hb⟩=>⟨b,e,Nat.le_trans HBW.out.size hb⟩)⟩
   · have e1:tellS V.snd.isSome S m=waitS S m:=by unfold tellS;rw [if_neg hq,if_neg hg]
     have e2:tellO n V.snd S m d = []:=by unfold tellO;rw [if_neg hq,if_neg hg]
     have hg':(V.snd.isSome && decide ((S.under.length:Int) < S.window))=false:=by simpa using hg
     rw [e1,e2]
     rw [hg'] at cM
     clear e1 e2 hg hg'
     unfold msgV
     go_enter Tryz.func145,Tryz.ntmps145
     go_wp2_with fail
     refine (cM.out _ (HB.out _)).mono ?_
     rintro e w1 ⟨rfl,hB1⟩
     have hm1:∀ i x,#[Value.string (bs m.topic),.string (bs m.payload),.int .i64 m.qos,.bool m.retain][i]?=some x→w1.cell? ⟨w.heap.size,i,none⟩=some x:=fun i x hx=>by rw [hB1.cell (by simp)];exact cell_new _ _ _ hx
     have p0:=hm1 0 _ rfl
     have p1:=hm1 1 _ rfl
     have p2:=hm1 2 _ rfl
     have p3:=hm1 3 _ rfl
     have hA:=HB.out (.cells #[.string (bs m.topic),.string (bs m.payload),.int .i64 m.qos,.bool m.retain] 206)
     have hBw:Below w.heap.size w w1:=hA.trans (hB1.mono hA.size)
     have HBW:=hide hBw
     clear hA hB1 hBw hm1
     go_wp2_with fail
     refine (wait_any sb V S m w1 (HS.out.below HBW.out)).mono ?_
     rintro e w2 ⟨rfl,hs',hb'⟩
     have HS':=hide hs'
     have HB':=hide hb'
     clear hs' hb'
     go_wp2_with fail
     have hc:∀ b,V.has sb b→_:=(HS.out.below HBW.out).clear (H.out.below HBW.out)
     have hw:Wrote (V.has sb) w1 B BV ov L [] w2:=Wrote.none (H.out.below HBW.out) (HB'.out.wide (fun b _ e=>e ▸ Or.inr (Or.inr (Or.inr (Or.inl rfl))))) hc
     go_end0
     exact ⟨rfl,hw.after HBW.out,V.uv,HS'.out,Or.inl rfl⟩
end br
end Go.Proofs.YtnmfmoimjkoieaaGreatDoor
