import Derived.Test.YtnmfmoimjkoieaaGreatDoorF01
import Derived.Test.YtnmfmoimjkoieaaGreatDoorF32
import Derived.Test.YtnmfmoimjkoieaaGreatDoorF33
import Derived.Test.YtnmfmoimjkoieaaGreatDoorF27
namespace Go.Proofs.YtnmfmoimjkoieaaGreatDoor
namespace br
open Go.RowKit topPlain topWalks decPlain Go.Maps
structure TakeZ (N lb:Nat) (ov:Value) (L:List (OutS×Value)) (w:World) (o:OutS×Value) (V:LineV) (i:Nat) (v0:Value) (xs:List Value):Prop where
 line:LineAt w lb V
 outs:OutsAt w ov L
 conn:o.1.conn=0
 closed:o.1.closed=false
 off:V.off 0=false
 got:V.got 0=v0
 row:w.ownsRow N 36 15 v0 i xs
 n0:N≤w.heap.size
 dat:∃ q c,o.2=.slice (some q) o.1.data.length c
 pos:0 < o.1.data.length
set_option maxHeartbeats 1600000 in
set_option maxRecDepth 100000 in
theorem takes_zero (N lb:Nat) (ov:Value) (L:List (OutS×Value)) (V:LineV) (w:World) (J:Nat→World→Prop) (D:Nat→Pkt→World→Prop) (hLl:L.length≤100000) (hO:OutsAt w ov L) (h:LineAt w lb V) (hbad:V.bad=false) (hJ0:J 0 (w.setCell ⟨lb,17,none⟩ (.bool false)))
 (hD:∀ i w' o,J i w'→L[i]?=some o→Calls Tryz.prog 20 #[o.2] w'.drew fun e w''=>∃ (P:Pkt) (f1:Option Addr) (f2 f3:Nat) (c1:Option Addr) (c2 c3:Nat),P.fv=.slice f1 f2 f3∧P.cv=.slice c1 c2 c3∧e=.returned (.tuple #[.agg (pkK P),.int .i64 (o.1.data.length:Int),.int .i64 0])∧Below w'.heap.size w' w''∧D i P w'')
 (hN:∀ i o P w' w1 w8 v0 v' xs,L[i]?=some o→J i w'→Below w'.heap.size w' w1→D i P w1→(∃ V',TakeZ N lb ov L w' o V' i v0 xs)→But (fun g=>v0.ownBlock=some g) w1 w8→w8.ownsRow N 36 15 v' (i+1) (xs ++ (pkK P).toList)→(v'.ownBlock=v0.ownBlock∨∃ b,v'.ownBlock=some b∧w1.heap.size≤b)→J (i+1) (w8.setCell ⟨lb,1,none⟩ v'))
 (hJ:∀ i w' o,J i w'→L[i]?=some o→∃ V' v0 xs,TakeZ N lb ov L w' o V' i v0 xs) :
 Calls Tryz.prog 65 #[.pointer (some ⟨lb,0,none⟩),ov,.int .i64 0] w fun e w'=>e=.returned (.tuple #[])∧J L.length w':=by
 obtain ⟨q,kap,rfl⟩:=own_form hO.row
 have c17:w.cell? ⟨lb,17,none⟩=some (.bool false):=by rw [← hbad];exact blk_cell h rfl
 have f17:w.frozen? ⟨lb,17,none⟩=false:=blk_frozen h
 have HJ0:=hide hJ0
 have HJ:=hide hJ
 have HD:=hide hD
 have HNX:=hide hN
 clear h hO hJ0 hJ hD hN
 go_enter Tryz.func65,Tryz.ntmps65
 go_wp2_with fail
 generalize w.setCell ⟨lb,17,none⟩ (.bool false)=W0 at *
 go_loopw [6] (fun i wx=>∃ k:Nat,k≤L.length∧i=.int .i64 k∧J k wx) (fun i _=>L.length - (intOf i).toNat)
 case atStart=>exact ⟨0,Nat.zero_le _,rfl,HJ0.out⟩
 case round =>
  obtain ⟨k,hk,rfl,hJk⟩:=hrel
  have HJK:=hide hJk
  clear hJk
  by_cases hlt:k < L.length
  · obtain ⟨o,hoo⟩:∃ o,L[k]?=some o:=⟨_,List.getElem?_eq_getElem hlt⟩
    obtain ⟨V',v0,xs,hT⟩:=HJ.out k wr o HJK.out hoo
    obtain ⟨q0,k0,hv0⟩:=own_form hT.row
    subst hv0
    have hne0:(Value.slice q0 k k0).ownBlock≠some lb:=fun e=>by
     obtain ⟨cur,hcur⟩:=own_blk hT.row e
     have h9:wr.heap[lb]?=some (.cells (lineC V') 60):=hT.line
     rw [hcur] at h9;simp at h9
    obtain ⟨g,hqg,hg,hkc,hcm,hcell⟩:=own_at hT.outs.row (by omega)
    subst hqg
    unfold maxLen at hcm
    obtain ⟨oa,ob,oc⟩:=outC_at hoo
    have o0:wr.cell? ⟨g,k*3,none⟩=some (.int .i64 0):=by rw [← hT.conn];exact hcell _ _ oa
    obtain ⟨dq,dc,hdv⟩:=hT.dat
    have o1:wr.cell? ⟨g,k*3+1,none⟩=some (.slice (some dq) o.1.data.length dc):=by rw [← hdv];exact hcell _ _ ob
    have o2:wr.cell? ⟨g,k*3+2,none⟩=some (.bool false):=by rw [← hT.closed];exact hcell _ _ oc
    have l9:wr.cell? ⟨lb,9,none⟩=some (.bool false):=by rw [← hT.off];exact blk_cell hT.line (lineC_off V' (k:=0) (by omega))
    have hpos:=hT.pos
    have HT:=hide hT
    have HOO:=hide hoo
    have HDV:=hide hdv
    have cD:=hide (HD.out k wr o HJK.out hoo)
    rw [hdv] at cD
    have e0:((o.1.data.length:Int) == 0)=false:=by simp;intro h;rw [h] at hpos;simp at hpos
    clear hT hoo hdv oa ob oc hcell
    generalize o.1.data.length=dl at *
    have o0':=o0
    have l9':=l9
    clear o0 l9
    go_wp2_with fail
    go_region_held3 (fun w'=>w'.cell? ⟨lb,9,none⟩=some (.bool false)∧w'.cell? ⟨g,k*3+1,none⟩=some (.slice (some dq) dl dc)∧w'.cell? ⟨g,k*3+2,none⟩=some (.bool false)) (go_keep) (fail)
    go_wp2_with fail
    refine cD.out.mono ?_
    rintro e w1 ⟨P,f1,f2,f3,c1,c2,c3,hPf,hPc,rfl,hB1,hDD⟩
    have q1:w1.cell? ⟨g,k*3+1,none⟩=some (.slice (some dq) dl dc):=by rw [hB1.cell (cell_blt o1)];exact o1
    have lg:w1.cell? ⟨lb,1,none⟩=some (.slice q0 k k0):=by
     have:=blk_cell HT.out.line (lineC_got V' (show 0 < 8 by omega))
     rw [HT.out.got] at this
     rw [hB1.cell (cell_blt this)];exact this
    have hln:w1.heap[lb]?=some (.cells (lineC V') 60):=(hB1.block _ (blk_lt HT.out.line)).trans HT.out.line
    have fg:w1.frozen? ⟨lb,1,none⟩=false:=blk_frozen hln
    have qA:=fun o=>alloc_cell q1 o
    have hg1:g < w1.heap.size:=cell_blt q1
    have hlb1:lb < w1.heap.size:=blk_lt hln
    have HR0:=hide HT.out.row
    have HR1:=hide (own_below4 HT.out.row hB1)
    have HNs:=hide (Nat.le_trans HT.out.n0 hB1.size)
    have fA:∀ o,(w1.alloc o).frozen? ⟨lb,1,none⟩=false:=fun o=>by rw [World.frozen?_of_block (w:=w1) (Below.heap_alloc _ _ _ hlb1)];exact fg
    have lA:=fun o=>alloc_cell lg o
    have HLN:=hide hln
    clear hln
    have hls:=blk_lt HT.out.line
    have hsz1:=hB1.size
    simp only [pkK,hPf,hPc]
    have HB1:=hide hB1
    have HDD:=hide hDD
    have HPf:=hide hPf
    have HPc:=hide hPc
    clear hB1 hDD hPf hPc o1 o2 l9' o0' cD
    go_wp2_with fail
    have hnw:=heap_alloc_new w1 (.cells #[.int .i64 P.kind,.bool P.clean,.bool P.will,.int .i64 P.keep,.string (bs P.client),.bool P.present,.int .i64 P.code,.bool P.dup,.int .i64 P.qos,.bool P.retain,.string (bs P.topic),.string (bs P.payload),.int .i64 P.id,.slice f1 f2 f3,.slice c1 c2 c3] 36)
    have hA1:=(Below.refl w1.heap.size w1).alloc (Nat.le_refl _) (.cells #[.int .i64 P.kind,.bool P.clean,.bool P.will,.int .i64 P.keep,.string (bs P.client),.bool P.present,.int .i64 P.code,.bool P.dup,.int .i64 P.qos,.bool P.retain,.string (bs P.topic),.string (bs P.payload),.int .i64 P.id,.slice f1 f2 f3,.slice c1 c2 c3] 36)
    have lg':=lA (.cells #[.int .i64 P.kind,.bool P.clean,.bool P.will,.int .i64 P.keep,.string (bs P.client),.bool P.present,.int .i64 P.code,.bool P.dup,.int .i64 P.qos,.bool P.retain,.string (bs P.topic),.string (bs P.payload),.int .i64 P.id,.slice f1 f2 f3,.slice c1 c2 c3] 36)
    have fg':=fA (.cells #[.int .i64 P.kind,.bool P.clean,.bool P.will,.int .i64 P.keep,.string (bs P.client),.bool P.present,.int .i64 P.code,.bool P.dup,.int .i64 P.qos,.bool P.retain,.string (bs P.topic),.string (bs P.payload),.int .i64 P.id,.slice f1 f2 f3,.slice c1 c2 c3] 36)
    clear qA lA fA
    generalize w1.alloc (.cells #[.int .i64 P.kind,.bool P.clean,.bool P.will,.int .i64 P.keep,.string (bs P.client),.bool P.present,.int .i64 P.code,.bool P.dup,.int .i64 P.qos,.bool P.retain,.string (bs P.topic),.string (bs P.payload),.int .i64 P.id,.slice f1 f2 f3,.slice c1 c2 c3] 36)=W1 at *
    obtain ⟨p0,p1,p2,p3,p4,p5,p6,p7,p8,p9,p10,p11,p12,p13,p14⟩:=cells15 hnw
    have hlw:=blk_lt hnw
    have hlbw:lb < W1.heap.size:=cell_blt lg'
    have HA1:=hide hA1
    have HNW:=hide hnw
    have HNN:=hide (news_new W1 #[.int .i64 P.kind,.bool P.clean,.bool P.will,.int .i64 P.keep,.string (bs P.client),.bool P.present,.int .i64 P.code,.bool P.dup,.int .i64 P.qos,.bool P.retain,.string (bs P.topic),.string (bs P.payload),.int .i64 P.id,.slice f1 f2 f3,.slice c1 c2 c3] 36)
    have hA:=fun o=>alloc_cell lg' o
    obtain ⟨i0,hi0,hz0,hz1,hz2⟩:=info_parts infoPkt
    clear hA1 hnw q1 lg fg
    have HX0:=hide (HA1.out.trans (((Below.refl W1.heap.size W1).alloc (Nat.le_refl _) (.cells #[.int .i64 P.kind,.bool P.clean,.bool P.will,.int .i64 P.keep,.string (bs P.client),.bool P.present,.int .i64 P.code,.bool P.dup,.int .i64 P.qos,.bool P.retain,.string (bs P.topic),.string (bs P.payload),.int .i64 P.id,.slice f1 f2 f3,.slice c1 c2 c3] 36)).mono HA1.out.size))
    go_region_law (
     refine step_append_at rfl (.tmp 107) (.tmp 109) 56 rfl N 36 i0 (.agg #[.int .i64 0,.bool false,.bool false,.int .i64 0,.string ByteArray.empty,.bool false,.int .i64 0,.bool false,.int .i64 0,.bool false,.string ByteArray.empty,.string ByteArray.empty,.int .i64 0,.slice none 0 0,.slice none 0 0]) 15 168 Tryz.underlying56 hi0 hz0 hz1 hz2 rfl (by decide) (.slice q0 k k0) k xs ?s1 ?s2 ⟨W1.heap.size,0,none⟩ 1 1 [.int .i64 P.kind,.bool P.clean,.bool P.will,.int .i64 P.keep,.string (bs P.client),.bool P.present,.int .i64 P.code,.bool P.dup,.int .i64 P.qos,.bool P.retain,.string (bs P.topic),.string (bs P.payload),.int .i64 P.id,.slice f1 f2 f3,.slice c1 c2 c3] ?s3 rfl ?s4 ?s5 ?s6 ?s7 ?s8 ?_
     case s1=>simp [Act.eval]
     case s3=>simp [Act.eval]
     case s2=>first | exact own_below4 HR1.out HX0.out | exact own_below4 HR1.out HX0.out.drew
     case s4=>exact HNN.out
     case s5=>intro u hu;simp at hu;rcases hu with rfl | rfl | rfl | rfl | rfl | rfl | rfl | rfl | rfl | rfl | rfl | rfl | rfl | rfl | rfl<;>rfl
     case s6=>unfold maxLen;omega
     case s7=>omega
     case s8=>have:=HA1.out.size;have:=HNs.out;simp [World.drew];omega
     intro v' w8 hown' hgrow hloc
     obtain ⟨q',cap',rfl⟩:=own_form hown'
     have hg8:=But.of_grown (F:=fun g=>(Value.slice q0 k k0).ownBlock=some g) hgrow (fun b hb=>hb)
     have hbk:w8.heap[lb]?=W1.heap[lb]?:=(hg8.keep lb (by simp;omega) hne0).trans (Below.heap_alloc _ _ _ hlbw)
     have l8:w8.cell? ⟨lb,1,none⟩=some (.slice q0 k k0):=by rw [World.cell?_of_block (w:=W1) hbk];exact lg'
     have f8:w8.frozen? ⟨lb,1,none⟩=false:=by rw [World.frozen?_of_block (w:=W1) hbk];exact fg'
     have HOW:=hide hown'
     have HG8:=hide hg8
     have HLO:=hide hloc
     clear hown' hgrow hloc hg8 hbk)
    all_goals
     go_wp2_with fail
     have hB8:But (fun g=>(Value.slice q0 k k0).ownBlock=some g) w1 w8:=by
      first
       | exact (But.of_below HX0.out).trans HG8.out (fun _ _ e=>e)
       | exact (But.of_below HX0.out.drew).trans HG8.out (fun _ _ e=>e)
     have hs8:=HX0.out.size
     refine ⟨⟨k+1,by omega,by go_num,HNX.out k o P wr w1 w8 _ _ xs HOO.out HJK.out HB1.out HDD.out ⟨_,HT.out⟩ hB8 ?_ (HLO.out.imp id (fun e=>⟨_,e,by simp at hs8 ⊢;omega⟩))⟩,by simp [intOf];omega⟩
     simp only [pkK,HPf.out,HPc.out]
     exact HOW.out
  · go_wp2
    go_end0
    have hkl:k=L.length:=by omega
    subst hkl
    exact ⟨rfl,HJK.out⟩
def TookS (lb k:Nat) (V:LineV) (w w':World):Prop:=LineAt w' lb (V.setOff k true)∧But (fun g=>g=lb) w w'
theorem took_set {lb:Nat} {V:LineV} {w:World} (k:Nat) (hk:k < 8) (h:w.heap[lb]?=some (.cells (lineC V) 60)):LineAt (w.setCell ⟨lb,9+k,none⟩ (.bool true)).drew lb (V.setOff k true):=by
 show (w.setCell ⟨lb,9+k,none⟩ (.bool true)).heap[lb]?=_
 rw [blk_set _ h,lineC_setOff V hk]
set_option maxHeartbeats 1600000 in
set_option maxRecDepth 100000 in
theorem takes_shut (lb k:Nat) (hk:k < 2) (ov:Value) (V:LineV) (w:World) (hO:OutsAt w ov [(⟨(k:Int),[],true⟩,.slice none 0 0)]) (h:LineAt w lb V) (hbad:V.bad=false) (hoff:V.off k=false) :
 Calls Tryz.prog 65 #[.pointer (some ⟨lb,0,none⟩),ov,.int .i64 0] w fun e w'=>e=.returned (.tuple #[])∧TookS lb k V w w':=by
 have hblk:w.heap[lb]?=some (.cells (lineC V) 60):=h
 obtain ⟨q,kap,rfl⟩:=own_form hO.row
 have c17:w.cell? ⟨lb,17,none⟩=some (.bool false):=by rw [← hbad];exact blk_cell h rfl
 have f17:w.frozen? ⟨lb,17,none⟩=false:=blk_frozen h
 obtain ⟨g,rfl,hg,hkc,hcm,hcell⟩:=own_at hO.row (by simp)
 have hgl:g≠lb:=fun e=>by
  obtain ⟨cur,hc⟩:=own_blk hO.row rfl
  rw [e,hblk] at hc;simp at hc
 unfold maxLen at hcm
 have hW:(w.setCell ⟨lb,17,none⟩ (.bool false)).heap[lb]?=some (.cells (lineC V) 60):=by
  rw [blk_set _ hblk]
  have:lineC { V with bad:=false }=lineC V:=by rw [← hbad]
  exact congrArg some (congrArg (fun c=>Obj.cells c 60) ((lineC_bad V false).trans this))
 have hBW:But (fun g=>g=lb) w (w.setCell ⟨lb,17,none⟩ (.bool false)):=But.set (F:=fun g=>g=lb) _ _ _ rfl
 have hk0:∀ i,(w.setCell ⟨lb,17,none⟩ (.bool false)).cell? ⟨g,i,none⟩=w.cell? ⟨g,i,none⟩:=fun i=>World.cell?_of_block (w:=w) (Below.heap_setCell _ _ _ _ hgl)
 have o0:(w.setCell ⟨lb,17,none⟩ (.bool false)).cell? ⟨g,0,none⟩=some (.int .i64 (k:Int)):=(hk0 0).trans (hcell 0 _ rfl)
 have o1:(w.setCell ⟨lb,17,none⟩ (.bool false)).cell? ⟨g,1,none⟩=some (.slice none 0 0):=(hk0 1).trans (hcell 1 _ rfl)
 have o2:(w.setCell ⟨lb,17,none⟩ (.bool false)).cell? ⟨g,2,none⟩=some (.bool true):=(hk0 2).trans (hcell 2 _ rfl)
 have HW:=hide hW
 have HBW:=hide hBW
 have hlt:=blk_lt hblk
 clear h hO hblk hW hBW hk0 hcell
 go_enter Tryz.func65,Tryz.ntmps65
 go_wp2_with fail
 generalize w.setCell ⟨lb,17,none⟩ (.bool false)=W0 at *
 go_loopw [6] (fun i wx=>(i=.int .i64 0∧wx=W0)∨(i=.int .i64 1∧TookS lb k V w wx)) (fun i _=>1 - (intOf i).toNat)
 case atStart=>exact Or.inl ⟨rfl,rfl⟩
 case round =>
  rcases hrel with ⟨rfl,rfl⟩ | ⟨rfl,hS⟩
  · have l17:wr.cell? ⟨lb,17,none⟩=some (.bool false):=by rw [← hbad];exact blk_cell HW.out rfl
    have ht:But (fun g=>g=lb) w wr:=HBW.out
    have hkk:k=0∨k=1:=by omega
    rcases hkk with rfl | rfl
    · have l9:wr.cell? ⟨lb,9,none⟩=some (.bool false):=by rw [← hoff];exact blk_cell HW.out rfl
      have f9:wr.frozen? ⟨lb,9,none⟩=false:=blk_frozen HW.out
      go_wp2_with fail
      go_region
      all_goals
       have l9':wr.drew.cell? ⟨lb,9,none⟩=some (.bool false):=l9
       have f9':wr.drew.frozen? ⟨lb,9,none⟩=false:=f9
       have o0':wr.drew.cell? ⟨g,0,none⟩=_:=o0
       have o2':wr.drew.cell? ⟨g,2,none⟩=_:=o2
       go_wp2_with fail
       exact ⟨Or.inr ⟨rfl,(took_set 0 (by omega) HW.out),HBW.out.trans ((But.set (F:=fun g=>g=lb) wr ⟨lb,9,none⟩ (.bool true) rfl).trans (But.of_below (F:=fun _=>False) (Below.refl _ _).drew) (fun _ _ f=>f.elim)) (fun _ _ f=>f)⟩,by simp [intOf]⟩
    · have l9:wr.cell? ⟨lb,10,none⟩=some (.bool false):=by rw [← hoff];exact blk_cell HW.out rfl
      have f9:wr.frozen? ⟨lb,10,none⟩=false:=blk_frozen HW.out
      go_wp2_with fail
      go_region
      all_goals
       have l9':wr.drew.cell? ⟨lb,10,none⟩=some (.bool false):=l9
       have f9':wr.drew.frozen? ⟨lb,10,none⟩=false:=f9
       have o0':wr.drew.cell? ⟨g,0,none⟩=_:=o0
       have o2':wr.drew.cell? ⟨g,2,none⟩=_:=o2
       go_wp2_with fail
       exact ⟨Or.inr ⟨rfl,(took_set 1 (by omega) HW.out),HBW.out.trans ((But.set (F:=fun g=>g=lb) wr ⟨lb,10,none⟩ (.bool true) rfl).trans (But.of_below (F:=fun _=>False) (Below.refl _ _).drew) (fun _ _ f=>f.elim)) (fun _ _ f=>f)⟩,by simp [intOf]⟩
  · have HS:=hide hS
    clear hS
    go_wp2
    go_end0
    exact ⟨rfl,HS.out⟩
structure HeardN (w:World) (lb k g cap n:Nat) (V:LineV) (kind code:Int):Prop where
 line:LineAt w lb V
 bad:V.bad=false
 got:V.got k=.slice (some ⟨g,0,none⟩) (n+1) cap
 cap1:n+1≤cap
 capm:cap≤maxLen
 kind:w.cell? ⟨g,0,none⟩=some (.int .i64 kind)
 code:w.cell? ⟨g,6,none⟩=some (.int .i64 code)
 ne:g≠lb
set_option maxHeartbeats 800000 in
set_option maxRecDepth 100000 in
theorem joins_more (lb k:Nat) (client:List UInt8) (clean:Bool) (V:LineV) (w:World) (Q0:World→Prop) (R:Nat→Nat→World→Prop) (h:LineAt w lb V) (hk:k < 8)
 (hO:Calls Tryz.prog 23 #[.pointer (some ⟨V.b,0,none⟩),.int .i64 (k:Int)] w fun e w'=>e=.returned (.int .i64 0)∧Q0 w')
 (hQ0:∀ w',Q0 w'→LineAt w' lb V)
 (hS:∀ w',Q0 w'→Calls Tryz.prog 50 #[.pointer (some ⟨lb,0,none⟩),.int .i64 (k:Int),.agg (pkK (helloS client clean))] (w'.setCell ⟨lb,9+k,none⟩ (.bool false)) fun e w''=>e=.returned (.tuple #[])∧∃ g cap n V',R g n w''∧HeardN w'' lb k g cap n V' 2 0) :
 Calls Tryz.prog 48 #[.pointer (some ⟨lb,0,none⟩),.int .i64 (k:Int),.string (bs client),.bool clean] w fun e w'=>∃ g n q c w1,e=.returned (.tuple #[.slice q n c,.bool true])∧(0 < n→q=some ⟨g,15,none⟩)∧R g n w1∧w'=w1.setCell ⟨lb,1+k,none⟩ (.slice none 0 0):=by
 have c0:w.cell? ⟨lb,0,none⟩=some (.pointer (some ⟨V.b,0,none⟩)):=blk_cell h rfl
 have h8:(k:Int) < 8:=by omega
 have HO:=hide hO
 have HQ0:=hide hQ0
 have HS:=hide hS
 have HK:=hide hk
 simp only [pkK,helloS,zP] at HS
 clear hO hQ0 hS h
 go_enter Tryz.func48,Tryz.ntmps48
 go_wp2_with fail
 refine HO.out.mono ?_
 rintro e w1 ⟨rfl,hq0⟩
 have hl1:=HQ0.out _ hq0
 have f9:w1.frozen? ⟨lb,9+k,none⟩=false:=blk_frozen hl1
 have l9:w1.cell? ⟨lb,9+k,none⟩=some (.bool (V.off k)):=blk_cell hl1 (lineC_off V HK.out)
 have HQA:=hide hq0
 clear hq0 hl1 c0
 go_wp2_with fail
 refine (HS.out _ HQA.out).mono ?_
 rintro e w2 ⟨rfl,g,cap,n,V',hR,hH⟩
 have HR:=hide hR
 have HH:=hide hH
 have cH:=hide (heard_any lb k V' w2 hH.line HK.out ⟨_,_,_,hH.got⟩)
 rw [hH.got] at cH
 clear hR hH f9 l9
 go_wp2_with fail
 refine cH.out.mono ?_
 rintro e w3 ⟨rfl,hw3,hl3⟩
 have m0:w3.cell? ⟨g,0,none⟩=some (.int .i64 2):=by
  rw [hw3,World.cell?_of_block (w:=w2) (Below.heap_setCell _ _ _ _ HH.out.ne)];exact HH.out.kind
 have m6:w3.cell? ⟨g,6,none⟩=some (.int .i64 0):=by
  rw [hw3,World.cell?_of_block (w:=w2) (Below.heap_setCell _ _ _ _ HH.out.ne)];exact HH.out.code
 have m17:w3.cell? ⟨lb,17,none⟩=some (.bool false):=by rw [← HH.out.bad];exact blk_cell hl3 rfl
 have hcap1:=HH.out.cap1
 have hcapm:cap≤9223372036854775807:=by have:=HH.out.capm;unfold maxLen at this;omega
 have HW3:=hide hw3
 clear hw3 hl3 cH
 by_cases hc1:cap=1
 · have hn:n=0:=by omega
   subst hn
   subst hc1
   go_wp2_with fail
   all_goals
    go_ret2
    exact ⟨g,0,_,_,w2,rfl,fun h=>(Nat.lt_irrefl _ h).elim,HR.out,HW3.out⟩
 · have hn0:(((n+1:Nat):Int) == 0)=false:=by rw [beq_eq_false_iff_ne];omega
   go_wp2_with fail
   all_goals
    go_ret2
    exact ⟨g,n,some ⟨g,15,none⟩,cap - 1,w2,rfl,fun _=>rfl,HR.out,HW3.out⟩
end br
end Go.Proofs.YtnmfmoimjkoieaaGreatDoor
