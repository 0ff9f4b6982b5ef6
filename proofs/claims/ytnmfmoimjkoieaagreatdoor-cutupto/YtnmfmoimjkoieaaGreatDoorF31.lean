import Derived.Test.YtnmfmoimjkoieaaGreatDoorF01
import Derived.Test.YtnmfmoimjkoieaaGreatDoorF04
import Derived.Test.YtnmfmoimjkoieaaGreatDoorF30
import Derived.Test.YtnmfmoimjkoieaaGreatDoorF25
import Derived.Deep.RegionHeld3
import Derived.Deep.RegionWith
import Derived.Deep.LoopGhost
import Derived.Deep.RegionLawGrows
import Derived.Test.YtnmfmoimjkoieaaGreatDoorF14
import Derived.Test.YtnmfmoimjkoieaaGreatDoorF27
namespace Go.Proofs.YtnmfmoimjkoieaaGreatDoor
namespace br
open Go.RowKit topPlain topWalks decPlain Go.Maps
theorem infoPkt:(Tryz.prog.info? 36).map (fun i=>(i.zero,i.size,i.bytes))=some (some (.agg #[.int .i64 0,.bool false,.bool false,.int .i64 0,.string ByteArray.empty,.bool false,.int .i64 0,.bool false,.int .i64 0,.bool false,.string ByteArray.empty,.string ByteArray.empty,.int .i64 0,.slice none 0 0,.slice none 0 0]),15,168):=by kernel_rfl
theorem outC_at {L:List (OutS×Value)} {k:Nat} {o:OutS×Value} (h:L[k]?=some o):(outC L)[k*3]?=some (.int .i64 o.1.conn)∧(outC L)[k*3+1]?=some o.2∧(outC L)[k*3+2]?=some (.bool o.1.closed):=by
 induction L generalizing k with
 | nil=>simp at h
 | cons a t ih =>
   cases k with
   | zero=>simp at h;subst h;simp [outC]
   | succ k =>
     have:=ih (k:=k) (by simpa using h)
     simp only [outC,List.flatMap_cons] at this ⊢
     have e1:(k+1)*3=k*3+3:=by omega
     rw [e1]
     simpa using this
structure TakeIn (lb:Nat) (ov:Value) (L:List (OutS×Value)) (w:World) (o:OutS×Value) (n:Nat) (V:LineV):Prop where
 line:LineAt w lb V
 outs:OutsAt w ov L
 conn:o.1.conn=(n:Int)
 lt:n < 2
 closed:o.1.closed=false
 off:V.off n=false
 got:V.got n=.slice none 0 0
 dat:∃ q c,o.2=.slice (some q) o.1.data.length c
 pos:0 < o.1.data.length
set_option maxHeartbeats 800000 in
set_option maxRecDepth 100000 in
theorem takes_any (lb:Nat) (ov:Value) (L:List (OutS×Value)) (V:LineV) (w:World) (J:Nat→World→Prop) (D:Nat→Pkt→World→Prop) (hO:OutsAt w ov L) (h:LineAt w lb V) (hbad:V.bad=false) (hJ0:J 0 (w.setCell ⟨lb,17,none⟩ (.bool false)))
 (hD:∀ i w' o,J i w'→L[i]?=some o→Calls Tryz.prog 20 #[o.2] w'.drew fun e w''=>∃ (P:Pkt) (f1:Option Addr) (f2 f3:Nat) (c1:Option Addr) (c2 c3:Nat),P.fv=.slice f1 f2 f3∧P.cv=.slice c1 c2 c3∧e=.returned (.tuple #[.agg (pkK P),.int .i64 (o.1.data.length:Int),.int .i64 0])∧Below w'.heap.size w' w''∧D i P w'')
 (hN:∀ i o (n:Nat) P w1 w8 v',L[i]?=some o→o.1.conn=(n:Int)→D i P w1→Below w1.heap.size w1 w8→w8.ownsRow w1.heap.size 36 15 v' 1 (pkK P).toList→J (i+1) (w8.setCell ⟨lb,1+n,none⟩ v'))
 (hJ:∀ i w' o,J i w'→L[i]?=some o→∃ n V',TakeIn lb ov L w' o n V') :
 Calls Tryz.prog 65 #[.pointer (some ⟨lb,0,none⟩),ov,.int .i64 0] w fun e w'=>e=.returned (.tuple #[])∧J L.length w':=by
 obtain ⟨q,kap,rfl⟩:=own_form hO.row
 have c17:w.cell? ⟨lb,17,none⟩=some (.bool false):=by rw [← hbad];exact blk_cell h rfl
 have f17:w.frozen? ⟨lb,17,none⟩=false:=blk_frozen h
 have HJ0:=hide hJ0
 have HJ:=hide hJ
 have HD:=hide hD
 have HNX:=hide hN
 clear h hO hJ0 hJ hD hN
 go_enter Tryz.func65,Tryz.ntmps65
 go_wp2_with fail
 generalize w.setCell ⟨lb,17,none⟩ (.bool false)=W0 at *
 go_loopw [6] (fun i wx=>∃ k:Nat,k≤L.length∧i=.int .i64 k∧J k wx) (fun i _=>L.length - (intOf i).toNat)
 case atStart=>exact ⟨0,Nat.zero_le _,rfl,HJ0.out⟩
 case round =>
  obtain ⟨k,hk,rfl,hJk⟩:=hrel
  have HJK:=hide hJk
  clear hJk
  by_cases hlt:k < L.length
  · obtain ⟨o,hoo⟩:∃ o,L[k]?=some o:=⟨_,List.getElem?_eq_getElem hlt⟩
    obtain ⟨n,V',hT⟩:=HJ.out k wr o HJK.out hoo
    obtain ⟨g,hqg,hg,hkc,hcm,hcell⟩:=own_at hT.outs.row (by omega)
    subst hqg
    unfold maxLen at hcm
    obtain ⟨oa,ob,oc⟩:=outC_at hoo
    have o0:wr.cell? ⟨g,k*3,none⟩=some (.int .i64 (n:Int)):=by rw [← hT.conn];exact hcell _ _ oa
    obtain ⟨dq,dc,hdv⟩:=hT.dat
    have o1:wr.cell? ⟨g,k*3+1,none⟩=some (.slice (some dq) o.1.data.length dc):=by rw [← hdv];exact hcell _ _ ob
    have o2:wr.cell? ⟨g,k*3+2,none⟩=some (.bool false):=by rw [← hT.closed];exact hcell _ _ oc
    have l9:wr.cell? ⟨lb,9+n,none⟩=some (.bool false):=by rw [← hT.off];exact blk_cell hT.line (lineC_off V' (by have:=hT.lt;omega))
    have hpos:=hT.pos
    have HT:=hide hT
    have HOO:=hide hoo
    have HDV:=hide hdv
    have cD:=hide (HD.out k wr o HJK.out hoo)
    rw [hdv] at cD
    have e0:((o.1.data.length:Int) == 0)=false:=by simp;intro h;rw [h] at hpos;simp at hpos
    clear hT hoo hdv oa ob oc hcell
    generalize o.1.data.length=dl at *
    have h01:n=0∨n=1:=by have:=HT.out.lt;omega
    rcases h01 with rfl | rfl
    · have o0':wr.cell? ⟨g,k*3,none⟩=some (.int .i64 0):=o0
      have l9':wr.cell? ⟨lb,9,none⟩=some (.bool false):=l9
      clear o0 l9
      go_wp2_with fail
      go_region_held3 (fun w'=>w'.cell? ⟨lb,9,none⟩=some (.bool false)∧w'.cell? ⟨g,k*3+1,none⟩=some (.slice (some dq) dl dc)∧w'.cell? ⟨g,k*3+2,none⟩=some (.bool false)) (go_keep) (fail)
      go_wp2_with fail
      refine cD.out.mono ?_
      rintro e w1 ⟨P,f1,f2,f3,c1,c2,c3,hPf,hPc,rfl,hB1,hDD⟩
      have q1:w1.cell? ⟨g,k*3+1,none⟩=some (.slice (some dq) dl dc):=by rw [hB1.cell (cell_blt o1)];exact o1
      have lg:w1.cell? ⟨lb,1,none⟩=some (.slice none 0 0):=by
       have:=blk_cell HT.out.line (lineC_got V' (show 0 < 8 by omega))
       rw [HT.out.got] at this
       rw [hB1.cell (cell_blt this)];exact this
      have hln:w1.heap[lb]?=some (.cells (lineC V') 60):=(hB1.block _ (blk_lt HT.out.line)).trans HT.out.line
      have fg:w1.frozen? ⟨lb,1,none⟩=false:=blk_frozen hln
      have qA:=fun o=>alloc_cell q1 o
      have hg1:g < w1.heap.size:=cell_blt q1
      have hlb1:lb < w1.heap.size:=blk_lt hln
      obtain ⟨q0,k0,hq0⟩:∃ (q0:Option Addr) (k0:Nat),(Value.slice none 0 0)=.slice q0 0 k0:=⟨_,_,rfl⟩
      have HRW:Hid (∀ W:World,W.ownsRow w1.heap.size 36 15 (.slice q0 0 k0) 0 []):=fun W=>by rw [← hq0];exact ⟨rfl,Or.inl ⟨rfl,rfl⟩⟩
      have HOB:Hid ((Value.slice q0 0 k0).ownBlock=none):=by rw [← hq0];rfl
      rw [hq0] at lg
      clear hq0
      have fA:∀ o,(w1.alloc o).frozen? ⟨lb,1,none⟩=false:=fun o=>by rw [World.frozen?_of_block (w:=w1) (Below.heap_alloc _ _ _ hlb1)];exact fg
      have lA:=fun o=>alloc_cell lg o
      have HLN:=hide hln
      clear hln
      have hls:=blk_lt HT.out.line
      have hsz1:=hB1.size
      simp only [pkK,hPf,hPc]
      have HB1:=hide hB1
      have HDD:=hide hDD
      have HPf:=hide hPf
      have HPc:=hide hPc
      clear hB1 hDD hPf hPc o1 o2 l9' o0' cD
      go_wp2_with fail
      have hnw:=heap_alloc_new w1 (.cells #[.int .i64 P.kind,.bool P.clean,.bool P.will,.int .i64 P.keep,.string (bs P.client),.bool P.present,.int .i64 P.code,.bool P.dup,.int .i64 P.qos,.bool P.retain,.string (bs P.topic),.string (bs P.payload),.int .i64 P.id,.slice f1 f2 f3,.slice c1 c2 c3] 36)
      have hA1:=(Below.refl w1.heap.size w1).alloc (Nat.le_refl _) (.cells #[.int .i64 P.kind,.bool P.clean,.bool P.will,.int .i64 P.keep,.string (bs P.client),.bool P.present,.int .i64 P.code,.bool P.dup,.int .i64 P.qos,.bool P.retain,.string (bs P.topic),.string (bs P.payload),.int .i64 P.id,.slice f1 f2 f3,.slice c1 c2 c3] 36)
      have lg':=lA (.cells #[.int .i64 P.kind,.bool P.clean,.bool P.will,.int .i64 P.keep,.string (bs P.client),.bool P.present,.int .i64 P.code,.bool P.dup,.int .i64 P.qos,.bool P.retain,.string (bs P.topic),.string (bs P.payload),.int .i64 P.id,.slice f1 f2 f3,.slice c1 c2 c3] 36)
      have fg':=fA (.cells #[.int .i64 P.kind,.bool P.clean,.bool P.will,.int .i64 P.keep,.string (bs P.client),.bool P.present,.int .i64 P.code,.bool P.dup,.int .i64 P.qos,.bool P.retain,.string (bs P.topic),.string (bs P.payload),.int .i64 P.id,.slice f1 f2 f3,.slice c1 c2 c3] 36)
      clear qA lA fA
      generalize w1.alloc (.cells #[.int .i64 P.kind,.bool P.clean,.bool P.will,.int .i64 P.keep,.string (bs P.client),.bool P.present,.int .i64 P.code,.bool P.dup,.int .i64 P.qos,.bool P.retain,.string (bs P.topic),.string (bs P.payload),.int .i64 P.id,.slice f1 f2 f3,.slice c1 c2 c3] 36)=W1 at *
      obtain ⟨p0,p1,p2,p3,p4,p5,p6,p7,p8,p9,p10,p11,p12,p13,p14⟩:=cells15 hnw
      have hlw:=blk_lt hnw
      have hlbw:lb < W1.heap.size:=cell_blt lg'
      have HA1:=hide hA1
      have HNW:=hide hnw
      have HNN:=hide (news_new W1 #[.int .i64 P.kind,.bool P.clean,.bool P.will,.int .i64 P.keep,.string (bs P.client),.bool P.present,.int .i64 P.code,.bool P.dup,.int .i64 P.qos,.bool P.retain,.string (bs P.topic),.string (bs P.payload),.int .i64 P.id,.slice f1 f2 f3,.slice c1 c2 c3] 36)
      have hA:=fun o=>alloc_cell lg' o
      obtain ⟨i0,hi0,hz0,hz1,hz2⟩:=info_parts infoPkt
      clear hA1 hnw q1 lg fg
      go_region_law (
       refine step_append_at rfl (.tmp 107) (.tmp 109) 56 rfl w1.heap.size 36 i0 (.agg #[.int .i64 0,.bool false,.bool false,.int .i64 0,.string ByteArray.empty,.bool false,.int .i64 0,.bool false,.int .i64 0,.bool false,.string ByteArray.empty,.string ByteArray.empty,.int .i64 0,.slice none 0 0,.slice none 0 0]) 15 168 Tryz.underlying56 hi0 hz0 hz1 hz2 rfl (by decide) (.slice q0 0 k0) 0 [] ?s1 ?s2 ⟨W1.heap.size,0,none⟩ 1 1 [.int .i64 P.kind,.bool P.clean,.bool P.will,.int .i64 P.keep,.string (bs P.client),.bool P.present,.int .i64 P.code,.bool P.dup,.int .i64 P.qos,.bool P.retain,.string (bs P.topic),.string (bs P.payload),.int .i64 P.id,.slice f1 f2 f3,.slice c1 c2 c3] ?s3 rfl ?s4 ?s5 ?s6 ?s7 ?s8 ?_
       case s1=>simp [Act.eval]
       case s3=>simp [Act.eval]
       case s2=>exact HRW.out _
       case s4=>exact HNN.out
       case s5=>intro u hu;simp at hu;rcases hu with rfl | rfl | rfl | rfl | rfl | rfl | rfl | rfl | rfl | rfl | rfl | rfl | rfl | rfl | rfl<;>rfl
       case s6=>unfold maxLen;omega
       case s7=>omega
       case s8=>have:=HA1.out.size;simp [World.drew];omega
       intro v' w8 hown' hgrow hloc
       obtain ⟨q',cap',rfl⟩:=own_form hown'
       have hg8:=(But.of_grown (F:=fun _=>False) hgrow (fun b hb=>by rw [HOB.out] at hb;cases hb)).below'
       have hbk:w8.heap[lb]?=W1.heap[lb]?:=(hg8.block lb (by simp;omega)).trans (Below.heap_alloc _ _ _ hlbw)
       have l8:w8.cell? ⟨lb,1,none⟩=some (.slice q0 0 k0):=by rw [World.cell?_of_block (w:=W1) hbk];exact lg'
       have f8:w8.frozen? ⟨lb,1,none⟩=false:=by rw [World.frozen?_of_block (w:=W1) hbk];exact fg'
       have HOW:=hide hown'
       have HG8:=hide hg8
       clear hown' hgrow hloc hg8 hbk)
      all_goals
       go_wp2_with fail
       have hB8:Below w1.heap.size w1 w8:=by
        have hx:=((Below.refl W1.heap.size W1).alloc (Nat.le_refl _) (.cells #[.int .i64 P.kind,.bool P.clean,.bool P.will,.int .i64 P.keep,.string (bs P.client),.bool P.present,.int .i64 P.code,.bool P.dup,.int .i64 P.qos,.bool P.retain,.string (bs P.topic),.string (bs P.payload),.int .i64 P.id,.slice f1 f2 f3,.slice c1 c2 c3] 36))
        have hy:Below W1.heap.size W1 w8:=by
         first
          | exact hx.trans (HG8.out.mono hx.size)
          | exact hx.drew.trans (HG8.out.mono hx.size)
        exact HA1.out.trans (hy.mono HA1.out.size)
       refine ⟨⟨k+1,by omega,by go_num,HNX.out k o 0 P w1 w8 _ HOO.out HT.out.conn HDD.out hB8 ?_⟩,by simp [intOf];omega⟩
       simp only [pkK,HPf.out,HPc.out]
       exact HOW.out
    · have o0':wr.cell? ⟨g,k*3,none⟩=some (.int .i64 1):=o0
      have l9':wr.cell? ⟨lb,10,none⟩=some (.bool false):=l9
      clear o0 l9
      go_wp2_with fail
      go_region_held3 (fun w'=>w'.cell? ⟨lb,10,none⟩=some (.bool false)∧w'.cell? ⟨g,k*3+1,none⟩=some (.slice (some dq) dl dc)∧w'.cell? ⟨g,k*3+2,none⟩=some (.bool false)) (go_keep) (fail)
      go_wp2_with fail
      refine cD.out.mono ?_
      rintro e w1 ⟨P,f1,f2,f3,c1,c2,c3,hPf,hPc,rfl,hB1,hDD⟩
      have q1:w1.cell? ⟨g,k*3+1,none⟩=some (.slice (some dq) dl dc):=by rw [hB1.cell (cell_blt o1)];exact o1
      have lg:w1.cell? ⟨lb,2,none⟩=some (.slice none 0 0):=by
       have:=blk_cell HT.out.line (lineC_got V' (show 1 < 8 by omega))
       rw [HT.out.got] at this
       rw [hB1.cell (cell_blt this)];exact this
      have hln:w1.heap[lb]?=some (.cells (lineC V') 60):=(hB1.block _ (blk_lt HT.out.line)).trans HT.out.line
      have fg:w1.frozen? ⟨lb,2,none⟩=false:=blk_frozen hln
      have qA:=fun o=>alloc_cell q1 o
      have hg1:g < w1.heap.size:=cell_blt q1
      have hlb1:lb < w1.heap.size:=blk_lt hln
      obtain ⟨q0,k0,hq0⟩:∃ (q0:Option Addr) (k0:Nat),(Value.slice none 0 0)=.slice q0 0 k0:=⟨_,_,rfl⟩
      have HRW:Hid (∀ W:World,W.ownsRow w1.heap.size 36 15 (.slice q0 0 k0) 0 []):=fun W=>by rw [← hq0];exact ⟨rfl,Or.inl ⟨rfl,rfl⟩⟩
      have HOB:Hid ((Value.slice q0 0 k0).ownBlock=none):=by rw [← hq0];rfl
      rw [hq0] at lg
      clear hq0
      have fA:∀ o,(w1.alloc o).frozen? ⟨lb,2,none⟩=false:=fun o=>by rw [World.frozen?_of_block (w:=w1) (Below.heap_alloc _ _ _ hlb1)];exact fg
      have lA:=fun o=>alloc_cell lg o
      have HLN:=hide hln
      clear hln
      have hls:=blk_lt HT.out.line
      have hsz1:=hB1.size
      simp only [pkK,hPf,hPc]
      have HB1:=hide hB1
      have HDD:=hide hDD
      have HPf:=hide hPf
      have HPc:=hide hPc
      clear hB1 hDD hPf hPc o1 o2 l9' o0' cD
      go_wp2_with fail
      have hnw:=heap_alloc_new w1 (.cells #[.int .i64 P.kind,.bool P.clean,.bool P.will,.int .i64 P.keep,.string (bs P.client),.bool P.present,.int .i64 P.code,.bool P.dup,.int .i64 P.qos,.bool P.retain,.string (bs P.topic),.string (bs P.payload),.int .i64 P.id,.slice f1 f2 f3,.slice c1 c2 c3] 36)
      have hA1:=(Below.refl w1.heap.size w1).alloc (Nat.le_refl _) (.cells #[.int .i64 P.kind,.bool P.clean,.bool P.will,.int .i64 P.keep,.string (bs P.client),.bool P.present,.int .i64 P.code,.bool P.dup,.int .i64 P.qos,.bool P.retain,.string (bs P.topic),.string (bs P.payload),.int .i64 P.id,.slice f1 f2 f3,.slice c1 c2 c3] 36)
      have lg':=lA (.cells #[.int .i64 P.kind,.bool P.clean,.bool P.will,.int .i64 P.keep,.string (bs P.client),.bool P.present,.int .i64 P.code,.bool P.dup,.int .i64 P.qos,.bool P.retain,.string (bs P.topic),.string (bs P.payload),.int .i64 P.id,.slice f1 f2 f3,.slice c1 c2 c3] 36)
      have fg':=fA (.cells #[.int .i64 P.kind,.bool P.clean,.bool P.will,.int .i64 P.keep,.string (bs P.client),.bool P.present,.int .i64 P.code,.bool P.dup,.int .i64 P.qos,.bool P.retain,.string (bs P.topic),.string (bs P.payload),.int .i64 P.id,.slice f1 f2 f3,.slice c1 c2 c3] 36)
      clear qA lA fA
      generalize w1.alloc (.cells #[.int .i64 P.kind,.bool P.clean,.bool P.will,.int .i64 P.keep,.string (bs P.client),.bool P.present,.int .i64 P.code,.bool P.dup,.int .i64 P.qos,.bool P.retain,.string (bs P.topic),.string (bs P.payload),.int .i64 P.id,.slice f1 f2 f3,.slice c1 c2 c3] 36)=W1 at *
      obtain ⟨p0,p1,p2,p3,p4,p5,p6,p7,p8,p9,p10,p11,p12,p13,p14⟩:=cells15 hnw
      have hlw:=blk_lt hnw
      have hlbw:lb < W1.heap.size:=cell_blt lg'
      have HA1:=hide hA1
      have HNW:=hide hnw
      have HNN:=hide (news_new W1 #[.int .i64 P.kind,.bool P.clean,.bool P.will,.int .i64 P.keep,.string (bs P.client),.bool P.present,.int .i64 P.code,.bool P.dup,.int .i64 P.qos,.bool P.retain,.string (bs P.topic),.string (bs P.payload),.int .i64 P.id,.slice f1 f2 f3,.slice c1 c2 c3] 36)
      have hA:=fun o=>alloc_cell lg' o
      obtain ⟨i0,hi0,hz0,hz1,hz2⟩:=info_parts infoPkt
      clear hA1 hnw q1 lg fg
      go_region_law (
       refine step_append_at rfl (.tmp 107) (.tmp 109) 56 rfl w1.heap.size 36 i0 (.agg #[.int .i64 0,.bool false,.bool false,.int .i64 0,.string ByteArray.empty,.bool false,.int .i64 0,.bool false,.int .i64 0,.bool false,.string ByteArray.empty,.string ByteArray.empty,.int .i64 0,.slice none 0 0,.slice none 0 0]) 15 168 Tryz.underlying56 hi0 hz0 hz1 hz2 rfl (by decide) (.slice q0 0 k0) 0 [] ?s1 ?s2 ⟨W1.heap.size,0,none⟩ 1 1 [.int .i64 P.kind,.bool P.clean,.bool P.will,.int .i64 P.keep,.string (bs P.client),.bool P.present,.int .i64 P.code,.bool P.dup,.int .i64 P.qos,.bool P.retain,.string (bs P.topic),.string (bs P.payload),.int .i64 P.id,.slice f1 f2 f3,.slice c1 c2 c3] ?s3 rfl ?s4 ?s5 ?s6 ?s7 ?s8 ?_
       case s1=>simp [Act.eval]
       case s3=>simp [Act.eval]
       case s2=>exact HRW.out _
       case s4=>exact HNN.out
       case s5=>intro u hu;simp at hu;rcases hu with rfl | rfl | rfl | rfl | rfl | rfl | rfl | rfl | rfl | rfl | rfl | rfl | rfl | rfl | rfl<;>rfl
       case s6=>unfold maxLen;omega
       case s7=>omega
       case s8=>have:=HA1.out.size;simp [World.drew];omega
       intro v' w8 hown' hgrow hloc
       obtain ⟨q',cap',rfl⟩:=own_form hown'
       have hg8:=(But.of_grown (F:=fun _=>False) hgrow (fun b hb=>by rw [HOB.out] at hb;cases hb)).below'
       have hbk:w8.heap[lb]?=W1.heap[lb]?:=(hg8.block lb (by simp;omega)).trans (Below.heap_alloc _ _ _ hlbw)
       have l8:w8.cell? ⟨lb,2,none⟩=some (.slice q0 0 k0):=by rw [World.cell?_of_block (w:=W1) hbk];exact lg'
       have f8:w8.frozen? ⟨lb,2,none⟩=false:=by rw [World.frozen?_of_block (w:=W1) hbk];exact fg'
       have HOW:=hide hown'
       have HG8:=hide hg8
       clear hown' hgrow hloc hg8 hbk)
      all_goals
       go_wp2_with fail
       have hB8:Below w1.heap.size w1 w8:=by
        have hx:=((Below.refl W1.heap.size W1).alloc (Nat.le_refl _) (.cells #[.int .i64 P.kind,.bool P.clean,.bool P.will,.int .i64 P.keep,.string (bs P.client),.bool P.present,.int .i64 P.code,.bool P.dup,.int .i64 P.qos,.bool P.retain,.string (bs P.topic),.string (bs P.payload),.int .i64 P.id,.slice f1 f2 f3,.slice c1 c2 c3] 36))
        have hy:Below W1.heap.size W1 w8:=by
         first
          | exact hx.trans (HG8.out.mono hx.size)
          | exact hx.drew.trans (HG8.out.mono hx.size)
        exact HA1.out.trans (hy.mono HA1.out.size)
       refine ⟨⟨k+1,by omega,by go_num,HNX.out k o 1 P w1 w8 _ HOO.out HT.out.conn HDD.out hB8 ?_⟩,by simp [intOf];omega⟩
       simp only [pkK,HPf.out,HPc.out]
       exact HOW.out
  · go_wp2
    go_end0
    have hkl:k=L.length:=by omega
    subst hkl
    exact ⟨rfl,HJK.out⟩
end br
namespace br
open Go.RowKit topPlain topWalks decPlain rd ew encPlain rf
abbrev Dec:=Pkt×List (List UInt8×Int)×List Int
def GotP (N:Nat) (w:World) (v:Value) (r:Dec):Prop:=
 ∃ fv cv,w.ownsRow N 36 15 v 1 (pkK { r.1 with fv:=fv,cv:=cv }).toList∧w.ownsRow N 95 2 fv r.2.1.length (filC r.2.1)∧w.ownsRow N 3 1 cv r.2.2.length (ints r.2.2)
theorem own_past {w w':World} {C lb:Nat} {e:TypeId} {sz:Nat} {v:Value} {n:Nat} {xs:List Value} (h:w.ownsRow C e sz v n xs) (hlb:lb < C) (hb:But (fun b=>b=lb) w w'):w'.ownsRow C e sz v n xs:=
 own_but h hb (fun b hx f=>by have:=(own_zero h).2 b hx;omega)
theorem own_lower {w:World} {C C':Nat} {e:TypeId} {sz:Nat} {v:Value} {n:Nat} {xs:List Value} (h:w.ownsRow C e sz v n xs) (hl:C'≤C):w.ownsRow C' e sz v n xs:=by
 refine ⟨h.1,?_⟩
 rcases h.2 with h1 | ⟨g,cap,cur,e1,h2,h3⟩
 · exact Or.inl h1
 · exact Or.inr ⟨g,cap,cur,e1,Nat.le_trans hl h2,h3⟩
theorem GotP.past {N lb:Nat} {w w':World} {v:Value} {r:Dec} (h:GotP N w v r) (hlb:lb < N) (hb:But (fun b=>b=lb) w w'):GotP N w' v r:=by
 obtain ⟨fv,cv,h1,h2,h3⟩:=h
 exact ⟨fv,cv,own_past h1 hlb hb,own_past h2 hlb hb,own_past h3 hlb hb⟩
theorem below_drew (N:Nat) (w:World):Below N w w.drew:=⟨rfl,rfl,rfl,Nat.le_refl _,fun _ _=>rfl⟩
theorem OutsAt.but {F:Nat→Prop} {w w':World} {v:Value} {L:List (OutS×Value)} (h:OutsAt w v L) (hb:But F w w') (h1:∀ b,v.ownBlock=some b→¬ F b) (h2:∀ o b,o∈L→o.2.ownBlock=some b→¬ F b):OutsAt w' v L:=
 ⟨own_but h.row hb h1,fun o ho=>own_but (h.dat o ho) hb (fun b=>h2 o b ho)⟩
structure Took (lb:Nat) (V:LineV) (L:List (OutS×Value)) (R:Nat→Dec) (w:World) (i:Nat) (w':World):Prop where
 but:But (fun b=>b=lb) w w'
 line:∃ V',LineAt w' lb V'∧V'.b=V.b∧V'.bad=false∧V'.off=V.off∧(∀ n:Nat,(∀ j o,j < i→L[j]?=some o→o.1.conn≠(n:Int))→V'.got n=V.got n)∧∀ j o,j < i→L[j]?=some o→∃ n:Nat,o.1.conn=(n:Int)∧GotP w.heap.size w' (V'.got n) (R j)
theorem takes_all {N0:Nat} {ash aw:Addr} (lb:Nat) (ov:Value) (L:List (OutS×Value)) (V:LineV) (R:Nat→Dec) (w:World) (hG:Gd N0 ash aw w) (hlb:N0≤lb) (hO:OutsAt w ov L) (h:LineAt w lb V) (hbad:V.bad=false)
 (hL:∀ (j:Nat) o,L[j]?=some o→o.1.closed=false∧decL o.1.data=.inr (R j,o.1.data.length)∧0 < o.1.data.length∧o.1.data.length≤1000000∧∃ n:Nat,n < 2∧o.1.conn=(n:Int)∧V.got n=.slice none 0 0∧V.off n=false)
 (hd:∀ (i j:Nat) (o o':OutS×Value),L[i]?=some o→L[j]?=some o'→o.1.conn=o'.1.conn→i=j) :
 Calls Tryz.prog 65 #[.pointer (some ⟨lb,0,none⟩),ov,.int .i64 0] w fun e w'=>e=.returned (.tuple #[])∧Took lb V L R w L.length w':=by
 have hblk:w.heap[lb]?=some (.cells (lineC V) 60):=h
 have hlt:=blk_lt hblk
 have hn1:∀ b,ov.ownBlock=some b→¬ b=lb:=fun b hb e=>by
  subst e;obtain ⟨cur,hc⟩:=own_blk hO.row hb;rw [hblk] at hc;simp at hc
 have hn2:∀ (o:OutS×Value) b,o∈L→o.2.ownBlock=some b→¬ b=lb:=fun o b ho hb e=>by
  subst e;obtain ⟨cur,hc⟩:=own_blk (hO.dat o ho) hb;rw [hblk] at hc;simp at hc
 refine takes_any lb ov L V w (Took lb V L R w) (fun i P w''=>∃ w' fv cv,Took lb V L R w i w'∧Below w'.heap.size w' w''∧P = { (R i).1 with fv:=fv,cv:=cv }∧w''.ownsRow w'.heap.size 95 2 fv (R i).2.1.length (filC (R i).2.1)∧w''.ownsRow w'.heap.size 3 1 cv (R i).2.2.length (ints (R i).2.2)) hO h hbad ?_ ?_ ?_ ?_
 · refine ⟨But.set _ _ _ rfl,{ V with bad:=false },?_,rfl,rfl,rfl,fun _ _=>rfl,fun j o hj=>by omega⟩
   show (w.setCell ⟨lb,17,none⟩ (.bool false)).heap[lb]?=_
   rw [blk_set _ hblk]
   rfl
 · rintro i w' o hT ho
   obtain ⟨_,h2,h3,h4,n,hn,h5,h6,h7⟩:=hL i o ho
   have hGw:Gd N0 ash aw w'.drew:=(hG.below (hT.but.below (fun b e=>by subst e;exact hlb) hG.env.size)).below (below_drew _ _)
   have hmem:o∈L:=List.mem_of_getElem? ho
   have hdat:w'.drew.ownsRow 0 5 1 o.2 o.1.data.length (u8s o.1.data):=own_keep (own_but (hO.dat o hmem) hT.but (fun b hb=>hn2 o b hmem hb)) (fun _ _=>rfl)
   obtain ⟨q,kap,hq⟩:=own_form hdat
   rw [hq] at hdat
   obtain ⟨g,rfl,_⟩:=own_at hdat h3
   rw [hq]
   refine (cDecode_any ash aw w'.drew o.1.data _ (by omega) (Or.inr (bytesV_own hdat)) hGw.errs hGw.env').mono ?_
   rintro e w'' ⟨hB,hR⟩
   rw [h2] at hR
   obtain ⟨fv,cv,rfl,hf,hc⟩:=hR
   have hB':Below w'.heap.size w' w'':=⟨hB.os,hB.tape,hB.output,hB.size,hB.block⟩
   obtain ⟨a1,a2,rfl⟩:=own_form hf
   obtain ⟨c1,c2,rfl⟩:=own_form hc
   exact ⟨_,a1,_,a2,c1,_,c2,rfl,rfl,rfl,hB',w',_,_,hT,hB',rfl,hf,hc⟩
 · rintro i o n P w1 w8 v' ho hcn ⟨w',fv,cv,hT,hB,rfl,hf,hc⟩ hB8 hv
   obtain ⟨_,_,_,_,n',hn',h5,h6,h7⟩:=hL i o ho
   have hnn:n=n':=by have:=hcn.symm.trans h5;omega
   subst hnn
   have hB18:Below w'.heap.size w' w8:=hB.trans (hB8.mono hB.size)
   obtain ⟨V',l1,l2,l3,l4,l5,l6⟩:=hT.line
   have hl8:w8.heap[lb]?=some (.cells (lineC V') 60):=(hB18.block _ (blk_lt l1)).trans l1
   have hsz:=hT.but.size
   have hsz1:=hB.size
   have hS:But (fun b=>b=lb) w8 (w8.setCell ⟨lb,1+n,none⟩ v'):=But.set _ _ _ rfl
   have hW:But (fun b=>b=lb) w' (w8.setCell ⟨lb,1+n,none⟩ v'):=(But.of_below hB18).trans hS (fun _ _ f=>f)
   refine ⟨hT.but.trans hW (fun _ _ f=>f),V'.setGot n v',?_,l2,l3,l4,?_,?_⟩
   · show (w8.setCell ⟨lb,1+n,none⟩ v').heap[lb]?=_
     rw [blk_set _ hl8,lineC_setGot V' (by omega)]
   · intro m hm
     have hne:m≠n:=by rintro rfl;exact hm i o (Nat.lt_succ_self i) ho hcn
     show (if m=n then v' else V'.got m)=_
     rw [if_neg hne]
     exact l5 m (fun j o' hj ho'=>hm j o' (by omega) ho')
   · intro j o' hj ho'
     rcases (show j < i∨j=i by omega) with hji | rfl
     · obtain ⟨m,hm,hg⟩:=l6 j o' hji ho'
       have hne:m≠n:=by rintro rfl;have:=hd j i o' o ho' ho (hm.trans hcn.symm);omega
       refine ⟨m,hm,?_⟩
       show GotP w.heap.size (w8.setCell ⟨lb,1+n,none⟩ v') (if m=n then v' else V'.got m) (R j)
       rw [if_neg hne]
       exact hg.past hlt hW
     · refine ⟨n,by rw [Option.some.inj (ho'.symm.trans ho)];exact hcn,?_⟩
       show GotP w.heap.size (w8.setCell ⟨lb,1+n,none⟩ v') (if n=n then v' else V'.got n) (R j)
       rw [if_pos rfl]
       exact ⟨fv,cv,own_past (own_lower hv (by omega)) hlt hS,own_past (own_lower (own_keep hf (fun b hb=>by obtain ⟨cur,hcu⟩:=own_blk hf hb;exact hB8.block b (blk_lt hcu))) (by omega)) hlt hS,own_past (own_lower (own_keep hc (fun b hb=>by obtain ⟨cur,hcu⟩:=own_blk hc hb;exact hB8.block b (blk_lt hcu))) (by omega)) hlt hS⟩
 · rintro i w' o hT ho
   obtain ⟨h1,_,h3,_,n,hn,h5,h6,h7⟩:=hL i o ho
   obtain ⟨V',l1,l2,l3,l4,l5,l6⟩:=hT.line
   have hmem:o∈L:=List.mem_of_getElem? ho
   have hdat:=hO.dat o hmem
   obtain ⟨q,kap,hq⟩:=own_form hdat
   rw [hq] at hdat
   obtain ⟨g,rfl,_⟩:=own_at hdat h3
   exact ⟨n,V',l1,hO.but hT.but hn1 hn2,h5,hn,h1,by rw [l4];exact h7,(l5 n (fun j o' hj ho' e=>by have:=hd j i o' o ho' ho (e.trans h5.symm);omega)).trans h6,⟨_,_,hq⟩,h3⟩
end br
namespace br
open Go.RowKit topPlain topWalks decPlain
theorem infoInt8:(Tryz.prog.info? 3).map (fun i=>(i.zero,i.size,i.bytes))=some (some (.int .i64 0),1,8):=by kernel_rfl
def subS (id:Int) (cv:Value):Pkt:={ zP with kind:=9,id:=id,cv:=cv }
set_option maxHeartbeats 1600000 in
set_option maxRecDepth 100000 in
theorem subscribe_one (B cb sb g kap:Nat) (f:List UInt8×Int) (p:Pkt) (w:World) (Q1 Q2:World→Prop) (R:Ending→World→Prop) (c1:Option Addr) (c2 c3:Nat) (hfv:p.fv=.slice (some ⟨g,0,none⟩) 1 kap) (hcv:p.cv=.slice c1 c2 c3)
 (hc:w.cell? ⟨cb,18,none⟩=some (.pointer (some ⟨sb,0,none⟩)))
 (hg0:w.cell? ⟨g,0,none⟩=some (.string (bs f.1))) (hg1:w.cell? ⟨g,1,none⟩=some (.int .i64 f.2))
 (hT:∀ w',Below w.heap.size w w'→Calls Tryz.prog 214 #[.pointer (some ⟨sb,0,none⟩),.agg #[.string (bs f.1),.int .i64 f.2]] w' fun e w''=>e=.returned (.bool true)∧Q1 w''∧Keep w.heap.size w' w'')
 (hC1:∀ a,Q1 a→a.cell? ⟨cb,18,none⟩=some (.pointer (some ⟨sb,0,none⟩))) (hC2:∀ a,Q2 a→a.cell? ⟨cb,18,none⟩=some (.pointer (some ⟨sb,0,none⟩)))
 (hQ1:∀ a b,Q1 a→Below a.heap.size a b→Q1 b) (hQ2:∀ a b,Q2 a→Below a.heap.size a b→Q2 b)
 (hW:∀ w' cv,Q1 w'→w'.ownsRow w.heap.size 3 1 cv 1 [.int .i64 f.2]→Calls Tryz.prog 131 #[.pointer (some ⟨B,0,none⟩),.pointer (some ⟨cb,0,none⟩),.agg (pkK (subS p.id cv))] w' fun e w''=>e=.returned (.tuple #[])∧Q2 w''∧Keep w.heap.size w' w'')
 (hR:∀ w',Q2 w'→Calls Tryz.prog 215 #[.pointer (some ⟨B,0,none⟩),.pointer (some ⟨sb,0,none⟩),.agg #[.string (bs f.1),.int .i64 f.2]] w' fun e w''=>e=.returned (.tuple #[])∧R e w''∧Below w'.heap.size w' w'') :
 Calls Tryz.prog 167 #[.pointer (some ⟨B,0,none⟩),.pointer (some ⟨cb,0,none⟩),.agg (pkK p)] w R:=by
 have HT:=hide hT
 have HC1:=hide hC1
 have HC2:=hide hC2
 have HQ1:=hide hQ1
 have HQ2:=hide hQ2
 have HW:=hide hW
 have HRR:=hide hR
 have HB:=hide fun o=>(Below.refl w.heap.size w).alloc (Nat.le_refl _) o
 have hA:=fun o=>alloc_cell hc o
 have hA0:=fun o=>alloc_cell hg0 o
 have hA1:=fun o=>alloc_cell hg1 o
 have hlc:=cell_blt hc
 simp only at hlc
 simp only [pkK,hfv,hcv,subS,zP] at HW ⊢
 clear hT hC1 hC2 hQ1 hQ2 hW hR hfv hcv
 go_enter Tryz.func167,Tryz.ntmps167
 go_wp2_with fail
 have hBA:=HB.out (.cells #[.int .i64 p.kind,.bool p.clean,.bool p.will,.int .i64 p.keep,.string (bs p.client),.bool p.present,.int .i64 p.code,.bool p.dup,.int .i64 p.qos,.bool p.retain,.string (bs p.topic),.string (bs p.payload),.int .i64 p.id,.slice (some ⟨g,0,none⟩) 1 kap,.slice c1 c2 c3] 36)
 have hnew:=heap_alloc_new w (.cells #[.int .i64 p.kind,.bool p.clean,.bool p.will,.int .i64 p.keep,.string (bs p.client),.bool p.present,.int .i64 p.code,.bool p.dup,.int .i64 p.qos,.bool p.retain,.string (bs p.topic),.string (bs p.payload),.int .i64 p.id,.slice (some ⟨g,0,none⟩) 1 kap,.slice c1 c2 c3] 36)
 have a18:=hA (.cells #[.int .i64 p.kind,.bool p.clean,.bool p.will,.int .i64 p.keep,.string (bs p.client),.bool p.present,.int .i64 p.code,.bool p.dup,.int .i64 p.qos,.bool p.retain,.string (bs p.topic),.string (bs p.payload),.int .i64 p.id,.slice (some ⟨g,0,none⟩) 1 kap,.slice c1 c2 c3] 36)
 have a0:=hA0 (.cells #[.int .i64 p.kind,.bool p.clean,.bool p.will,.int .i64 p.keep,.string (bs p.client),.bool p.present,.int .i64 p.code,.bool p.dup,.int .i64 p.qos,.bool p.retain,.string (bs p.topic),.string (bs p.payload),.int .i64 p.id,.slice (some ⟨g,0,none⟩) 1 kap,.slice c1 c2 c3] 36)
 have a1:=hA1 (.cells #[.int .i64 p.kind,.bool p.clean,.bool p.will,.int .i64 p.keep,.string (bs p.client),.bool p.present,.int .i64 p.code,.bool p.dup,.int .i64 p.qos,.bool p.retain,.string (bs p.topic),.string (bs p.payload),.int .i64 p.id,.slice (some ⟨g,0,none⟩) 1 kap,.slice c1 c2 c3] 36)
 clear hA hA0 hA1 HB hg0 hg1
 generalize w.alloc (.cells #[.int .i64 p.kind,.bool p.clean,.bool p.will,.int .i64 p.keep,.string (bs p.client),.bool p.present,.int .i64 p.code,.bool p.dup,.int .i64 p.qos,.bool p.retain,.string (bs p.topic),.string (bs p.payload),.int .i64 p.id,.slice (some ⟨g,0,none⟩) 1 kap,.slice c1 c2 c3] 36)=W0 at *
 have h12:W0.cell? ⟨w.heap.size,12,none⟩=some (.int .i64 p.id):=blk_cell hnew rfl
 have hl0:=blk_lt hnew
 have HN:=hide hnew
 have HBA:=hide hBA
 have H12:=hide h12
 clear hnew hBA h12
 obtain ⟨i0,hi0,hz0,hz1,hz2⟩:=info_parts infoFil
 obtain ⟨j0,hj0,hy0,hy1,hy2⟩:=info_parts infoInt8
 go_loopw [6,7,15] (fun tv cv i wx=>(i=.int .i64 0∧tv=.slice none 0 0∧cv=.slice none 0 0∧wx=W0)∨(i=.int .i64 1∧Q1 wx∧Keep w.heap.size W0 wx∧wx.ownsRow w.heap.size 95 2 tv 1 [.string (bs f.1),.int .i64 f.2]∧wx.ownsRow w.heap.size 3 1 cv 1 [.int .i64 f.2])) (fun _ _ i _=>1 - (intOf i).toNat)
 case atStart=>exact Or.inl ⟨rfl,rfl,rfl,rfl⟩
 case round =>
  rcases hrel with ⟨rfl,rfl,rfl,rfl⟩ | ⟨rfl,hq1,hkp,ht,hcd⟩
  · go_wp2_with fail
    have hB1:=(Below.refl wr.heap.size wr).alloc (Nat.le_refl _) (.cells #[.string (bs f.1),.int .i64 f.2] 95)
    have hn1:=heap_alloc_new wr (.cells #[.string (bs f.1),.int .i64 f.2] 95)
    generalize wr.alloc (.cells #[.string (bs f.1),.int .i64 f.2] 95)=W1 at *
    have f0:W1.cell? ⟨wr.heap.size,0,none⟩=some (.string (bs f.1)):=blk_cell hn1 rfl
    have f1:W1.cell? ⟨wr.heap.size,1,none⟩=some (.int .i64 f.2):=blk_cell hn1 rfl
    have f18:W1.cell? ⟨cb,18,none⟩=some (.pointer (some ⟨sb,0,none⟩)):=by rw [hB1.cell (cell_blt a18)];exact a18
    have hlw:=blk_lt hn1
    have hs0:=hB1.size
    have HB1:=hide hB1
    have HN1:=hide hn1
    clear hB1 hn1 a18 a0 a1
    go_region_held3 (fun w'=>w'.cell? ⟨cb,18,none⟩=some (.pointer (some ⟨sb,0,none⟩))∧w'.cell? ⟨wr.heap.size,0,none⟩=some (.string (bs f.1))∧w'.cell? ⟨wr.heap.size,1,none⟩=some (.int .i64 f.2))
     (go_keep)
     (first
      | (go_at_call 214
         refine (HT.out _ (HBA.out.trans (HB1.out.mono HBA.out.size)).drew).mono ?_
         rintro e w1 ⟨rfl,hq1,hk1⟩
         have hn2:w1.heap[wr.heap.size]?=some (.cells #[.string (bs f.1),.int .i64 f.2] 95):=(hk1.2 _ (by omega) (by exact hlw)).trans HN1.out
         have k18:=HC1.out _ hq1
         have k0:w1.cell? ⟨wr.heap.size,0,none⟩=some (.string (bs f.1)):=blk_cell hn2 rfl
         have k1:w1.cell? ⟨wr.heap.size,1,none⟩=some (.int .i64 f.2):=blk_cell hn2 rfl
         have HQA:=hide hq1
         have HKA:=hide hk1
         have hl2:=blk_lt hn2
         have hs1:W1.heap.size≤w1.heap.size:=hk1.1
         clear hq1 hk1 hn2))
    all_goals
     go_wp2_with (first
      | (at_builtin;refine wpList_append_own_at _ rfl _ _ 33 rfl w.heap.size 95 i0 (.agg #[.string ByteArray.empty,.int .i64 0]) 2 24 Tryz.underlying33 hi0 hz0 hz1 hz2 rfl (by decide) (.slice none 0 0) 0 [] rfl ⟨rfl,Or.inl ⟨rfl,rfl⟩⟩ ⟨w1.heap.size,0,none⟩ 1 1 [.string (bs f.1),.int .i64 f.2] rfl rfl (news_new _ _ _) ?c2 ?c3 ?c4 ?c5 ?_))
    case c2=>intro u hu;simp at hu;rcases hu with rfl | rfl<;>rfl
    case c3=>unfold maxLen;omega
    case c4=>omega
    case c5=>have:=HBA.out.size;simp;omega
    intro v2 w2 hown2 hgrow2 _ _
    have hA2:=(Below.refl w1.heap.size w1).alloc (Nat.le_refl _) (.cells #[.string (bs f.1),.int .i64 f.2] 95)
    have hB2:Below w1.heap.size w1 w2:=hA2.trans ((But.of_grown (F:=fun _=>False) hgrow2 (fun b hb=>by cases hb)).below'.mono hA2.size)
    have k1':w2.cell? ⟨wr.heap.size,1,none⟩=some (.int .i64 f.2):=by rw [hB2.cell hl2];exact k1
    have hs2:=hB2.size
    have HB2:=hide hB2
    have HO2:=hide hown2
    clear hown2 hgrow2 hA2 hB2 k0 k1 k18
    go_wp2_with (first
     | (at_builtin;refine wpList_append_own_at _ rfl _ _ 34 rfl w.heap.size 3 j0 (.int .i64 0) 1 8 Tryz.underlying34 hj0 hy0 hy1 hy2 rfl (by decide) (.slice none 0 0) 0 [] rfl ⟨rfl,Or.inl ⟨rfl,rfl⟩⟩ ⟨w2.heap.size,0,none⟩ 1 1 [.int .i64 f.2] rfl rfl (cell_one_new _ _ _) ?d2 ?d3 ?d4 ?d5 ?_))
    case d2=>intro u hu;simp at hu;subst hu;rfl
    case d3=>unfold maxLen;omega
    case d4=>omega
    case d5=>have:=HBA.out.size;simp;omega
    intro v3 w3 hown3 hgrow3 _ _
    have hA3:=(Below.refl w2.heap.size w2).alloc (Nat.le_refl _) (.cells #[.int .i64 f.2] 3)
    have hB3:Below w2.heap.size w2 w3:=hA3.trans ((But.of_grown (F:=fun _=>False) hgrow3 (fun b hb=>by cases hb)).below'.mono hA3.size)
    have HB3:=hide hB3
    have HO3:=hide hown3
    clear hown3 hgrow3 hA3 hB3 k1'
    go_wp2_with fail
    have hQ3:=HQ1.out _ _ (HQ1.out _ _ HQA.out HB2.out) HB3.out
    have hK1:Keep w.heap.size wr w1:=(Keep.of_below HB1.out.drew).trans HKA.out
    have hK3:Keep w.heap.size wr w3:=(hK1.trans (Keep.of_below HB2.out)).trans (Keep.of_below HB3.out)
    exact ⟨Or.inr ⟨rfl,hQ3,hK3,own_keep HO2.out (fun b hb=>by obtain ⟨cur,hc⟩:=own_blk HO2.out hb;exact HB3.out.block b (blk_lt hc)),HO3.out⟩,by simp [intOf]⟩
  · have HQA:=hide hq1
    have HKA:=hide hkp
    have HTA:=hide ht
    have HCA:=hide hcd
    obtain ⟨q3,c3,rfl⟩:=own_form ht
    obtain ⟨q4,c4,rfl⟩:=own_form hcd
    have e12:wr.cell? ⟨w.heap.size,12,none⟩=some (.int .i64 p.id):=by rw [World.cell?_of_block (w:=W0) (hkp.2 _ (Nat.le_refl _) hl0)];exact H12.out
    clear hq1 hkp ht hcd
    go_wp2_with fail
    refine (HW.out _ (.slice q4 1 c4) HQA.out HCA.out).mono ?_
    rintro e w4 ⟨rfl,hq2,hk4⟩
    obtain ⟨g3,hq3,hg3,hkc3,hcm3,hcell3⟩:=own_at HTA.out (by omega)
    have hge3:=own_from HTA.out hq3
    subst hq3
    unfold maxLen at hcm3
    have t0:w4.cell? ⟨g3,0,none⟩=some (.string (bs f.1)):=by rw [World.cell?_of_block (w:=wr) (hk4.2 g3 hge3 hg3)];exact hcell3 0 _ rfl
    have t1:w4.cell? ⟨g3,1,none⟩=some (.int .i64 f.2):=by rw [World.cell?_of_block (w:=wr) (hk4.2 g3 hge3 hg3)];exact hcell3 1 _ rfl
    have HQB:=hide hq2
    clear hq2 hk4 hcell3 e12
    go_wp2_with fail
    go_loopw [47] (fun i wx=>(i=.int .i64 0∧wx=w4)∨(i=.int .i64 1∧R (.returned (.tuple #[])) wx)) (fun i _=>1 - (intOf i).toNat)
    case atStart=>exact Or.inl ⟨rfl,rfl⟩
    case round =>
     rcases hrel with ⟨rfl,rfl⟩ | ⟨rfl,hRf⟩
     · go_wp2_with fail
       have hB5:=(Below.refl wr.heap.size wr).alloc (Nat.le_refl _) (.cells #[.string (bs f.1),.int .i64 f.2] 95)
       have hn5:=heap_alloc_new wr (.cells #[.string (bs f.1),.int .i64 f.2] 95)
       have HQ5:=hide (HQ2.out _ _ HQB.out hB5.drew)
       have f18:=HC2.out _ (HQ2.out _ _ HQB.out hB5)
       generalize wr.alloc (.cells #[.string (bs f.1),.int .i64 f.2] 95)=W5 at *
       have f0:W5.cell? ⟨wr.heap.size,0,none⟩=some (.string (bs f.1)):=blk_cell hn5 rfl
       have f1:W5.cell? ⟨wr.heap.size,1,none⟩=some (.int .i64 f.2):=blk_cell hn5 rfl
       have hl5:=blk_lt hn5
       have hl6:=cell_blt f18
       simp only at hl6
       clear hB5 hn5 t0 t1
       go_region_held3 (fun w'=>w'.cell? ⟨cb,18,none⟩=some (.pointer (some ⟨sb,0,none⟩))∧w'.cell? ⟨wr.heap.size,0,none⟩=some (.string (bs f.1))∧w'.cell? ⟨wr.heap.size,1,none⟩=some (.int .i64 f.2))
        (go_keep)
        (first
         | (go_at_call 215
            refine (HRR.out _ HQ5.out).mono ?_
            rintro e w5 ⟨rfl,hR5,hB6⟩
            have k18:w5.cell? ⟨cb,18,none⟩=some (.pointer (some ⟨sb,0,none⟩)):=by rw [hB6.cell (by exact hl6)];exact f18
            have k0:w5.cell? ⟨wr.heap.size,0,none⟩=some (.string (bs f.1)):=by rw [hB6.cell (by exact hl5)];exact f0
            have k1:w5.cell? ⟨wr.heap.size,1,none⟩=some (.int .i64 f.2):=by rw [hB6.cell (by exact hl5)];exact f1
            have HR5:=hide hR5
            clear hR5 hB6))
       all_goals
        go_wp2_with fail
       exact ⟨Or.inr ⟨rfl,HR5.out⟩,by simp [intOf]⟩
     · have HRF:=hide hRf
       clear hRf
       go_wp2
       go_end0
       exact HRF.out
end br
end Go.Proofs.YtnmfmoimjkoieaaGreatDoor
