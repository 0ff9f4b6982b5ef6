import Derived.Test.YtnmfmoimjkoieaaGreatDoorF26
import Derived.Test.YtnmfmoimjkoieaaGreatDoorF25
import Derived.Test.YtnmfmoimjkoieaaGreatDoorF38
import Derived.Test.YtnmfmoimjkoieaaGreatDoorF27
import Derived.Test.YtnmfmoimjkoieaaGreatDoorF29
import Derived.Test.YtnmfmoimjkoieaaGreatDoorF37
import Derived.Test.YtnmfmoimjkoieaaGreatDoorF01
import Derived.Test.YtnmfmoimjkoieaaGreatDoorF24
import Derived.Test.YtnmfmoimjkoieaaGreatDoorF31
namespace Go.Proofs.YtnmfmoimjkoieaaGreatDoor
namespace br
open Go.RowKit topPlain topWalks decPlain
def pongS:Pkt:={ zP with kind:=13 }
set_option maxHeartbeats 800000 in
set_option maxRecDepth 100000 in
/-- a handler that calls a method with the broker, the connection and the packet -/
theorem h_uns (B cb x y:Nat) (p:Pkt) (w:World) (R:Ending→World→Prop) (hb:Boxes w B cb x y) (hfv:∃ a b c,p.fv=.slice a b c) (hcv:∃ a b c,p.cv=.slice a b c)
 (hK:∀ w',Below w.heap.size w w'→Calls Tryz.prog 169 #[.pointer (some ⟨B,0,none⟩),.pointer (some ⟨cb,0,none⟩),.agg (pkK p)] w' fun e w''=>e=.returned (.tuple #[])∧R e w'') :
 Calls Tryz.prog 168 #[.agg (pkK p),.pointer (some ⟨x,0,none⟩),.pointer (some ⟨y,0,none⟩)] w R:=by
 have cx:w.cell? ⟨x,0,none⟩=some (.pointer (some ⟨B,0,none⟩)):=blk_cell hb.bx rfl
 have cy:w.cell? ⟨y,0,none⟩=some (.pointer (some ⟨cb,0,none⟩)):=blk_cell hb.by_ rfl
 have hlx:=blk_lt hb.bx
 have hly:=blk_lt hb.by_
 obtain ⟨f1,f2,f3,hfv⟩:=hfv
 obtain ⟨c1,c2,c3,hcv⟩:=hcv
 have HK:=hide hK
 clear hK hb
 simp only [pkK,hfv,hcv] at HK ⊢
 have HB:=hide fun o=>(Below.refl w.heap.size w).alloc (Nat.le_refl _) o
 clear hfv hcv
 go_enter Tryz.func168,Tryz.ntmps168
 go_wp2_with fail
 refine (HK.out _ (HB.out _)).mono ?_
 rintro e w1 ⟨rfl,hR⟩
 have HR:=hide hR
 clear hR
 go_wp2
 go_end0
 exact HR.out
set_option maxHeartbeats 800000 in
set_option maxRecDepth 100000 in
/-- a handler that calls a method with the broker, the connection and the packet -/
theorem h_ping (B cb x y:Nat) (p:Pkt) (w:World) (R:Ending→World→Prop) (hb:Boxes w B cb x y) (hfv:∃ a b c,p.fv=.slice a b c) (hcv:∃ a b c,p.cv=.slice a b c)
 (hK:∀ w',Below w.heap.size w w'→Calls Tryz.prog 131 #[.pointer (some ⟨B,0,none⟩),.pointer (some ⟨cb,0,none⟩),.agg (pkK pongS)] w' fun e w''=>e=.returned (.tuple #[])∧R e w'') :
 Calls Tryz.prog 170 #[.agg (pkK p),.pointer (some ⟨x,0,none⟩),.pointer (some ⟨y,0,none⟩)] w R:=by
 have cx:w.cell? ⟨x,0,none⟩=some (.pointer (some ⟨B,0,none⟩)):=blk_cell hb.bx rfl
 have cy:w.cell? ⟨y,0,none⟩=some (.pointer (some ⟨cb,0,none⟩)):=blk_cell hb.by_ rfl
 have hlx:=blk_lt hb.bx
 have hly:=blk_lt hb.by_
 obtain ⟨f1,f2,f3,hfv⟩:=hfv
 obtain ⟨c1,c2,c3,hcv⟩:=hcv
 have HK:=hide hK
 clear hK hb
 simp only [pkK,pongS,zP,hfv,hcv] at HK ⊢
 have HB:=hide fun o=>(Below.refl w.heap.size w).alloc (Nat.le_refl _) o
 clear hfv hcv
 go_enter Tryz.func170,Tryz.ntmps170
 go_wp2_with fail
 refine (HK.out _ (HB.out _)).mono ?_
 rintro e w1 ⟨rfl,hR⟩
 have HR:=hide hR
 clear hR
 go_wp2
 go_end0
 exact HR.out
set_option maxHeartbeats 800000 in
set_option maxRecDepth 100000 in
/-- a handler that calls a method with the broker, the connection and the packet -/
theorem h_bye (B cb x y:Nat) (p:Pkt) (w:World) (R:Ending→World→Prop) (hb:Boxes w B cb x y) (hfv:∃ a b c,p.fv=.slice a b c) (hcv:∃ a b c,p.cv=.slice a b c)
 (hK:∀ w',Below w.heap.size w w'→Calls Tryz.prog 109 #[.pointer (some ⟨B,0,none⟩),.pointer (some ⟨cb,0,none⟩)] w' fun e w''=>e=.returned (.tuple #[])∧R e w'') :
 Calls Tryz.prog 171 #[.agg (pkK p),.pointer (some ⟨x,0,none⟩),.pointer (some ⟨y,0,none⟩)] w R:=by
 have cx:w.cell? ⟨x,0,none⟩=some (.pointer (some ⟨B,0,none⟩)):=blk_cell hb.bx rfl
 have cy:w.cell? ⟨y,0,none⟩=some (.pointer (some ⟨cb,0,none⟩)):=blk_cell hb.by_ rfl
 have hlx:=blk_lt hb.bx
 have hly:=blk_lt hb.by_
 obtain ⟨f1,f2,f3,hfv⟩:=hfv
 obtain ⟨c1,c2,c3,hcv⟩:=hcv
 have HK:=hide hK
 clear hK hb
 simp only [pkK,hfv,hcv] at HK ⊢
 have HB:=hide fun o=>(Below.refl w.heap.size w).alloc (Nat.le_refl _) o
 clear hfv hcv
 go_enter Tryz.func171,Tryz.ntmps171
 go_wp2_with fail
 refine (HK.out _ (HB.out _)).mono ?_
 rintro e w1 ⟨rfl,hR⟩
 have HR:=hide hR
 clear hR
 go_wp2
 go_end0
 exact HR.out
set_option maxHeartbeats 800000 in
set_option maxRecDepth 100000 in
/-- a handler that calls a method with the broker, the connection and the packet -/
theorem h_not (B cb x y:Nat) (p:Pkt) (w:World) (R:Ending→World→Prop) (hb:Boxes w B cb x y) (hfv:∃ a b c,p.fv=.slice a b c) (hcv:∃ a b c,p.cv=.slice a b c)
 (hK:∀ w',Below w.heap.size w w'→Calls Tryz.prog 79 #[.pointer (some ⟨B,0,none⟩),.pointer (some ⟨cb,0,none⟩)] w' fun e w''=>e=.returned (.tuple #[])∧R e w'') :
 Calls Tryz.prog 126 #[.agg (pkK p),.pointer (some ⟨x,0,none⟩),.pointer (some ⟨y,0,none⟩)] w R:=by
 have cx:w.cell? ⟨x,0,none⟩=some (.pointer (some ⟨B,0,none⟩)):=blk_cell hb.bx rfl
 have cy:w.cell? ⟨y,0,none⟩=some (.pointer (some ⟨cb,0,none⟩)):=blk_cell hb.by_ rfl
 have hlx:=blk_lt hb.bx
 have hly:=blk_lt hb.by_
 obtain ⟨f1,f2,f3,hfv⟩:=hfv
 obtain ⟨c1,c2,c3,hcv⟩:=hcv
 have HK:=hide hK
 clear hK hb
 simp only [pkK,hfv,hcv] at HK ⊢
 have HB:=hide fun o=>(Below.refl w.heap.size w).alloc (Nat.le_refl _) o
 clear hfv hcv
 go_enter Tryz.func126,Tryz.ntmps126
 go_wp2_with fail
 refine (HK.out _ (HB.out _)).mono ?_
 rintro e w1 ⟨rfl,hR⟩
 have HR:=hide hR
 clear hR
 go_wp2
 go_end0
 exact HR.out
end br
namespace br
open Go.RowKit topPlain topWalks Go.Maps Go.Sort
set_option maxHeartbeats 800000 in
set_option maxRecDepth 100000 in
theorem publish_ret (B mb nn:Nat) (m:Msg) (D:DataW Unit) (ks:List (List UInt8)) (w:World) (J:Nat→World→Prop) (hr:m.retain=true)
 (hks:∀ ss:List (List UInt8),ss.Perm (strKeys D)→ss.mergeSort (fun x y=>decide (x≤y))=ks) (hsz:Maps.size D≤1000000)
 (b10:w.cell? ⟨B,10,none⟩=some (.map (some mb))) (hB:B < w.heap.size) (hJ0:∀ w',Below w.heap.size w w'→Calls Tryz.prog 141 #[.pointer (some ⟨B,11,none⟩),msgV m] w' fun e w''=>e=.returned (.tuple #[])∧J 0 w''∧Keep w.heap.size w' w'') (hJm:∀ k w',J k w'→w'.cell? ⟨B,10,none⟩=some (.map (some mb))∧w'.ownsMap Tryz.prog 9 (ptrElem) mb nn D)
 (hJs:∀ k a b,J k a→Below a.heap.size a b→J k b)
 (hR:∀ k c,ks[k]?=some c→c.length≤1000∧∃ sb q a,D.atKey (.string c) .nil=.lit (.int .i64 ((sb:Nat):Int))∧PubRound w.heap.size m J k sb q a) :
 Calls Tryz.prog 110 #[.pointer (some ⟨B,0,none⟩),msgV m] w fun e w'=>e=.returned (.tuple #[])∧J ks.length w':=by
 have HJ0:=hide hJ0
 have HJM:=hide hJm
 have HJS:=hide hJs
 have HR:=hide hR
 have HKS:=hide hks
 have HB:=hide fun o=>(Below.refl w.heap.size w).alloc (Nat.le_refl _) o
 simp only [msgV,hr] at HJ0
 have hA:=fun o=>alloc_cell b10 o
 clear hJ0 hJm hJs hR hks
 unfold msgV
 rw [hr]
 have HRT:=hide hr
 clear hr
 go_enter Tryz.func110,Tryz.ntmps110
 go_wp2_with fail
 have hA1:=HB.out (.cells #[.string (bs m.topic),.string (bs m.payload),.int .i64 m.qos,.bool true] 206)
 have hnew:=heap_alloc_new w (.cells #[.string (bs m.topic),.string (bs m.payload),.int .i64 m.qos,.bool true] 206)
 clear hA HB
 generalize w.alloc (.cells #[.string (bs m.topic),.string (bs m.payload),.int .i64 m.qos,.bool true] 206)=W0 at *
 have d0:W0.cell? ⟨w.heap.size,0,none⟩=some (.string (bs m.topic)):=blk_cell hnew rfl
 have d1:W0.cell? ⟨w.heap.size,1,none⟩=some (.string (bs m.payload)):=blk_cell hnew rfl
 have d2:W0.cell? ⟨w.heap.size,2,none⟩=some (.int .i64 m.qos):=blk_cell hnew rfl
 have d3:W0.cell? ⟨w.heap.size,3,none⟩=some (.bool true):=blk_cell hnew rfl
 have hlN:=blk_lt hnew
 have hlB:B < W0.heap.size:=Nat.lt_of_lt_of_le hB hA1.size
 have cK:=hide (HJ0.out W0.drew hA1.drew)
 have HNW:=hide hnew
 clear hnew hA1 b10 HJ0
 go_region_with (
  refine cK.out.mono ?_
  rintro e W3 ⟨rfl,hJ3,hK3⟩
  have hnew:=(hK3.2 _ (Nat.le_refl _) hlN).trans HNW.out
  have HJ3:=hide hJ3
  have HNEW:=hide hnew
  clear hJ3 hK3 hnew cK)
 all_goals
  clear d0 d1 d2 d3 hlN hlB HNW
  have hnew:=HNEW.out
  have b3:=(HJM.out _ _ HJ3.out).1
  have hlN3:=blk_lt hnew
  have hB3:=cell_blt b3
  simp only at hB3
  go_wp2_with fail
  refine (keys_any _ _).mono ?_
  rintro e w1 ⟨rfl,hw1⟩
  have hA2:RowKit.Below W3.heap.size W3 w1:=by rw [hw1];exact (Below.refl W3.heap.size W3).alloc (Nat.le_refl _) _
  have hx:w1.heap[W3.heap.size]?=some (.cells #[.map (some mb)] 126):=by rw [hw1];exact heap_alloc_new _ _
  have hn1:w1.heap[w.heap.size]?=some (.cells #[.string (bs m.topic),.string (bs m.payload),.int .i64 m.qos,.bool true] 206):=(hA2.block _ (blk_lt hnew)).trans hnew
  have HJ1:=hide (HJS.out _ _ _ HJ3.out hA2)
  have HN1:=hide hn1
  have hl1:=blk_lt hn1
  have cS:=hide (sorted_any W3.heap.size mb nn D ptrElem w1 hx (HJM.out _ _ HJ1.out).2 hsz)
  clear hw1 hA2 hx hn1 hnew
  go_wp2_with fail
  refine cS.out.mono ?_
  rintro e w2 ⟨v,ss,rfl,hperm,hrow,hB2⟩
  rw [HKS.out ss hperm] at hrow
  have hlen:ss.length=ks.length:=by rw [← HKS.out ss hperm];simp
  rw [hlen] at hrow
  obtain ⟨q,kap,rfl⟩:=own_form hrow
  have hn2:=(hB2.block _ hl1).trans HN1.out
  have HROW:=hide hrow
  have HJ2:=hide (HJS.out _ _ _ HJ1.out hB2)
  have HN2:=hide hn2
  have HBS:=hide hB2.size
  clear hperm hlen hrow hB2 hn2 cS
  go_wp2_with fail
  go_loopw [23] (fun i wx=>∃ k:Nat,k≤ks.length∧i=.int .i64 k∧J k wx∧Keep w.heap.size w2 wx) (fun i _=>ks.length - (intOf i).toNat)
  case atStart=>exact ⟨0,Nat.zero_le _,rfl,HJ2.out,Keep.refl _ _⟩
  case round =>
   obtain ⟨k,hk,rfl,hJ,hKp⟩:=hrel
   have HJ:=hide hJ
   have HKP:=hide hKp
   clear hJ hKp
   by_cases hlt:k < ks.length
   · obtain ⟨c,hcc⟩:∃ c,ks[k]?=some c:=⟨_,List.getElem?_eq_getElem hlt⟩
     obtain ⟨hc1000,sb,qq,aa,hat,hrd⟩:=HR.out k c hcc
     obtain ⟨g,hqg,hg,hkc,hcm,hcell⟩:=own_at HROW.out (by omega)
     have hge:=own_from HROW.out hqg
     subst hqg
     unfold maxLen at hcm
     have hci:wr.cell? ⟨g,k,none⟩=some (.string (bs c)):=by
      rw [World.cell?_of_block (w:=w2) (HKP.out.2 g (by omega) hg)]
      exact hcell k _ (by simp [hcc];rfl)
     obtain ⟨hm10,hmap⟩:=HJM.out k wr HJ.out
     have hnm:wr.heap[w.heap.size]?=_:=(HKP.out.2 w.heap.size (Nat.le_refl _) (by have:=HBS.out;omega)).trans HN2.out
     have p0:wr.cell? ⟨w.heap.size,0,none⟩=some (.string (bs m.topic)):=blk_cell hnm rfl
     have hlk:(Instr.lookup 126 (.map (some mb)) (.string (bs c)) false).run Tryz.prog wr=.ok (.pointer (some ⟨sb,0,none⟩)) wr:=by
      obtain ⟨v,ps,hrun,hv⟩:=hmap.lookup (t:=126) (e:=135) keyStr Tryz.underlying126 (zeroPtr _) (zd:=.nil) (zp:=[]) rfl (key_bs c hc1000)
      rw [hat] at hv
      rw [ptr_lit hv] at hrun
      exact hrun
     have HNM:=hide hnm
     have HRD:=hide hrd
     have HGE:=hide hge
     have hlm:=blk_lt hnm
     clear hcc hc1000 hat hrd hcell hmap hnm hge
     go_wp2_with fail
     refine (HRD.out.asks _ HJ.out).mono ?_
     rintro e w3 ⟨rfl,hB3⟩
     have hn3:=(hB3.block _ hlm).trans HNM.out
     have HJ3:=hide (HJS.out _ _ _ HJ.out hB3)
     have HK3:=hide (HKP.out.trans (Keep.of_below (n:=w.heap.size) hB3))
     have r0:w3.cell? ⟨w.heap.size,0,none⟩=some (.string (bs m.topic)):=blk_cell hn3 rfl
     have r1:w3.cell? ⟨w.heap.size,1,none⟩=some (.string (bs m.payload)):=blk_cell hn3 rfl
     have r2:w3.cell? ⟨w.heap.size,2,none⟩=some (.int .i64 m.qos):=blk_cell hn3 rfl
     have r3:w3.cell? ⟨w.heap.size,3,none⟩=some (.bool true):=blk_cell hn3 rfl
     clear hB3 hn3 p0 hci hm10 hlk
     cases aa with
     | false =>
       have HJ4:=hide (HRD.out.no rfl _ HJ3.out)
       go_wp2_with fail
       exact ⟨⟨k+1,by omega,by go_num,HJ4.out,HK3.out⟩,by simp [intOf];omega⟩
     | true =>
       have cT:=hide (HRD.out.tell rfl)
       have cO:=hide fun w=>told_any m qq false w
       rw [HRT.out] at cO
       clear HRD
       simp only [msgV,toldS] at cT
       go_wp2_with fail
       refine (cO.out _).mono ?_
       rintro e w4 ⟨rfl,hB4⟩
       have HJ4:=hide (HJS.out _ _ _ HJ3.out hB4)
       have HK4:=hide (HK3.out.trans (Keep.of_below (n:=w.heap.size) hB4))
       clear hB4 r0 r1 r2 r3
       go_wp2_with fail
       refine (cT.out _ HJ4.out).mono ?_
       rintro e w5 ⟨rfl,hJ5,hK5⟩
       have HJ5:=hide hJ5
       have HK5:=hide (HK4.out.trans hK5)
       clear hJ5 hK5
       go_wp2_with fail
       exact ⟨⟨k+1,by omega,by go_num,HJ5.out,HK5.out⟩,by simp [intOf];omega⟩
   · go_wp2
     go_end0
     have hkl:k=ks.length:=by omega
     subst hkl
     exact ⟨rfl,HJ.out⟩
end br
namespace br
open Go.RowKit topPlain topWalks decPlain
def dropF (l:List (List UInt8×Int)) (f:List UInt8):List (List UInt8×Int):=match l.findIdx? (fun g=>g.1 == f) with
 | some i=>l.eraseIdx i
 | none=>l
set_option maxHeartbeats 1600000 in
set_option maxRecDepth 100000 in
theorem drop_any (sb:Nat) (V:SesV) (S:Ses) (f:List UInt8) (w:World) (h:SesAt w sb V S) :
 Calls Tryz.prog 216 #[.pointer (some ⟨sb,0,none⟩),.string (bs f)] w fun e w'=>e=.returned (.tuple #[])∧But (V.has sb) w w'∧∃ fv',fv'.ownBlock=V.fv.ownBlock∧SesAt w' sb { V with fv:=fv' } { S with filters:=dropF S.filters f }:=by
 have H:=hide h
 have c0:w.cell? ⟨sb,0,none⟩=some V.fv:=blk_cell h.blk rfl
 have hlt:=cell_blt c0
 simp only at hlt
 have cF:=hide (findFilter_any sb V.fv S.filters f w c0 h.fil)
 obtain ⟨q,cap,hq⟩:=own_form h.fil
 have HQ:=hide hq
 clear h
 cases hi:S.filters.findIdx? (fun g=>g.1 == f) with
 | none =>
   have hidx:idx (fun g=>g.1 == f) S.filters=-1:=by unfold idx;rw [hi]
   have hd:dropF S.filters f=S.filters:=by unfold dropF;rw [hi]
   rw [hidx] at cF
   have HD:=hide hd
   clear hidx hd hi c0 hq
   go_enter Tryz.func216,Tryz.ntmps216
   go_wp2_with fail
   refine cF.out.mono ?_
   rintro e w1 ⟨rfl,hB1⟩
   have HB1:=hide hB1
   clear hB1
   go_wp2
   go_end0
   rw [HD.out]
   exact ⟨rfl,But.of_below HB1.out,V.fv,rfl,H.out.below HB1.out⟩
 | some i =>
   have hidx:idx (fun g=>g.1 == f) S.filters=(i:Int):=by unfold idx;rw [hi]
   have hd:dropF S.filters f=S.filters.eraseIdx i:=by unfold dropF;rw [hi]
   have hil:i < S.filters.length:=(List.findIdx?_eq_some_iff_getElem.1 hi).1
   obtain ⟨g9,rfl,_,hk9,hm9,_⟩:=own_at (hq ▸ H.out.fil) (by omega)
   unfold maxLen at hm9
   rw [hidx] at cF
   have HD:=hide hd
   clear hidx hd hi
   rw [hq] at c0
   clear hq
   go_enter Tryz.func216,Tryz.ntmps216
   go_wp2_with fail
   refine cF.out.mono ?_
   rintro e w1 ⟨rfl,hB1⟩
   have c1:w1.cell? ⟨sb,0,none⟩=some (.slice (some ⟨g9,0,none⟩) S.filters.length cap):=by rw [hB1.cell hlt];exact c0
   have H1:=hide (H.out.below hB1)
   have HB1:=hide hB1
   have hl1:sb < w1.heap.size:=Nat.lt_of_lt_of_le hlt hB1.size
   have f1:w1.frozen? ⟨sb,0,none⟩=false:=blk_frozen H1.out.blk
   have cD:=hide (delFil_any V.fv S.filters i (i+1) w1 H1.out.fil hil rfl)
   have hcast:((i+1:Nat):Int)=(i:Int)+1:=by omega
   rw [hcast,HQ.out] at cD
   clear hB1 c0 cF
   go_wp2_with fail
   refine cD.out.mono ?_
   rintro e w2 ⟨v',rfl,hbut,hloc,how⟩
   rw [← HQ.out] at hbut hloc
   have hnF:=H1.out.own_ne
   have hsb:¬ (V.fv.ownBlock=some sb):=hnF.1
   have hB2:=hbut.blk hsb H1.out.blk
   have c2:w2.cell? ⟨sb,0,none⟩=some V.fv:=blk_cell hB2 rfl
   have f2:w2.frozen? ⟨sb,0,none⟩=false:=blk_frozen hB2
   have hl3:=blk_lt hB2
   rw [HQ.out] at c2
   obtain ⟨q2,k2,hq2⟩:=own_form how
   have HOW:=hide how
   have HLO:=hide hloc
   have HBU:=hide hbut
   have HB2:=hide hB2
   have HNF:=hide hnF
   clear how hloc hbut hB2 cD c1 f1 hnF hsb
   subst hq2
   go_wp2
   go_end0
   obtain ⟨n1,n2,n3,n4,n5,n6,n7⟩:=HNF.out
   have hs:∀ b,b≠sb→(w2.setCell ⟨sb,0,none⟩ (.slice q2 (S.filters.eraseIdx i).length k2)).heap[b]?=w2.heap[b]?:=fun b hb=>Below.heap_setCell _ _ _ _ (fun e=>hb e)
   have hk:∀ b,V.has sb b→b≠sb→V.fv.ownBlock≠some b→(w2.setCell ⟨sb,0,none⟩ (.slice q2 (S.filters.eraseIdx i).length k2)).heap[b]?=w1.heap[b]?:=fun b h1 h2 h3=>(hs b h2).trans (HBU.out.keep b (H1.out.lt h1) h3)
   refine ⟨rfl,((But.of_below HB1.out).trans (HBU.out.wide (fun b _ e=>Or.inr (Or.inl e))) (fun _ _ e=>e)).trans (But.set (F:=V.has sb) w2 ⟨sb,0,none⟩ _ (Or.inl rfl)) (fun _ _ e=>e),.slice q2 (S.filters.eraseIdx i).length k2,HLO.out,?_⟩
   rw [HD.out]
   refine ⟨blk_set _ HB2.out,own_keep HOW.out (fun b hb=>hs b (fun e=>n1 (by rw [← HLO.out,hb,e]))),own_keep H1.out.und (fun b hb=>hk b (Or.inr (Or.inr (Or.inr (Or.inr hb)))) (fun e=>n2 (e ▸ hb)) (fun e=>(n6 b e).1 hb)),?_,?_⟩
   · obtain ⟨D,⟨es,clock,hb,k1,k2,k3⟩,k4⟩:=H1.out.kno
     exact ⟨D,⟨es,clock,(hk _ (Or.inr (Or.inr (Or.inl rfl))) n3 (fun e=>(n6 _ e).2.1 rfl)).trans hb,k1,k2,k3⟩,k4⟩
   · obtain ⟨s,r,hb⟩:=H1.out.chn
     exact ⟨s,r,(hk _ (Or.inr (Or.inr (Or.inr (Or.inl rfl)))) n4 (fun e=>(n6 _ e).2.2 rfl)).trans hb⟩
end br
namespace br
open Go.RowKit topPlain topWalks decPlain Go.Maps
set_option maxHeartbeats 800000 in
set_option maxRecDepth 100000 in
theorem forget_gen (sb:Nat) (V:SesV) (S:Ses) (id:Int) (w:World) (h:SesAt w sb V S) (hid:(Lit.int .i64 id).wf=true) (hnd:S.known.Nodup) :
 Calls Tryz.prog 212 #[.pointer (some ⟨sb,0,none⟩),.int .i64 id] w fun e w'=>e=.returned (.tuple #[])∧SesAt w' sb V { S with known:=S.known.erase id }∧But (fun g=>g=V.kb) w w':=by
 have c1:w.cell? ⟨sb,1,none⟩=some (.map (some V.kb)):=blk_cell h.blk rfl
 have hlt:=blk_lt h.blk
 have H:=hide h
 obtain ⟨D,hM,hD⟩:=h.kno
 have hhas:=hD id hid
 have HM:=hide hM
 have HD:=hide hD
 clear h hD
 have HH:=hide hhas
 have hkey:keyOf Tryz.prog 3 (.int .i64 id)=some (.int .i64 id):=keyOf_int_mk Tryz.underlying3 hid
 clear hM hhas
 go_enter Tryz.func212,Tryz.ntmps212
 go_wp2_with (first | (at_delete;refine wpList_delete_own _ rfl _ _ 184 3 rfl 289 keyInt Tryz.underlying184 _ V.kb S.known.length D rfl HM.out _ _ rfl hkey ?_))
 intro w2 hM2 hturn
 have hM3:w2.ownsMap Tryz.prog 3 (unitElem (H:=Unit)) V.kb (S.known.erase id).length (D.del (.int .i64 id)):=by
  have htd:Tidy D:=HM.out.tidy keyInt
  have hsz:=size_del (k:=.int .i64 id) htd
  obtain ⟨es,cl,hb,F,hs,hDe⟩:=HM.out
  have hDs:Maps.size D=es.size:=by rw [hDe,Maps.size_eq,length_read]
  obtain ⟨es',cl',hb',F',_,he'⟩:=hM2
  have hDs':Maps.size (D.del (.int .i64 id))=es'.size:=by rw [he',Maps.size_eq,length_read]
  refine ⟨es',cl',hb',F',?_,he'⟩
  rw [List.length_erase]
  rw [HH.out] at hsz
  by_cases hc:id∈S.known
  · rw [if_pos hc]
    have:S.known.contains id=true:=by simpa using hc
    rw [this] at hsz
    simp at hsz
    omega
  · rw [if_neg hc]
    have:S.known.contains id=false:=by simpa using hc
    rw [this] at hsz
    simp at hsz
    omega
 have hb2:But (fun g=>g=V.kb) w w2:=by
  obtain ⟨es,cl,es',cl',h1,rfl⟩:=hturn
  exact ⟨rfl,rfl,rfl,by simp [ChangeMaps.setBlock],fun b _ hn=>ChangeMaps.heap_setBlock_other h1 _ hn⟩
 have hs:=H.out
 obtain ⟨n1,n2,n3,n4,n5,n6,n7⟩:=hs.own_ne
 have HF:Hid (SesAt w2 sb V { S with known:=S.known.erase id }∧But (fun g=>g=V.kb) w w2):=by
  refine ⟨⟨hb2.blk (fun e=>n3 e.symm) hs.blk,own_keep hs.fil fun b hb=>?_,own_keep hs.und fun b hb=>?_,⟨D.del (.int .i64 id),hM3,fun i hi=>?_⟩,?_⟩,hb2⟩
  · obtain ⟨cur,hc⟩:=own_blk hs.fil hb
    exact hb2.keep b (blk_lt hc) (n6 b hb).2.1
  · obtain ⟨cur,hc⟩:=own_blk hs.und hb
    exact hb2.keep b (blk_lt hc) (n7 b hb).1
  · by_cases e:i=id
    · subst e
      rw [has_del_same]
      symm
      simpa using fun h=>(List.Nodup.mem_erase_iff hnd).1 h |>.1 rfl
    · rw [has_del_other (by intro h;injection h;contradiction),HD.out i hi]
      have:=List.mem_erase_of_ne (l:=S.known) e
      by_cases hm:i∈S.known
      · simp [hm,this]
      · simp [hm,this]
  · obtain ⟨s,r,hc⟩:=hs.chn
    exact ⟨s,r,hb2.blk (fun e=>n5 e.symm) hc⟩
 clear hM2 hM3 hturn hb2 hs n1 n2 n3 n4 n5 n6 n7
 go_wp2
 go_end0
 exact ⟨rfl,HF.out⟩
end br
namespace br
open Go.RowKit topPlain topWalks decPlain
def unsS (id:Int):Pkt:={ zP with kind:=11,id:=id }
set_option maxHeartbeats 1600000 in
set_option maxRecDepth 100000 in
theorem unsub_any (B cb sb:Nat) (p:Pkt) (fs:List (List UInt8×Int)) (w:World) (J:Nat→World→Prop) (Rr:Ending→World→Prop) (c1:Option Addr) (c2 c3:Nat) (hcv:p.cv=.slice c1 c2 c3) (hfs:w.ownsRow 0 95 2 p.fv fs.length (filK fs)) (hlf:fs.length≤1000000)
 (hJ0:∀ a,Below w.heap.size w a→J 0 a) (hJb:∀ k a b,J k a→Below a.heap.size a b→J k b) (hJc:∀ k a,J k a→a.cell? ⟨cb,18,none⟩=some (.pointer (some ⟨sb,0,none⟩))) (hJf:∀ k a,J k a→∀ b,p.fv.ownBlock=some b→a.heap[b]?=w.heap[b]?)
 (hJ:∀ k (g:List UInt8×Int) a,fs[k]?=some g→J k a→Calls Tryz.prog 216 #[.pointer (some ⟨sb,0,none⟩),.string (bs g.1)] a fun e a'=>e=.returned (.tuple #[])∧J (k+1) a'∧Keep w.heap.size a a')
 (hW:∀ a,J fs.length a→Calls Tryz.prog 131 #[.pointer (some ⟨B,0,none⟩),.pointer (some ⟨cb,0,none⟩),.agg (pkK (unsS p.id))] a fun e a'=>e=.returned (.tuple #[])∧Rr e a') :
 Calls Tryz.prog 169 #[.pointer (some ⟨B,0,none⟩),.pointer (some ⟨cb,0,none⟩),.agg (pkK p)] w Rr:=by
 obtain ⟨qf,kf,hfv⟩:=own_form hfs
 have HFS:=hide hfs
 have HJ0:=hide hJ0
 have HJB:=hide hJb
 have HJC:=hide hJc
 have HJF:=hide hJf
 have HJ:=hide hJ
 have HW:=hide hW
 have HFV:=hide hfv
 simp only [pkK,hfv,hcv,unsS,zP] at HW ⊢
 clear hfs hJ0 hJb hJc hJf hJ hW hfv hcv
 go_enter Tryz.func169,Tryz.ntmps169
 go_wp2_with fail
 have hA0:=(Below.refl w.heap.size w).alloc (Nat.le_refl _) (.cells #[.int .i64 p.kind,.bool p.clean,.bool p.will,.int .i64 p.keep,.string (bs p.client),.bool p.present,.int .i64 p.code,.bool p.dup,.int .i64 p.qos,.bool p.retain,.string (bs p.topic),.string (bs p.payload),.int .i64 p.id,.slice qf fs.length kf,.slice c1 c2 c3] 36)
 have hn0:=heap_alloc_new w (.cells #[.int .i64 p.kind,.bool p.clean,.bool p.will,.int .i64 p.keep,.string (bs p.client),.bool p.present,.int .i64 p.code,.bool p.dup,.int .i64 p.qos,.bool p.retain,.string (bs p.topic),.string (bs p.payload),.int .i64 p.id,.slice qf fs.length kf,.slice c1 c2 c3] 36)
 generalize w.alloc (.cells #[.int .i64 p.kind,.bool p.clean,.bool p.will,.int .i64 p.keep,.string (bs p.client),.bool p.present,.int .i64 p.code,.bool p.dup,.int .i64 p.qos,.bool p.retain,.string (bs p.topic),.string (bs p.payload),.int .i64 p.id,.slice qf fs.length kf,.slice c1 c2 c3] 36)=W0 at *
 have HN0:=hide hn0
 have HA0:=hide hA0
 clear hn0 hA0
 go_loopw [11] (fun i wx=>∃ k:Nat,k≤fs.length∧i=.int .i64 k∧J k wx∧wx.heap[w.heap.size]?=some (.cells #[.int .i64 p.kind,.bool p.clean,.bool p.will,.int .i64 p.keep,.string (bs p.client),.bool p.present,.int .i64 p.code,.bool p.dup,.int .i64 p.qos,.bool p.retain,.string (bs p.topic),.string (bs p.payload),.int .i64 p.id,.slice qf fs.length kf,.slice c1 c2 c3] 36)) (fun i _=>fs.length - (intOf i).toNat)
 case atStart=>exact ⟨0,Nat.zero_le _,rfl,HJ0.out _ HA0.out,HN0.out⟩
 case round =>
  obtain ⟨k,hk,rfl,hJk,hN⟩:=hrel
  have HJK:=hide hJk
  have HN:=hide hN
  have hO:=own_keep HFS.out (HJF.out k wr hJk)
  rw [HFV.out] at hO
  have cs:=HJC.out k wr hJk
  have hnl:=blk_lt hN
  have hcl:=cell_blt cs
  simp only at hcl
  clear hJk hN
  by_cases hltk:k < fs.length
  · obtain ⟨g,hg⟩:∃ g,fs[k]?=some g:=⟨_,List.getElem?_eq_getElem hltk⟩
    obtain ⟨gb,rfl,hgb,hkc,hcm,_⟩:=own_at hO (by omega)
    unfold maxLen at hcm
    obtain ⟨h0,h1⟩:=fil_cells (wr:=wr) hO hg rfl rfl
    have HGG:=hide hg
    have cs2:=fun o=>alloc_cell cs o
    have hn2:=heap_alloc_new wr (.cells #[.string (bs g.1),.int .i64 g.2] 95)
    have hA2:=(Below.refl wr.heap.size wr).alloc (Nat.le_refl _) (.cells #[.string (bs g.1),.int .i64 g.2] 95)
    clear hg hO
    go_wp2_with fail
    generalize wr.alloc (.cells #[.string (bs g.1),.int .i64 g.2] 95)=W2 at *
    have csW:W2.cell? ⟨cb,18,none⟩=some (.pointer (some ⟨sb,0,none⟩)):=(hA2.cell (p:=⟨cb,18,none⟩) hcl).trans cs
    have e0:W2.cell? ⟨wr.heap.size,0,none⟩=some (.string (bs g.1)):=blk_cell hn2 rfl
    have hl2:=blk_lt hn2
    have hlc2:cb < W2.heap.size:=Nat.lt_of_lt_of_le hcl hA2.size
    have cT:=hide (HJ.out k g W2.drew HGG.out (HJB.out _ _ _ HJK.out hA2.drew))
    have HA2:=hide hA2
    clear hn2 hA2 cs cs2
    go_region_with (
     refine cT.out.mono ?_
     rintro e w4 ⟨rfl,hJ4,hK4⟩
     have hN4:=(hK4.2 _ (Nat.le_refl _) (Nat.lt_of_lt_of_le hnl HA2.out.size)).trans ((HA2.out.block _ hnl).trans HN.out)
     have HJ4:=hide hJ4
     have HN4:=hide hN4
     clear hJ4 hK4 hN4 cT)
    all_goals
     go_wp2
     go_roundw
     case rel=>exact ⟨k+1,by omega,by go_num,HJ4.out,HN4.out⟩
     case measure=>simp [intOf];omega
  · have hkl:k=fs.length:=by omega
    subst hkl
    have d12:wr.cell? ⟨w.heap.size,12,none⟩=some (.int .i64 p.id):=blk_cell HN.out rfl
    clear hO
    have cW:=hide (HW.out wr HJK.out)
    go_wp2_with fail
    refine cW.out.mono ?_
    rintro e w4 ⟨rfl,hR⟩
    have HR:=hide hR
    clear hR
    go_wp2
    go_end0
    exact HR.out
end br
end Go.Proofs.YtnmfmoimjkoieaaGreatDoor
