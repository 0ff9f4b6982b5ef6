import Derived.Test.YtnmfmoimjkoieaaGreatDoorF01
import Derived.Test.YtnmfmoimjkoieaaGreatDoorF40
namespace Go.Proofs.YtnmfmoimjkoieaaGreatDoor
namespace kp
open Go.RowKit topPlain topWalks decPlain br
open rd (ints)
def SeenP (b:Nat) (V:StgV) (T:List Int) (O:List Pkt) (Sn:List Int) (n:Nat) (p:Pkt) (w w':World):Prop:=
 ∃ tv' pv',StgAt w' b { V with tv:=tv',pv:=pv' } (T ++ [(n:Int)]) (O ++ [p]) Sn∧But (V.has b) w w'∧(tv'.ownBlock=V.tv.ownBlock∨∃ g,tv'.ownBlock=some g∧w.heap.size≤g)∧(pv'.ownBlock=V.pv.ownBlock∨∃ g,pv'.ownBlock=some g∧w.heap.size≤g)
set_option maxHeartbeats 3200000 in
set_option maxRecDepth 100000 in
theorem sees_one (b g gc n:Nat) (V:StgV) (T:List Int) (O:List Pkt) (Sn:List Int) (p:Pkt) (w:World) (h:StgAt w b V T O Sn) (hp:∀ i u,(pkK p)[i]?=some u→w.cell? ⟨g,i,none⟩=some u) (hkind:p.kind=3) (hpay:p.payload=numB n) (hn:n < 60000) (htop:p.topic = [116]) (hdup:p.dup=false) (hq:p.qos=1∨p.qos=2) (hid:idx (fun q=>q.id == p.id) O=-1) (hT:T.length≤100000) (hO:O.length≤100000) (hsh:Shaped p) :
 Calls Tryz.prog 63 #[.pointer (some ⟨b,1,none⟩),.slice (some ⟨g,0,none⟩) 1 gc,.bool false] w fun e w'=>e=.returned (.bool true)∧SeenP b V T O Sn n p w w':=by
 obtain ⟨⟨f1,f2,f3,hfv⟩,c1,c2,c3,hcv⟩:=hsh
 have hq0:decide (p.qos > 0)=true:=by rcases hq with e | e<;>rw [e]<;>decide
 have h0:w.cell? ⟨g,0,none⟩=some (.int .i64 p.kind):=hp 0 _ rfl
 have h1:w.cell? ⟨g,1,none⟩=some (.bool p.clean):=hp 1 _ rfl
 have h2:w.cell? ⟨g,2,none⟩=some (.bool p.will):=hp 2 _ rfl
 have h3:w.cell? ⟨g,3,none⟩=some (.int .i64 p.keep):=hp 3 _ rfl
 have h4:w.cell? ⟨g,4,none⟩=some (.string (bs p.client)):=hp 4 _ rfl
 have h5:w.cell? ⟨g,5,none⟩=some (.bool p.present):=hp 5 _ rfl
 have h6:w.cell? ⟨g,6,none⟩=some (.int .i64 p.code):=hp 6 _ rfl
 have h7:w.cell? ⟨g,7,none⟩=some (.bool p.dup):=hp 7 _ rfl
 have h8:w.cell? ⟨g,8,none⟩=some (.int .i64 p.qos):=hp 8 _ rfl
 have h9:w.cell? ⟨g,9,none⟩=some (.bool p.retain):=hp 9 _ rfl
 have h10:w.cell? ⟨g,10,none⟩=some (.string (bs p.topic)):=hp 10 _ rfl
 have h11:w.cell? ⟨g,11,none⟩=some (.string (bs p.payload)):=hp 11 _ rfl
 have h12:w.cell? ⟨g,12,none⟩=some (.int .i64 p.id):=hp 12 _ rfl
 have h13:w.cell? ⟨g,13,none⟩=some (p.fv):=hp 13 _ rfl
 have h14:w.cell? ⟨g,14,none⟩=some (p.cv):=hp 14 _ rfl
 rw [hfv] at h13
 rw [hcv] at h14
 rw [hkind] at h0
 rw [hpay] at h11
 rw [htop] at h10
 have h10':w.cell? ⟨g,10,none⟩=some (.string ⟨#[116]⟩):=h10
 clear h10
 rw [hdup] at h7
 have hgl:=cell_blt h0
 simp only at hgl
 have H:=hide h
 have HFV:=hide hfv
 have HCV:=hide hcv
 have HID:=hide hid
 have cT:=hide fun w'=>told_two (UInt8.ofNat (n / 250)) (UInt8.ofNat (n % 250)) w'
 rw [toldN_num n hn] at cT
 have hlt:=blk_lt h.blk
 clear h hp hfv hcv hid
 go_enter Tryz.func63,Tryz.ntmps63
 go_wp2_with fail
 go_loopw [7] (fun i wx=>(i=.int .i64 0∧wx=w)∨(i=.int .i64 1∧SeenP b V T O Sn n p w wx)) (fun i _=>1 - (intOf i).toNat)
 case atStart=>exact Or.inl ⟨rfl,rfl⟩
 case round =>
  rcases hrel with ⟨rfl,rfl⟩ | ⟨rfl,hS⟩
  · obtain ⟨q3,k3,hq3⟩:=own_form H.out.opn
    obtain ⟨q1,k1,hq1⟩:=own_form H.out.told
    have HQ3:=hide hq3
    have HQ1:=hide hq1
    clear hq3 hq1
    go_wp2_with fail
    have hn0:=heap_alloc_new wr (.cells #[.int .i64 3,.bool p.clean,.bool p.will,.int .i64 p.keep,.string (bs p.client),.bool p.present,.int .i64 p.code,.bool false,.int .i64 p.qos,.bool p.retain,.string ⟨#[116]⟩,.string (bs (numB n)),.int .i64 p.id,.slice f1 f2 f3,.slice c1 c2 c3] 36)
    have hB0:=(Below.refl wr.heap.size wr).alloc (Nat.le_refl _) (.cells #[.int .i64 3,.bool p.clean,.bool p.will,.int .i64 p.keep,.string (bs p.client),.bool p.present,.int .i64 p.code,.bool false,.int .i64 p.qos,.bool p.retain,.string ⟨#[116]⟩,.string (bs (numB n)),.int .i64 p.id,.slice f1 f2 f3,.slice c1 c2 c3] 36)
    generalize wr.alloc (.cells #[.int .i64 3,.bool p.clean,.bool p.will,.int .i64 p.keep,.string (bs p.client),.bool p.present,.int .i64 p.code,.bool false,.int .i64 p.qos,.bool p.retain,.string ⟨#[116]⟩,.string (bs (numB n)),.int .i64 p.id,.slice f1 f2 f3,.slice c1 c2 c3] 36)=W0 at *
    refine (cT.out _).mono ?_
    rintro e w2 ⟨rfl,hB2⟩
    have hn2:=(hB2.block _ (blk_lt hn0)).trans hn0
    have hB02:=hB0.trans (hB2.mono hB0.size)
    have H2:=hide (H.out.below hB02)
    obtain ⟨d0,d1,d2,d3,d4,d5,d6,d7,d8,d9,d10,d11,d12,d13,d14⟩:=cells15 hn2
    have hl2:=blk_lt hn2
    have hn00:¬ (n:Int) < 0:=by omega
    have cF:=hide fun w' (hb:Below w2.heap.size w2 w')=>find_any b V.pv O p.id w' (by have:=blk_cell (i:=3) (H2.out.below hb).blk rfl;exact this) (H2.out.below hb).opn
    rw [HID.out] at cF
    have HB02:=hide hB02
    have HN2:=hide hn2
    clear hn0 hB0 hB2 hn2 hB02
    go_wp2_with fail
    refine (cF.out _ (Below.refl _ _)).mono ?_
    rintro e w3 ⟨rfl,hB3⟩
    have hn3:=(hB3.block _ hl2).trans HN2.out
    have H3:=hide (H2.out.below hB3)
    have hl3:=blk_lt hn3
    have HB03:=hide (HB02.out.trans (hB3.mono HB02.out.size))
    have HN3:=hide hn3
    clear d0 d1 d2 d3 d4 d5 d6 d7 d8 d9 d10 d11 d12 d13 d14
    obtain ⟨d0,d1,d2,d3,d4,d5,d6,d7,d8,d9,d10,d11,d12,d13,d14⟩:=cells15 hn3
    have t1:w3.cell? ⟨b,1,none⟩=some (.slice q1 T.length k1):=by rw [← HQ1.out];exact blk_cell H3.out.blk rfl
    have g1:w3.frozen? ⟨b,1,none⟩=false:=blk_frozen H3.out.blk
    have hbl3:b < w3.heap.size:=blk_lt H3.out.blk
    clear hB3 hn3
    obtain ⟨i0,hi0,hz0,hz1,hz2⟩:=info_parts infoInt8
    have hO1:=H3.out.told
    rw [HQ1.out] at hO1
    have HO1:=hide hO1
    clear hO1
    go_wp2_with (first
     | (at_builtin;refine wpList_append_own_at _ rfl _ _ 34 rfl 0 3 i0 (.int .i64 0) 1 8 Tryz.underlying34 hi0 hz0 hz1 hz2 rfl (by decide) (.slice q1 T.length k1) T.length (ints T) rfl (own_below4 HO1.out ((Below.refl _ _).alloc (Nat.le_refl _) _)) ⟨w3.heap.size,0,none⟩ 1 1 _ rfl rfl (news_new _ _ _) ?c2 ?c3 ?c4 ?c5 ?_))
    case c2=>rfl
    case c3=>unfold maxLen;omega
    case c4=>omega
    case c5=>omega
    intro v5 w5 hown5 hgrow5 _ hat5
    have hA3:=(Below.refl w3.heap.size w3).alloc (Nat.le_refl _) (.cells #[.int .i64 (n:Int)] 3)
    have hb5:But (fun g=>V.tv.ownBlock=some g) w3 w5:=(But.of_below hA3).trans (But.of_grown (F:=fun g=>V.tv.ownBlock=some g) hgrow5 (fun g hg=>by rw [HQ1.out];exact hg)) (fun _ _ f=>f)
    have ho5:w5.ownsRow 0 3 1 v5 (T ++ [(n:Int)]).length (ints (T ++ [(n:Int)])):=by
     rw [List.length_append]
     have e:ints (T ++ [(n:Int)])=ints T ++ [.int .i64 (n:Int)]:=by simp [ints]
     rw [e]
     exact hown5
    have hv5:v5.ownBlock=V.tv.ownBlock∨∃ g,v5.ownBlock=some g∧w3.heap.size≤g:=hat5.imp (fun e=>by rw [HQ1.out];exact e) (fun e=>⟨_,e,by omega⟩)
    have H6:=hide (H3.out.setTold hb5 ho5 hv5)
    have hblk5:w5.heap[b]?=some (.cells (stgC V) 77):=hb5.blk (fun e=>H3.out.own_ne.1 e) H3.out.blk
    have hpk5:w5.heap[wr.heap.size]?=some (.cells #[.int .i64 3,.bool p.clean,.bool p.will,.int .i64 p.keep,.string (bs p.client),.bool p.present,.int .i64 p.code,.bool false,.int .i64 p.qos,.bool p.retain,.string ⟨#[116]⟩,.string (bs (numB n)),.int .i64 p.id,.slice f1 f2 f3,.slice c1 c2 c3] 36):=hb5.blk (fun e=>by obtain ⟨c,hc⟩:=own_blk H3.out.told e;have:=HN3.out;rw [hc] at this;simp at this) HN3.out
    have s1:w5.cell? ⟨b,1,none⟩=some V.tv:=blk_cell hblk5 rfl
    have s1f:w5.frozen? ⟨b,1,none⟩=false:=blk_frozen hblk5
    rw [HQ1.out] at s1
    obtain ⟨q5,k5,hq5⟩:=own_form ho5
    subst hq5
    have hne5:wr.heap.size≠b:=fun e=>by rw [e,hblk5] at hpk5;simp at hpk5
    have hpk6:(w5.setCell ⟨b,1,none⟩ (.slice q5 (T ++ [(n:Int)]).length k5)).heap[wr.heap.size]?=some (.cells #[.int .i64 3,.bool p.clean,.bool p.will,.int .i64 p.keep,.string (bs p.client),.bool p.present,.int .i64 p.code,.bool false,.int .i64 p.qos,.bool p.retain,.string ⟨#[116]⟩,.string (bs (numB n)),.int .i64 p.id,.slice f1 f2 f3,.slice c1 c2 c3] 36):=(Below.heap_setCell _ _ _ _ (fun e=>hne5 e)).trans hpk5
    have hlb5:=blk_lt hblk5
    have HB5:=hide hb5
    have HV5:=hide hv5
    rw [show (T ++ [(n:Int)]).length=T.length+1 by simp] at *
    clear d0 d1 d2 d3 d4 d5 d6 d7 d8 d9 d10 d11 d12 d13 d14 t1 g1 hown5 hgrow5 hat5 hA3 hb5 ho5 hv5 hi0 hz0 hz1 hz2 hpk5 hblk5
    obtain ⟨m0,m1,m2,m3,m4,m5,m6,m7,m8,m9,m10,m11,m12,m13,m14⟩:=cells15 hpk6
    go_wp2_with fail
    have hBU6:But (V.has b) wr (w5.setCell ⟨b,1,none⟩ (.slice q5 (T.length+1) k5)):=((But.of_below HB03.out).trans (HB5.out.wide (fun g _ e=>Or.inr (Or.inl e))) (fun _ _ f=>f)).trans (But.set (F:=V.has b) _ _ _ (Or.inl rfl)) (fun _ _ f=>f)
    have hsz6:wr.heap.size < (w5.setCell ⟨b,1,none⟩ (.slice q5 (T.length+1) k5)).heap.size:=blk_lt hpk6
    generalize w5.setCell ⟨b,1,none⟩ (.slice q5 (T.length+1) k5)=w6 at *
    have cb3:w6.cell? ⟨b,3,none⟩=some (.slice q3 O.length k3):=by rw [← HQ3.out];exact blk_cell H6.out.blk rfl
    have g3:w6.frozen? ⟨b,3,none⟩=false:=blk_frozen H6.out.blk
    have hb6:b < w6.heap.size:=blk_lt H6.out.blk
    have hO3:=H6.out.opn
    rw [show ({ V with tv:=Value.slice q5 (T.length+1) k5 }:StgV).pv=V.pv from rfl,HQ3.out] at hO3
    have HO3:=hide hO3
    have hne3:(Value.slice q3 O.length k3).ownBlock≠some b:=by rw [← HQ3.out];exact H6.out.own_ne.2.1
    have HNE:=hide hne3
    have HNW:=hide (news_new w6 #[.int .i64 3,.bool p.clean,.bool p.will,.int .i64 p.keep,.string (bs p.client),.bool p.present,.int .i64 p.code,.bool false,.int .i64 p.qos,.bool p.retain,.string ⟨#[116]⟩,.string (bs (numB n)),.int .i64 p.id,.slice f1 f2 f3,.slice c1 c2 c3] 36)
    have HBU6:=hide hBU6
    have hA:=fun o=>alloc_cell cb3 o
    obtain ⟨i0,hi0,hz0,hz1,hz2⟩:=info_parts infoPkt
    have a0:=fun o=>alloc_cell m0 o
    have a1:=fun o=>alloc_cell m1 o
    have a2:=fun o=>alloc_cell m2 o
    have a3:=fun o=>alloc_cell m3 o
    have a4:=fun o=>alloc_cell m4 o
    have a5:=fun o=>alloc_cell m5 o
    have a6:=fun o=>alloc_cell m6 o
    have a7:=fun o=>alloc_cell m7 o
    have a8:=fun o=>alloc_cell m8 o
    have a9:=fun o=>alloc_cell m9 o
    have a10:=fun o=>alloc_cell m10 o
    have a11:=fun o=>alloc_cell m11 o
    have a12:=fun o=>alloc_cell m12 o
    have a13:=fun o=>alloc_cell m13 o
    have a14:=fun o=>alloc_cell m14 o
    clear hne3 hO3 hBU6 hpk6 s1 s1f
    go_region_law (
     refine step_append_at rfl (.tmp 96) (.tmp 98) 56 rfl 0 36 i0 _ 15 168 Tryz.underlying56 hi0 hz0 hz1 hz2 rfl (by decide) (.slice q3 O.length k3) O.length (O.flatMap pkL) ?s1 ?s2 ⟨w6.heap.size,0,none⟩ 1 1 [.int .i64 3,.bool p.clean,.bool p.will,.int .i64 p.keep,.string (bs p.client),.bool p.present,.int .i64 p.code,.bool false,.int .i64 p.qos,.bool p.retain,.string ⟨#[116]⟩,.string (bs (numB n)),.int .i64 p.id,.slice f1 f2 f3,.slice c1 c2 c3] ?s3 rfl ?s4 ?s5 ?s6 ?s7 ?s8 ?_
     case s1=>simp [Act.eval]
     case s3=>simp [Act.eval]
     case s2=>exact HO3.out.alloc _
     case s4=>exact HNW.out
     case s5=>simp [Value.oneCell']
     case s6=>unfold maxLen;omega
     case s7=>omega
     case s8=>exact Nat.zero_le _
     intro v' w8 hown' hgrow hloc
     obtain ⟨q',cap',rfl⟩:=own_form hown'
     have hg8:(w6.alloc (.cells #[.int .i64 3,.bool p.clean,.bool p.will,.int .i64 p.keep,.string (bs p.client),.bool p.present,.int .i64 p.code,.bool false,.int .i64 p.qos,.bool p.retain,.string ⟨#[116]⟩,.string (bs (numB n)),.int .i64 p.id,.slice f1 f2 f3,.slice c1 c2 c3] 36)).grownBy w8 (Value.slice q3 O.length k3).ownBlock:=⟨hgrow.os,hgrow.tape,hgrow.output,hgrow.size,hgrow.block⟩
     have HG:=hide hg8
     have hbk:w8.heap[b]?=w6.heap[b]?:=(hg8.block b (by simp;omega) (fun e=>HNE.out e.symm)).trans (Below.heap_alloc _ _ _ hb6)
     have c8:w8.cell? ⟨b,3,none⟩=some (.slice q3 O.length k3):=by rw [World.cell?_of_block (w:=w6) hbk];exact cb3
     have f8:w8.frozen? ⟨b,3,none⟩=false:=by rw [World.frozen?_of_block (w:=w6) hbk];exact g3
     have HOW:=hide hown'
     have HLOC:=hide hloc
     clear cb3 g3 hA m0 m1 m2 m3 m4 m5 m6 m7 m8 m9 m10 m11 m12 m13 m14 a0 a1 a2 a3 a4 a5 a6 a7 a8 a9 a10 a11 a12 a13 a14 HNW hgrow hg8 hown' hloc hbk)
    all_goals
     go_wp2_with fail
     have hb8:But (fun g=>V.pv.ownBlock=some g) w6 w8:=(But.of_below ((Below.refl w6.heap.size w6).alloc (Nat.le_refl _) _)).trans (But.of_grown (F:=fun g=>V.pv.ownBlock=some g) HG.out (fun g hg=>by rw [HQ3.out];exact hg)) (fun _ _ f=>f)
     have hpk:[p].flatMap pkL = [.int .i64 3,.bool p.clean,.bool p.will,.int .i64 p.keep,.string (bs p.client),.bool p.present,.int .i64 p.code,.bool false,.int .i64 p.qos,.bool p.retain,.string ⟨#[116]⟩,.string (bs (numB n)),.int .i64 p.id,.slice f1 f2 f3,.slice c1 c2 c3]:=by simp [pkL,pkK,hkind,hdup,htop,hpay,HFV.out,HCV.out];rfl
     have ho8:w8.ownsRow 0 36 15 (.slice q' (O.length+1) cap') (O ++ [p]).length ((O ++ [p]).flatMap pkL):=by
      rw [List.length_append,List.flatMap_append,hpk]
      exact HOW.out
     have hsh8:∀ x∈O ++ [p],Shaped x:=fun x hx=>by
      rcases List.mem_append.1 hx with hx | hx
      · exact H.out.shp x hx
      · simp at hx;subst hx;exact ⟨⟨_,_,_,HFV.out⟩,⟨_,_,_,HCV.out⟩⟩
     have hW:=H6.out.setOpn hb8 ho8 hsh8
     refine ⟨Or.inr ⟨rfl,_,_,hW,(HBU6.out.trans (hb8.wide (fun g _ e=>Or.inr (Or.inr (Or.inl e)))) (fun _ _ f=>f)).trans (But.set (F:=V.has b) _ _ _ (Or.inl rfl)) (fun _ _ f=>f),HV5.out.imp id (fun ⟨g',e1,e2⟩=>⟨g',e1,Nat.le_trans HB03.out.size e2⟩),HLOC.out.imp (fun e=>by rw [HQ3.out];exact e) (fun e=>⟨_,e,by simp;omega⟩)⟩,by simp [intOf]⟩
  · have HS:=hide hS
    clear hS
    go_wp2
    go_ret
    exact ⟨rfl,HS.out⟩
end kp
end Go.Proofs.YtnmfmoimjkoieaaGreatDoor
