import Derived.Test.YtnmfmoimjkoieaaGreatDoorF01
import Derived.Test.YtnmfmoimjkoieaaGreatDoorF41
namespace Go.Proofs.YtnmfmoimjkoieaaGreatDoor
namespace kp
open Go.RowKit topPlain topWalks decPlain br
open rd (ints)
def SeenZ (b:Nat) (V:StgV) (T:List Int) (O:List Pkt) (Sn:List Int) (n:Nat) (w w':World):Prop:=
 ∃ tv',StgAt w' b { V with tv:=tv' } (T ++ [(n:Int)]) O Sn∧But (V.has b) w w'∧(tv'.ownBlock=V.tv.ownBlock∨∃ g,tv'.ownBlock=some g∧w.heap.size≤g)
set_option maxHeartbeats 3200000 in
set_option maxRecDepth 100000 in
theorem sees_zero (b g gc n:Nat) (V:StgV) (T:List Int) (O:List Pkt) (Sn:List Int) (p:Pkt) (w:World) (h:StgAt w b V T O Sn) (hp:∀ i u,(pkK p)[i]?=some u→w.cell? ⟨g,i,none⟩=some u) (hkind:p.kind=3) (hpay:p.payload=numB n) (hn:n < 60000) (htop:p.topic = [116]) (hdup:p.dup=false) (hq:p.qos=0) (hT:T.length≤100000) (hsh:Shaped p) :
 Calls Tryz.prog 63 #[.pointer (some ⟨b,1,none⟩),.slice (some ⟨g,0,none⟩) 1 gc,.bool false] w fun e w'=>e=.returned (.bool true)∧SeenZ b V T O Sn n w w':=by
 obtain ⟨⟨f1,f2,f3,hfv⟩,c1,c2,c3,hcv⟩:=hsh
 have h0:w.cell? ⟨g,0,none⟩=some (.int .i64 p.kind):=hp 0 _ rfl
 have h1:w.cell? ⟨g,1,none⟩=some (.bool p.clean):=hp 1 _ rfl
 have h2:w.cell? ⟨g,2,none⟩=some (.bool p.will):=hp 2 _ rfl
 have h3:w.cell? ⟨g,3,none⟩=some (.int .i64 p.keep):=hp 3 _ rfl
 have h4:w.cell? ⟨g,4,none⟩=some (.string (bs p.client)):=hp 4 _ rfl
 have h5:w.cell? ⟨g,5,none⟩=some (.bool p.present):=hp 5 _ rfl
 have h6:w.cell? ⟨g,6,none⟩=some (.int .i64 p.code):=hp 6 _ rfl
 have h7:w.cell? ⟨g,7,none⟩=some (.bool p.dup):=hp 7 _ rfl
 have h8:w.cell? ⟨g,8,none⟩=some (.int .i64 p.qos):=hp 8 _ rfl
 have h9:w.cell? ⟨g,9,none⟩=some (.bool p.retain):=hp 9 _ rfl
 have h10:w.cell? ⟨g,10,none⟩=some (.string (bs p.topic)):=hp 10 _ rfl
 have h11:w.cell? ⟨g,11,none⟩=some (.string (bs p.payload)):=hp 11 _ rfl
 have h12:w.cell? ⟨g,12,none⟩=some (.int .i64 p.id):=hp 12 _ rfl
 have h13:w.cell? ⟨g,13,none⟩=some (p.fv):=hp 13 _ rfl
 have h14:w.cell? ⟨g,14,none⟩=some (p.cv):=hp 14 _ rfl
 rw [hfv] at h13
 rw [hcv] at h14
 rw [hkind] at h0
 rw [hpay] at h11
 rw [htop] at h10
 have h10':w.cell? ⟨g,10,none⟩=some (.string ⟨#[116]⟩):=h10
 clear h10
 rw [hdup] at h7
 rw [hq] at h8
 have hgl:=cell_blt h0
 simp only at hgl
 have H:=hide h
 have HFV:=hide hfv
 have HCV:=hide hcv
 have cT:=hide fun w'=>told_two (UInt8.ofNat (n / 250)) (UInt8.ofNat (n % 250)) w'
 rw [toldN_num n hn] at cT
 have hlt:=blk_lt h.blk
 clear h hp hfv hcv
 go_enter Tryz.func63,Tryz.ntmps63
 go_wp2_with fail
 go_loopw [7] (fun i wx=>(i=.int .i64 0∧wx=w)∨(i=.int .i64 1∧SeenZ b V T O Sn n w wx)) (fun i _=>1 - (intOf i).toNat)
 case atStart=>exact Or.inl ⟨rfl,rfl⟩
 case round =>
  rcases hrel with ⟨rfl,rfl⟩ | ⟨rfl,hS⟩
  · obtain ⟨q3,k3,hq3⟩:=own_form H.out.opn
    obtain ⟨q1,k1,hq1⟩:=own_form H.out.told
    have HQ3:=hide hq3
    have HQ1:=hide hq1
    clear hq3 hq1
    go_wp2_with fail
    have hn0:=heap_alloc_new wr (.cells #[.int .i64 3,.bool p.clean,.bool p.will,.int .i64 p.keep,.string (bs p.client),.bool p.present,.int .i64 p.code,.bool false,.int .i64 0,.bool p.retain,.string ⟨#[116]⟩,.string (bs (numB n)),.int .i64 p.id,.slice f1 f2 f3,.slice c1 c2 c3] 36)
    have hB0:=(Below.refl wr.heap.size wr).alloc (Nat.le_refl _) (.cells #[.int .i64 3,.bool p.clean,.bool p.will,.int .i64 p.keep,.string (bs p.client),.bool p.present,.int .i64 p.code,.bool false,.int .i64 0,.bool p.retain,.string ⟨#[116]⟩,.string (bs (numB n)),.int .i64 p.id,.slice f1 f2 f3,.slice c1 c2 c3] 36)
    generalize wr.alloc (.cells #[.int .i64 3,.bool p.clean,.bool p.will,.int .i64 p.keep,.string (bs p.client),.bool p.present,.int .i64 p.code,.bool false,.int .i64 0,.bool p.retain,.string ⟨#[116]⟩,.string (bs (numB n)),.int .i64 p.id,.slice f1 f2 f3,.slice c1 c2 c3] 36)=W0 at *
    refine (cT.out _).mono ?_
    rintro e w2 ⟨rfl,hB2⟩
    have hn2:=(hB2.block _ (blk_lt hn0)).trans hn0
    have hB02:=hB0.trans (hB2.mono hB0.size)
    have H2:=hide (H.out.below hB02)
    obtain ⟨d0,d1,d2,d3,d4,d5,d6,d7,d8,d9,d10,d11,d12,d13,d14⟩:=cells15 hn2
    have hl2:=blk_lt hn2
    have hn00:¬ (n:Int) < 0:=by omega
    have cF:=hide fun w' (hb:Below w2.heap.size w2 w')=>find_any b V.pv O p.id w' (by have:=blk_cell (i:=3) (H2.out.below hb).blk rfl;exact this) (H2.out.below hb).opn
    generalize idx (fun x:Pkt=>x.id == p.id) O=ia at cF
    have HB02:=hide hB02
    have HN2:=hide hn2
    clear hn0 hB0 hB2 hn2 hB02
    go_wp2_with fail
    refine (cF.out _ (Below.refl _ _)).mono ?_
    rintro e w3 ⟨rfl,hB3⟩
    have hn3:=(hB3.block _ hl2).trans HN2.out
    have H3:=hide (H2.out.below hB3)
    have hl3:=blk_lt hn3
    have HB03:=hide (HB02.out.trans (hB3.mono HB02.out.size))
    have HN3:=hide hn3
    clear d0 d1 d2 d3 d4 d5 d6 d7 d8 d9 d10 d11 d12 d13 d14
    obtain ⟨d0,d1,d2,d3,d4,d5,d6,d7,d8,d9,d10,d11,d12,d13,d14⟩:=cells15 hn3
    have t1:w3.cell? ⟨b,1,none⟩=some (.slice q1 T.length k1):=by rw [← HQ1.out];exact blk_cell H3.out.blk rfl
    have g1:w3.frozen? ⟨b,1,none⟩=false:=blk_frozen H3.out.blk
    have hbl3:b < w3.heap.size:=blk_lt H3.out.blk
    clear hB3 hn3
    obtain ⟨i0,hi0,hz0,hz1,hz2⟩:=info_parts infoInt8
    have hO1:=H3.out.told
    rw [HQ1.out] at hO1
    have HO1:=hide hO1
    clear hO1
    go_wp2_with (first
     | (at_builtin;refine wpList_append_own_at _ rfl _ _ 34 rfl 0 3 i0 (.int .i64 0) 1 8 Tryz.underlying34 hi0 hz0 hz1 hz2 rfl (by decide) (.slice q1 T.length k1) T.length (ints T) rfl (own_below4 HO1.out ((Below.refl _ _).alloc (Nat.le_refl _) _)) ⟨w3.heap.size,0,none⟩ 1 1 _ rfl rfl (news_new _ _ _) ?c2 ?c3 ?c4 ?c5 ?_))
    case c2=>rfl
    case c3=>unfold maxLen;omega
    case c4=>omega
    case c5=>omega
    intro v5 w5 hown5 hgrow5 _ hat5
    have hA3:=(Below.refl w3.heap.size w3).alloc (Nat.le_refl _) (.cells #[.int .i64 (n:Int)] 3)
    have hb5:But (fun g=>V.tv.ownBlock=some g) w3 w5:=(But.of_below hA3).trans (But.of_grown (F:=fun g=>V.tv.ownBlock=some g) hgrow5 (fun g hg=>by rw [HQ1.out];exact hg)) (fun _ _ f=>f)
    have ho5:w5.ownsRow 0 3 1 v5 (T ++ [(n:Int)]).length (ints (T ++ [(n:Int)])):=by
     rw [List.length_append]
     have e:ints (T ++ [(n:Int)])=ints T ++ [.int .i64 (n:Int)]:=by simp [ints]
     rw [e]
     exact hown5
    have hv5:v5.ownBlock=V.tv.ownBlock∨∃ g,v5.ownBlock=some g∧w3.heap.size≤g:=hat5.imp (fun e=>by rw [HQ1.out];exact e) (fun e=>⟨_,e,by omega⟩)
    have H6:=hide (H3.out.setTold hb5 ho5 hv5)
    have hblk5:w5.heap[b]?=some (.cells (stgC V) 77):=hb5.blk (fun e=>H3.out.own_ne.1 e) H3.out.blk
    have hpk5:w5.heap[wr.heap.size]?=some (.cells #[.int .i64 3,.bool p.clean,.bool p.will,.int .i64 p.keep,.string (bs p.client),.bool p.present,.int .i64 p.code,.bool false,.int .i64 0,.bool p.retain,.string ⟨#[116]⟩,.string (bs (numB n)),.int .i64 p.id,.slice f1 f2 f3,.slice c1 c2 c3] 36):=hb5.blk (fun e=>by obtain ⟨c,hc⟩:=own_blk H3.out.told e;have:=HN3.out;rw [hc] at this;simp at this) HN3.out
    have s1:w5.cell? ⟨b,1,none⟩=some V.tv:=blk_cell hblk5 rfl
    have s1f:w5.frozen? ⟨b,1,none⟩=false:=blk_frozen hblk5
    rw [HQ1.out] at s1
    obtain ⟨q5,k5,hq5⟩:=own_form ho5
    subst hq5
    have hne5:wr.heap.size≠b:=fun e=>by rw [e,hblk5] at hpk5;simp at hpk5
    have hpk6:(w5.setCell ⟨b,1,none⟩ (.slice q5 (T ++ [(n:Int)]).length k5)).heap[wr.heap.size]?=some (.cells #[.int .i64 3,.bool p.clean,.bool p.will,.int .i64 p.keep,.string (bs p.client),.bool p.present,.int .i64 p.code,.bool false,.int .i64 0,.bool p.retain,.string ⟨#[116]⟩,.string (bs (numB n)),.int .i64 p.id,.slice f1 f2 f3,.slice c1 c2 c3] 36):=(Below.heap_setCell _ _ _ _ (fun e=>hne5 e)).trans hpk5
    have hlb5:=blk_lt hblk5
    have HB5:=hide hb5
    have HV5:=hide hv5
    rw [show (T ++ [(n:Int)]).length=T.length+1 by simp] at *
    clear d0 d1 d2 d3 d4 d5 d6 d7 d8 d9 d10 d11 d12 d13 d14 t1 g1 hown5 hgrow5 hat5 hA3 hb5 ho5 hv5 hi0 hz0 hz1 hz2 hpk5 hblk5
    obtain ⟨m0,m1,m2,m3,m4,m5,m6,m7,m8,m9,m10,m11,m12,m13,m14⟩:=cells15 hpk6
    go_wp2_with fail
    have hBU6:But (V.has b) wr (w5.setCell ⟨b,1,none⟩ (.slice q5 (T.length+1) k5)):=((But.of_below HB03.out).trans (HB5.out.wide (fun g _ e=>Or.inr (Or.inl e))) (fun _ _ f=>f)).trans (But.set (F:=V.has b) _ _ _ (Or.inl rfl)) (fun _ _ f=>f)
    exact ⟨Or.inr ⟨rfl,_,H6.out,hBU6,HV5.out.imp id (fun ⟨g',e1,e2⟩=>⟨g',e1,Nat.le_trans HB03.out.size e2⟩)⟩,by simp [intOf]⟩
  · have HS:=hide hS
    clear hS
    go_wp2
    go_ret
    exact ⟨rfl,HS.out⟩
def RowAt (w:World) (g off:Nat) (l:List Pkt):Prop:=∀ (k:Nat) p (j:Nat) u,l[k]?=some p→(pkK p)[j]?=some u→w.cell? ⟨g,off+k*15+j,none⟩=some u
theorem StgAt.setAgain {w:World} {b:Nat} {V:StgV} {T:List Int} {O:List Pkt} {Sn:List Int} (h:StgAt w b V T O Sn) (x:Int):StgAt (w.setCell ⟨b,2,none⟩ (.int .i64 x)) b { V with again:=x } T O Sn:=by
 obtain ⟨n1,n2,n3,n4⟩:=h.own_ne
 have hk:∀ g,g≠b→(w.setCell ⟨b,2,none⟩ (.int .i64 x)).heap[g]?=w.heap[g]?:=fun g hg=>Below.heap_setCell _ _ _ _ (fun e=>hg e)
 exact ⟨by rw [blk_set _ h.blk];rfl,own_keep h.told (fun g hg=>hk g (fun e=>n1 (e ▸ hg))),own_keep h.opn (fun g hg=>hk g (fun e=>n2 (e ▸ hg))),own_keep h.sent (fun g hg=>hk g (fun e=>n3 (e ▸ hg))),h.shp,h.ne⟩
structure DupOf (O:List Pkt) (p:Pkt):Prop where
 kind:p.kind=3
 top:p.topic = [116]
 dup:p.dup=true
 pay:∃ m,m < 60000∧p.payload=numB m
 opn:∃ (i:Nat) (o:Pkt),idx (fun q=>q.id == p.id) O=(i:Int)∧O[i]?=some o∧o.payload=p.payload
 shp:Shaped p
set_option maxHeartbeats 3200000 in
set_option maxRecDepth 100000 in
theorem sees_dups (b g off gc:Nat) (V:StgV) (T:List Int) (O:List Pkt) (Sn:List Int) (Ds:List Pkt) (w:World) (h:StgAt w b V T O Sn) (hR:RowAt w g off Ds) (hgb:g≠b) (hD:∀ (k:Nat) p,Ds[k]?=some p→DupOf O p) (hl:Ds.length≤1000) (ha:V.again=0) :
 Calls Tryz.prog 63 #[.pointer (some ⟨b,1,none⟩),.slice (some ⟨g,off,none⟩) Ds.length gc,.bool true] w fun e w'=>e=.returned (.bool true)∧StgAt w' b { V with again:=(Ds.length:Int) } T O Sn∧But (fun g=>g=b) w w':=by
 have H:=hide h
 have HR:=hide hR
 have HD:=hide hD
 have hlt:=blk_lt h.blk
 have HA:=hide ha
 clear h hR hD ha
 go_enter Tryz.func63,Tryz.ntmps63
 go_wp2_with fail
 go_loopw [7] (fun i wx=>∃ k:Nat,k≤Ds.length∧i=.int .i64 k∧StgAt wx b { V with again:=(k:Int) } T O Sn∧But (fun g=>g=b) w wx) (fun i _=>Ds.length - (intOf i).toNat)
 case atStart=>exact ⟨0,Nat.zero_le _,rfl,by have:=H.out;obtain ⟨a1,a2,a3,a4,a5,a6,a7,a8⟩:=V;have e:a3=0:=HA.out;subst e;exact this,But.refl _ _⟩
 case round =>
  obtain ⟨k,hk,rfl,hS,hB⟩:=hrel
  have HS:=hide hS
  have HB:=hide hB
  clear hS hB
  by_cases hlt2:k < Ds.length
  · obtain ⟨p,hp⟩:∃ p,Ds[k]?=some p:=⟨_,List.getElem?_eq_getElem hlt2⟩
    have hd:=HD.out k p hp
    obtain ⟨⟨f1,f2,f3,hfv⟩,c1,c2,c3,hcv⟩:=hd.shp
    obtain ⟨m,hm,hpay⟩:=hd.pay
    have hc:∀ (j:Nat) u,(pkK p)[j]?=some u→wr.cell? ⟨g,off+k*15+j,none⟩=some u:=fun j u hu=>HB.out.cell (a:=⟨g,off+k*15+j,none⟩) hgb (HR.out k p j u hp hu)
    have h0:wr.cell? ⟨g,off+k*15,none⟩=some (.int .i64 3):=by rw [← hd.kind];exact hc 0 _ rfl
    have h1:wr.cell? ⟨g,off+k*15+1,none⟩=some (.bool p.clean):=hc 1 _ rfl
    have h2:wr.cell? ⟨g,off+k*15+2,none⟩=some (.bool p.will):=hc 2 _ rfl
    have h3:wr.cell? ⟨g,off+k*15+3,none⟩=some (.int .i64 p.keep):=hc 3 _ rfl
    have h4:wr.cell? ⟨g,off+k*15+4,none⟩=some (.string (bs p.client)):=hc 4 _ rfl
    have h5:wr.cell? ⟨g,off+k*15+5,none⟩=some (.bool p.present):=hc 5 _ rfl
    have h6:wr.cell? ⟨g,off+k*15+6,none⟩=some (.int .i64 p.code):=hc 6 _ rfl
    have h7:wr.cell? ⟨g,off+k*15+7,none⟩=some (.bool true):=by rw [← hd.dup];exact hc 7 _ rfl
    have h8:wr.cell? ⟨g,off+k*15+8,none⟩=some (.int .i64 p.qos):=hc 8 _ rfl
    have h9:wr.cell? ⟨g,off+k*15+9,none⟩=some (.bool p.retain):=hc 9 _ rfl
    have h10:wr.cell? ⟨g,off+k*15+10,none⟩=some (.string ⟨#[116]⟩):=by have e:wr.cell? ⟨g,off+k*15+10,none⟩=some (.string (bs p.topic)):=hc 10 _ rfl;rw [hd.top] at e;exact e
    have h11:wr.cell? ⟨g,off+k*15+11,none⟩=some (.string (bs (numB m))):=by have e:wr.cell? ⟨g,off+k*15+11,none⟩=some (.string (bs p.payload)):=hc 11 _ rfl;rw [hpay] at e;exact e
    have h12:wr.cell? ⟨g,off+k*15+12,none⟩=some (.int .i64 p.id):=hc 12 _ rfl
    have h13:wr.cell? ⟨g,off+k*15+13,none⟩=some (.slice f1 f2 f3):=by rw [← hfv];exact hc 13 _ rfl
    have h14:wr.cell? ⟨g,off+k*15+14,none⟩=some (.slice c1 c2 c3):=by rw [← hcv];exact hc 14 _ rfl
    obtain ⟨i,o,hi,ho,hop⟩:=hd.opn
    have HI:=hide hi
    have HO:=hide ho
    have HP:=hide (hop.trans hpay)
    have cT:=hide fun w'=>told_two (UInt8.ofNat (m / 250)) (UInt8.ofNat (m % 250)) w'
    rw [toldN_num m hm] at cT
    have hm0:¬ (m:Int) < 0:=by omega
    clear hc hd hi ho hop hfv hcv hp
    go_wp2_with fail
    have hn0:=heap_alloc_new wr (.cells #[.int .i64 3,.bool p.clean,.bool p.will,.int .i64 p.keep,.string (bs p.client),.bool p.present,.int .i64 p.code,.bool true,.int .i64 p.qos,.bool p.retain,.string ⟨#[116]⟩,.string (bs (numB m)),.int .i64 p.id,.slice f1 f2 f3,.slice c1 c2 c3] 36)
    have hB0:=(Below.refl wr.heap.size wr).alloc (Nat.le_refl _) (.cells #[.int .i64 3,.bool p.clean,.bool p.will,.int .i64 p.keep,.string (bs p.client),.bool p.present,.int .i64 p.code,.bool true,.int .i64 p.qos,.bool p.retain,.string ⟨#[116]⟩,.string (bs (numB m)),.int .i64 p.id,.slice f1 f2 f3,.slice c1 c2 c3] 36)
    generalize wr.alloc (.cells #[.int .i64 3,.bool p.clean,.bool p.will,.int .i64 p.keep,.string (bs p.client),.bool p.present,.int .i64 p.code,.bool true,.int .i64 p.qos,.bool p.retain,.string ⟨#[116]⟩,.string (bs (numB m)),.int .i64 p.id,.slice f1 f2 f3,.slice c1 c2 c3] 36)=W0 at *
    refine (cT.out _).mono ?_
    rintro e w2 ⟨rfl,hB2⟩
    have hn2:=(hB2.block _ (blk_lt hn0)).trans hn0
    have hB02:=hB0.trans (hB2.mono hB0.size)
    have H2:=hide (HS.out.below hB02)
    obtain ⟨d0,d1,d2,d3,d4,d5,d6,d7,d8,d9,d10,d11,d12,d13,d14⟩:=cells15 hn2
    have hl2:=blk_lt hn2
    have cF:=hide fun w' (hb:Below w2.heap.size w2 w')=>find_any b V.pv O p.id w' (by have:=blk_cell (i:=3) (H2.out.below hb).blk rfl;exact this) (H2.out.below hb).opn
    rw [HI.out] at cF
    have HB02:=hide hB02
    have HN2:=hide hn2
    clear hn0 hB0 hB2 hn2 hB02
    go_wp2_with fail
    refine (cF.out _ (Below.refl _ _)).mono ?_
    rintro e w3 ⟨rfl,hB3⟩
    have hn3:=(hB3.block _ hl2).trans HN2.out
    have H3:=hide (H2.out.below hB3)
    have hl3:=blk_lt hn3
    have HB03:=hide (HB02.out.trans (hB3.mono HB02.out.size))
    clear d0 d1 d2 d3 d4 d5 d6 d7 d8 d9 d10 d11 d12 d13 d14
    obtain ⟨d0,d1,d2,d3,d4,d5,d6,d7,d8,d9,d10,d11,d12,d13,d14⟩:=cells15 hn3
    obtain ⟨q3,k3,hq3⟩:=own_form H3.out.opn
    have hop:=H3.out.opn
    rw [hq3] at hop
    have hi0:i < O.length:=(List.getElem?_eq_some_iff.1 HO.out).1
    obtain ⟨g3,rfl,hg3,hkc,hcm,_⟩:=own_at hop (by omega)
    have o11:w3.cell? ⟨g3,i*15+11,none⟩=some (.string (bs (numB m))):=by
     have e:w3.cell? ⟨g3,i*15+11,none⟩=some (.string (bs o.payload)):=pk_cell (wr:=w3) hop HO.out rfl rfl 11 (by omega) (by rfl)
     rw [HP.out] at e
     exact e
    have t3:w3.cell? ⟨b,3,none⟩=some (.slice (some ⟨g3,0,none⟩) O.length k3):=by
     have e:w3.cell? ⟨b,3,none⟩=some V.pv:=blk_cell H3.out.blk rfl
     rw [e]
     exact congrArg some hq3
    have t2:w3.cell? ⟨b,2,none⟩=some (.int .i64 (k:Int)):=blk_cell H3.out.blk rfl
    have g2:w3.frozen? ⟨b,2,none⟩=false:=blk_frozen H3.out.blk
    have hbl3:b < w3.heap.size:=blk_lt H3.out.blk
    have hw:Hid (IntKind.wrap .i64 ((k:Int)+1)=(k:Int)+1):=by simp [Hid,IntKind.wrap,IntKind.bits,IntKind.signed];omega
    have HN3:=hide hn3
    have HCM:=hide hcm
    unfold maxLen at hcm
    have hi00:¬ (i:Int) < 0:=by omega
    clear hB3 hn3 hq3 hop hg3
    go_wp2_with fail
    have hii:decide ((i:Int) < 0)=false:=by simp
    go_region
    all_goals
     have t2':w3.drew.cell? ⟨b,2,none⟩=some (.int .i64 (k:Int)):=t2
     have g2':w3.drew.frozen? ⟨b,2,none⟩=false:=g2
     go_wp2_with fail
     have hB3:But (fun g=>g=b) wr w3.drew:=But.of_below HB03.out.drew
     exact ⟨⟨k+1,by omega,by go_num,(H3.out.keep (w':=w3.drew) (fun _ _=>rfl)).setAgain _,(HB.out.trans hB3 (fun _ _ f=>f)).trans (But.set (F:=fun g=>g=b) _ _ _ rfl) (fun _ _ f=>f)⟩,by simp [intOf];omega⟩
  · go_wp2
    go_ret
    have e:k=Ds.length:=by omega
    subst e
    exact ⟨rfl,HS.out,HB.out⟩
end kp
end Go.Proofs.YtnmfmoimjkoieaaGreatDoor
