import Derived.Test.YtnmfmoimjkoieaaGreatDoorF43
import Derived.Test.YtnmfmoimjkoieaaGreatDoorF44
import Derived.Test.YtnmfmoimjkoieaaGreatDoorF45
namespace Go.Proofs.YtnmfmoimjkoieaaGreatDoor
namespace kp
open Go.RowKit topPlain topWalks decPlain br
open rd (ints)
theorem wrap_is (n:Int) (h0:0≤n) (h1:n < 9223372036854775808):IntKind.wrap .i64 n=n:=by
 simp [IntKind.wrap,IntKind.bits,IntKind.signed]
 omega
theorem StgAt.setSent {w w5:World} {b:Nat} {V:StgV} {T:List Int} {O:List Pkt} {Sn Sn':List Int} {v5:Value} (h:StgAt w b V T O Sn) (hb:But (fun g=>V.sv.ownBlock=some g) w w5) (ho:w5.ownsRow 0 3 1 v5 Sn'.length (ints Sn')) (hv:v5.ownBlock=V.sv.ownBlock∨∃ g,v5.ownBlock=some g∧w.heap.size≤g):StgAt (w5.setCell ⟨b,4,none⟩ v5) b { V with sv:=v5 } T O Sn':=by
 obtain ⟨n1,n2,n3,n4⟩:=h.own_ne
 have hblk:w5.heap[b]?=some (.cells (stgC V) 77):=hb.blk (fun e=>n3 e) h.blk
 have hk:∀ g,g≠b→(w5.setCell ⟨b,4,none⟩ v5).heap[g]?=w5.heap[g]?:=fun g hg=>Below.heap_setCell _ _ _ _ (fun e=>hg e)
 refine ⟨by rw [blk_set _ hblk];rfl,own_keep h.told (fun g hg=>(hk g (fun e=>n1 (e ▸ hg))).trans (hb.keep g (h.lt (Or.inr (Or.inl hg))) (fun e=>h.ne g hg e))),own_keep h.opn (fun g hg=>(hk g (fun e=>n2 (e ▸ hg))).trans (hb.keep g (h.lt (Or.inr (Or.inr (Or.inl hg)))) (fun e=>(n4 g hg).2 e))),own_keep ho (fun g hg=>hk g (fun e=>?_)),h.shp,fun g hg=>?_⟩
 · obtain ⟨c,hc⟩:=own_blk ho hg;rw [e,hblk] at hc;simp at hc
 · rcases hv with e | ⟨g',e1,e2⟩
   · intro hs
     have hs2:v5.ownBlock=some g:=hs
     rw [e] at hs2
     exact h.ne g hg hs2
   · intro hs
     have hs2:v5.ownBlock=some g:=hs
     rw [e1] at hs2
     cases hs2
     have:=h.lt (Or.inr (Or.inl hg))
     omega
theorem StgAt.setId {w:World} {b:Nat} {V:StgV} {T:List Int} {O:List Pkt} {Sn:List Int} (h:StgAt w b V T O Sn) (x:Int):StgAt (w.setCell ⟨b,5,none⟩ (.int .i64 x)) b { V with id:=x } T O Sn:=by
 obtain ⟨n1,n2,n3,n4⟩:=h.own_ne
 have hk:∀ g,g≠b→(w.setCell ⟨b,5,none⟩ (.int .i64 x)).heap[g]?=w.heap[g]?:=fun g hg=>Below.heap_setCell _ _ _ _ (fun e=>hg e)
 exact ⟨by rw [blk_set _ h.blk];rfl,own_keep h.told (fun g hg=>hk g (fun e=>n1 (e ▸ hg))),own_keep h.opn (fun g hg=>hk g (fun e=>n2 (e ▸ hg))),own_keep h.sent (fun g hg=>hk g (fun e=>n3 (e ▸ hg))),h.shp,h.ne⟩
structure Mid (b:Nat) (V:StgV) (T Sn:List Int) (O:List Pkt) (q:Int) (i:Nat) (w w1:World) (v':Value):Prop where
 stg:StgAt w1 b { V with sv:=v',id:=(i:Int)+1 } T O (Sn ++ [q])
 but:But (V.has b) w w1
 own:v'.ownBlock=V.sv.ownBlock∨∃ g,v'.ownBlock=some g∧w.heap.size≤g
theorem Mid.below {b:Nat} {V:StgV} {T Sn:List Int} {O:List Pkt} {q:Int} {i:Nat} {w w1 w2:World} {v':Value} (h:Mid b V T Sn O q i w w1 v') (hb:Below w1.heap.size w1 w2):Mid b V T Sn O q i w w2 v':=
 ⟨h.stg.below hb,h.but.trans (But.of_below (F:=fun _=>False) hb) (fun _ _ f=>f.elim),h.own⟩
theorem ack_one (b lb:Nat) (V:StgV) (T Sn:List Int) (O:List Pkt) (n:Int) (w:World) (R:World→Prop) (h:StgAt w b V T O Sn) (hlb:V.lb=lb) (hp0:0 < O.length) (hO:O.length≤1000) (hn1:-9223372036854775808≤n) (hn2:n≤9223372036854775807)
 (hid:∀ (r:Nat) p,O[r]?=some p→idx (fun q=>q.id == p.id) O=(r:Int))
 (hS1:∀ p,O[pickN n O.length]?=some p→p.qos=1→∀ w' v',StgAt w' b { V with pv:=v' } T (O.eraseIdx (pickN n O.length)) Sn→But (fun g=>g=b) w w'→(∀ g,v'.ownBlock=some g→w.heap.size≤g)→Calls Tryz.prog 50 #[.pointer (some ⟨lb,0,none⟩),.int .i64 0,.agg (pkK (ackK 4 p.id))] w' fun e w''=>e=.returned (.tuple #[])∧(∀ k,w.heap.size≤k→k < w'.heap.size→w''.heap[k]?=w'.heap[k]?)∧∃ q m c V',SeesOk b lb R w'' q m c V')
 (hS2:∀ p,O[pickN n O.length]?=some p→p.qos≠1→∀ w',Below w.heap.size w w'→Calls Tryz.prog 50 #[.pointer (some ⟨lb,0,none⟩),.int .i64 0,.agg (pkK (ackK 5 p.id))] w' fun e w''=>e=.returned (.tuple #[])∧StgAt w'' b V T O Sn∧¬ V.has b lb∧(∀ k,w.heap.size≤k→k < w'.heap.size→w''.heap[k]?=w'.heap[k]?)∧w'.heap.size≤w''.heap.size∧lb < w.heap.size∧(∃ g cap V',HeardK w'' lb 0 g cap V' 6 p.id) ∧
   ∀ w3 v',StgAt w3 b { V with pv:=v' } T (O.eraseIdx (pickN n O.length)) Sn→But (fun g=>g=b) (w''.setCell ⟨lb,1,none⟩ (.slice none 0 0)) w3→(∀ g,v'.ownBlock=some g→w''.heap.size≤g)→Calls Tryz.prog 50 #[.pointer (some ⟨lb,0,none⟩),.int .i64 0,.agg (pkK (ackK 7 p.id))] w3 fun e w4=>e=.returned (.tuple #[])∧(∀ k,w.heap.size≤k→k < w'.heap.size→w4.heap[k]?=w3.heap[k]?)∧∃ q m c V',SeesOk b lb R w4 q m c V') :
 Calls Tryz.prog 28 #[.pointer (some ⟨b,0,none⟩),.int .i64 n] w fun e w'=>e=.returned (.bool true)∧R w':=by
 have hr:pickN n O.length < O.length:=pickN_lt n hp0
 obtain ⟨u,hu⟩:∃ u,O[pickN n O.length]?=some u:=⟨_,List.getElem?_eq_getElem hr⟩
 by_cases hq:u.qos=1
 · exact ack_one1 b lb V T Sn O n w R h hlb hp0 hO (fun p hp=>by rw [hu] at hp;cases hp;exact hq) hn1 hn2 hid hS1
 · exact ack_one2 b lb V T Sn O n w R h hlb hp0 hO (fun p hp=>by rw [hu] at hp;cases hp;exact hq) hn1 hn2 hid hS2
set_option maxHeartbeats 3200000 in
set_option maxRecDepth 100000 in
theorem stp1 (mk mq mn q:Int) (b lb i:Nat) (V:StgV) (T Sn:List Int) (O:List Pkt) (w:World) (R:World→Prop) (h:StgAt w b V T O Sn) (hi:V.id=(i:Int)) (hi2:i < 60000) (hsn:Sn.length=i) (hmk:pickN mk 6=0) (hmq:(pickN mq 3:Int)=q) (hq:q=0∨q=1) (hk1:-9223372036854775808≤mk) (hk2:mk≤9223372036854775807) (hq1:-9223372036854775808≤mq) (hq2:mq≤9223372036854775807)
 (hS:∀ w1 v',Mid b V T Sn O q i w w1 v'→Calls Tryz.prog 61 #[.pointer (some ⟨b,0,none⟩),.int .i64 q,.int .i64 ((i:Int)+1),.string (bs (numB i))] w1 fun e w2=>e=.returned (.bool true)∧w2.cell? ⟨b,4,none⟩=w1.cell? ⟨b,4,none⟩∧w2.cell? ⟨b,5,none⟩=w1.cell? ⟨b,5,none⟩∧∃ q n c V',SeesOk b lb R w2 q n c V') :
 Calls Tryz.prog 26 #[.pointer (some ⟨b,0,none⟩),.agg #[.int .i64 mk,.int .i64 mq,.int .i64 mn]] w fun e w'=>e=.returned (.bool true)∧R w':=by
 subst hsn
 have cP0:=hide fun w'=>pick_is mk 6 w' (by omega) hk1 hk2 (by omega)
 rw [hmk] at cP0
 have cP1:=hide fun w'=>pick_is mq 3 w' (by omega) hq1 hq2 (by omega)
 rw [hmq] at cP1
 have hq0:(q == 2)=false:=by rcases hq with rfl | rfl<;>rfl
 have hq00:¬ q=2:=by rcases hq with rfl | rfl<;>decide
 have H:=hide h
 have HS:=hide hS
 have hlt:=blk_lt h.blk
 obtain ⟨q4,k4,hq4⟩:=own_form h.sent
 have HQ:=hide hq4
 clear h hS hq4 hmk hmq hq
 go_enter Tryz.func26,Tryz.ntmps26
 go_wp2_with fail
 refine (cP0.out _).mono ?_
 rintro e w1 ⟨rfl,hB1'⟩
 have hz:=(hB1'.block w.heap.size (by simp)).trans (heap_alloc_new _ _)
 have e1:w1.cell? ⟨w.heap.size,1,none⟩=some (.int .i64 mq):=blk_cell hz rfl
 have hB1:Below w.heap.size w w1:=((Below.refl w.heap.size w).alloc (Nat.le_refl _) _).trans (hB1'.mono (by simp))
 have HB1:=hide hB1
 clear hB1 hB1' hz
 go_wp2_with fail
 refine (cP1.out _).mono ?_
 rintro e w2 ⟨rfl,hB2⟩
 have hB02:Below w.heap.size w w2:=HB1.out.trans (hB2.mono HB1.out.size)
 have H2:=hide (H.out.below hB02)
 have HB02:=hide hB02
 have t4:w2.cell? ⟨b,4,none⟩=some (.slice q4 Sn.length k4):=by rw [← HQ.out];exact blk_cell H2.out.blk rfl
 have g4:w2.frozen? ⟨b,4,none⟩=false:=blk_frozen H2.out.blk
 have hlt2:=blk_lt H2.out.blk
 clear hB02 hB2
 obtain ⟨i0,hi0,hz0,hz1,hz2⟩:=info_parts infoInt8
 have hO1:=H2.out.sent
 rw [HQ.out] at hO1
 have HO1:=hide hO1
 clear hO1
 go_wp2_with (first
  | (at_builtin;refine wpList_append_own_at _ rfl _ _ 34 rfl 0 3 i0 (.int .i64 0) 1 8 Tryz.underlying34 hi0 hz0 hz1 hz2 rfl (by decide) (.slice q4 Sn.length k4) Sn.length (ints Sn) rfl (own_below4 HO1.out ((Below.refl _ _).alloc (Nat.le_refl _) _)) ⟨w2.heap.size,0,none⟩ 1 1 _ rfl rfl (news_new _ _ _) ?c2 ?c3 ?c4 ?c5 ?_))
 case c2=>rfl
 case c3=>unfold maxLen;omega
 case c4=>omega
 case c5=>omega
 intro v5 w5 hown5 hgrow5 _ hat5
 have hA3:=(Below.refl w2.heap.size w2).alloc (Nat.le_refl _) (.cells #[.int .i64 q] 3)
 have hb5:But (fun g=>V.sv.ownBlock=some g) w2 w5:=(But.of_below hA3).trans (But.of_grown (F:=fun g=>V.sv.ownBlock=some g) hgrow5 (fun g hg=>by rw [HQ.out];exact hg)) (fun _ _ f=>f)
 have ho5:w5.ownsRow 0 3 1 v5 (Sn ++ [q]).length (ints (Sn ++ [q])):=by
  rw [List.length_append]
  have e:ints (Sn ++ [q])=ints Sn ++ [.int .i64 q]:=by simp [ints]
  rw [e]
  exact hown5
 have hv5:v5.ownBlock=V.sv.ownBlock∨∃ g,v5.ownBlock=some g∧w2.heap.size≤g:=hat5.imp (fun e=>by rw [HQ.out];exact e) (fun e=>⟨_,e,by omega⟩)
 have hblk5:w5.heap[b]?=some (.cells (stgC V) 77):=hb5.blk (fun e=>H2.out.own_ne.2.2.1 e) H2.out.blk
 have s4:w5.cell? ⟨b,4,none⟩=some V.sv:=blk_cell hblk5 rfl
 rw [HQ.out] at s4
 have s4f:w5.frozen? ⟨b,4,none⟩=false:=blk_frozen hblk5
 have H6:=hide (H2.out.setSent hb5 ho5 hv5)
 obtain ⟨q5,k5,hq5⟩:=own_form ho5
 subst hq5
 have hBut5:But (V.has b) w (w5.setCell ⟨b,4,none⟩ (.slice q5 (Sn ++ [q]).length k5)):=((But.of_below HB02.out).trans (hb5.wide (fun g _ e=>Or.inr (Or.inr (Or.inr e)))) (fun _ _ f=>f)).trans (But.set (F:=V.has b) _ _ _ (Or.inl rfl)) (fun _ _ f=>f)
 have HBU:=hide hBut5
 have hv5':(Value.slice q5 (Sn ++ [q]).length k5).ownBlock=V.sv.ownBlock∨∃ g,(Value.slice q5 (Sn ++ [q]).length k5).ownBlock=some g∧w.heap.size≤g:=hv5.imp id (fun ⟨g,a1,a2⟩=>⟨g,a1,Nat.le_trans HB02.out.size a2⟩)
 have HV5:=hide hv5'
 rw [show (Sn ++ [q]).length=Sn.length+1 by simp] at *
 have i5:(w5.setCell ⟨b,4,none⟩ (.slice q5 (Sn.length+1) k5)).cell? ⟨b,5,none⟩=some (.int .i64 (Sn.length:Int)):=by rw [← hi];exact blk_cell H6.out.blk rfl
 have i5f:(w5.setCell ⟨b,4,none⟩ (.slice q5 (Sn.length+1) k5)).frozen? ⟨b,5,none⟩=false:=blk_frozen H6.out.blk
 have hlt5:b < w5.heap.size:=blk_lt hblk5
 clear hown5 hgrow5 hat5 hA3 hb5 ho5 hv5 hv5' hblk5 hBut5 t4 g4 e1 hi0 hz0 hz1 hz2
 go_wp2_with fail
 rw [show (Sn.length:Int) % 65535+1=(Sn.length:Int)+1 by omega]
 have hM:Mid b V T Sn O q Sn.length w ((w5.setCell ⟨b,4,none⟩ (.slice q5 (Sn.length+1) k5)).setCell ⟨b,5,none⟩ (.int .i64 ((Sn.length:Int)+1))) (.slice q5 (Sn.length+1) k5):=⟨H6.out.setId _,HBU.out.trans (But.set (F:=V.has b) _ _ _ (Or.inl rfl)) (fun _ _ f=>f),HV5.out⟩
 generalize (w5.setCell ⟨b,4,none⟩ (.slice q5 (Sn.length+1) k5)).setCell ⟨b,5,none⟩ (.int .i64 ((Sn.length:Int)+1))=w6 at *
 have c4:w6.cell? ⟨b,4,none⟩=some (.slice q5 (Sn.length+1) k5):=blk_cell hM.stg.blk rfl
 have c5:w6.cell? ⟨b,5,none⟩=some (.int .i64 ((Sn.length:Int)+1)):=blk_cell hM.stg.blk rfl
 have hb6:b < w6.heap.size:=blk_lt hM.stg.blk
 have HM:=hide hM
 have hw1:Hid (IntKind.wrap .i64 (Sn.length:Int)=(Sn.length:Int)):=wrap_is _ (by omega) (by omega)
 have cN:=hide fun w'=>number_any Sn.length w' hi2
 generalize numB Sn.length=pay at cN HS
 clear hM H6 HBU HV5 i5 i5f s4 s4f hlt5
 go_region_held3 (fun w'=>w'.cell? ⟨b,4,none⟩=some (.slice q5 (Sn.length+1) k5)∧w'.cell? ⟨b,5,none⟩=some (.int .i64 ((Sn.length:Int)+1)))
  (go_keep)
  (first
   | (go_at_call 62
      rw [hw1.out]
      refine (cN.out _).mono ?_
      rintro e w7 ⟨rfl,hB7⟩
      have hB67:Below w6.heap.size w6 w7:=(Below.refl w6.heap.size w6).drew.trans hB7
      have c47:w7.cell? ⟨b,4,none⟩=some (.slice q5 (Sn.length+1) k5):=(hB67.cell (p:=⟨b,4,none⟩) hb6).trans c4
      have c57:w7.cell? ⟨b,5,none⟩=some (.int .i64 ((Sn.length:Int)+1)):=(hB67.cell (p:=⟨b,5,none⟩) hb6).trans c5
      have cS:=hide (HS.out w7 _ (HM.out.below hB67))
      clear hB7 hB67)
   | (go_at_call 61
      refine cS.out.mono ?_
      rintro e w8 ⟨rfl,c48',c58',q8,n8,k8,V8,hSe⟩
      have HSe:=hide hSe
      have c48:w8.cell? ⟨b,4,none⟩=some (.slice q5 (Sn.length+1) k5):=c48'.trans c47
      have c58:w8.cell? ⟨b,5,none⟩=some (.int .i64 ((Sn.length:Int)+1)):=c58'.trans c57
      have k0:w8.cell? ⟨b,0,none⟩=some (.pointer (some ⟨lb,0,none⟩)):=hSe.cell
      have cHd:=hide (heard_any lb 0 V8 w8.drew hSe.line (by omega) ⟨_,_,_,hSe.got⟩)
      rw [hSe.got] at cHd
      clear hSe c48' c58'))
 all_goals
  clear c4 c5 c47 c57 cS c48 c58
  go_wp2_with fail
  go_region_with (first
   | (go_at_call 51
      refine cHd.out.mono ?_
      rintro e w9 ⟨rfl,hw9,_⟩
      have hc9:=hide (HSe.out.see _ (Below.refl _ _).drew)
      rw [show w8.drew.setCell ⟨lb,1,none⟩ (.slice none 0 0)=w9 from hw9.symm] at hc9
      clear hw9)
   | (go_at_call 63
      refine hc9.out.mono ?_
      rintro e w10 ⟨rfl,hR⟩
      have HR:=hide hR
      clear hR))
  all_goals
   go_wp2_with fail
   go_ret
   exact ⟨rfl,HR.out⟩
set_option maxHeartbeats 3200000 in
set_option maxRecDepth 100000 in
theorem stp2 (mk mq mn:Int) (b lb i:Nat) (V:StgV) (T Sn:List Int) (O:List Pkt) (w:World) (R:World→Prop) (h:StgAt w b V T O Sn) (hi:V.id=(i:Int)) (hi2:i < 60000) (hsn:Sn.length=i) (hmk:pickN mk 6=0) (hmq:pickN mq 3=2) (hk1:-9223372036854775808≤mk) (hk2:mk≤9223372036854775807) (hq1:-9223372036854775808≤mq) (hq2:mq≤9223372036854775807)
 (hS:∀ w1 v',Mid b V T Sn O 2 i w w1 v'→Calls Tryz.prog 61 #[.pointer (some ⟨b,0,none⟩),.int .i64 2,.int .i64 ((i:Int)+1),.string (bs (numB i))] w1 fun e w2=>e=.returned (.bool true)∧w2.cell? ⟨b,4,none⟩=w1.cell? ⟨b,4,none⟩∧w2.cell? ⟨b,5,none⟩=w1.cell? ⟨b,5,none⟩∧w2.cell? ⟨b,0,none⟩=some (.pointer (some ⟨lb,0,none⟩)) ∧
   ∀ w3,Below w2.heap.size w2 w3→Calls Tryz.prog 50 #[.pointer (some ⟨lb,0,none⟩),.int .i64 1,.agg (pkK (ackK 6 ((i:Int)+1)))] w3 fun e w4=>e=.returned (.tuple #[])∧w4.cell? ⟨b,0,none⟩=some (.pointer (some ⟨lb,0,none⟩))∧w4.cell? ⟨b,5,none⟩=some (.int .i64 ((i:Int)+1))∧(∃ g cap V4,HeardK w4 lb 1 g cap V4 7 ((i:Int)+1))∧∃ q n c V',SeesOk b lb R (w4.setCell ⟨lb,2,none⟩ (.slice none 0 0)) q n c V') :
 Calls Tryz.prog 26 #[.pointer (some ⟨b,0,none⟩),.agg #[.int .i64 mk,.int .i64 mq,.int .i64 mn]] w fun e w'=>e=.returned (.bool true)∧R w':=by
 subst hsn
 have cP0:=hide fun w'=>pick_is mk 6 w' (by omega) hk1 hk2 (by omega)
 rw [hmk] at cP0
 have cP1:=hide fun w'=>pick_is mq 3 w' (by omega) hq1 hq2 (by omega)
 rw [hmq] at cP1
 have H:=hide h
 have HS:=hide hS
 have hlt:=blk_lt h.blk
 obtain ⟨q4,k4,hq4⟩:=own_form h.sent
 have HQ:=hide hq4
 clear h hS hq4 hmk hmq
 go_enter Tryz.func26,Tryz.ntmps26
 go_wp2_with fail
 refine (cP0.out _).mono ?_
 rintro e w1 ⟨rfl,hB1'⟩
 have hz:=(hB1'.block w.heap.size (by simp)).trans (heap_alloc_new _ _)
 have e1:w1.cell? ⟨w.heap.size,1,none⟩=some (.int .i64 mq):=blk_cell hz rfl
 have hB1:Below w.heap.size w w1:=((Below.refl w.heap.size w).alloc (Nat.le_refl _) _).trans (hB1'.mono (by simp))
 have HB1:=hide hB1
 clear hB1 hB1' hz
 go_wp2_with fail
 refine (cP1.out _).mono ?_
 rintro e w2 ⟨rfl,hB2⟩
 have hB02:Below w.heap.size w w2:=HB1.out.trans (hB2.mono HB1.out.size)
 have H2:=hide (H.out.below hB02)
 have HB02:=hide hB02
 have t4:w2.cell? ⟨b,4,none⟩=some (.slice q4 Sn.length k4):=by rw [← HQ.out];exact blk_cell H2.out.blk rfl
 have g4:w2.frozen? ⟨b,4,none⟩=false:=blk_frozen H2.out.blk
 have hlt2:=blk_lt H2.out.blk
 clear hB02 hB2
 obtain ⟨i0,hi0,hz0,hz1,hz2⟩:=info_parts infoInt8
 have hO1:=H2.out.sent
 rw [HQ.out] at hO1
 have HO1:=hide hO1
 clear hO1
 go_wp2_with (first
  | (at_builtin;refine wpList_append_own_at _ rfl _ _ 34 rfl 0 3 i0 (.int .i64 0) 1 8 Tryz.underlying34 hi0 hz0 hz1 hz2 rfl (by decide) (.slice q4 Sn.length k4) Sn.length (ints Sn) rfl (own_below4 HO1.out ((Below.refl _ _).alloc (Nat.le_refl _) _)) ⟨w2.heap.size,0,none⟩ 1 1 _ rfl rfl (news_new _ _ _) ?c2 ?c3 ?c4 ?c5 ?_))
 case c2=>rfl
 case c3=>unfold maxLen;omega
 case c4=>omega
 case c5=>omega
 intro v5 w5 hown5 hgrow5 _ hat5
 have hA3:=(Below.refl w2.heap.size w2).alloc (Nat.le_refl _) (.cells #[.int .i64 2] 3)
 have hb5:But (fun g=>V.sv.ownBlock=some g) w2 w5:=(But.of_below hA3).trans (But.of_grown (F:=fun g=>V.sv.ownBlock=some g) hgrow5 (fun g hg=>by rw [HQ.out];exact hg)) (fun _ _ f=>f)
 have ho5:w5.ownsRow 0 3 1 v5 (Sn ++ [2]).length (ints (Sn ++ [2])):=by
  rw [List.length_append]
  have e:ints (Sn ++ [2])=ints Sn ++ [.int .i64 2]:=by simp [ints]
  rw [e]
  exact hown5
 have hv5:v5.ownBlock=V.sv.ownBlock∨∃ g,v5.ownBlock=some g∧w2.heap.size≤g:=hat5.imp (fun e=>by rw [HQ.out];exact e) (fun e=>⟨_,e,by omega⟩)
 have hblk5:w5.heap[b]?=some (.cells (stgC V) 77):=hb5.blk (fun e=>H2.out.own_ne.2.2.1 e) H2.out.blk
 have s4:w5.cell? ⟨b,4,none⟩=some V.sv:=blk_cell hblk5 rfl
 rw [HQ.out] at s4
 have s4f:w5.frozen? ⟨b,4,none⟩=false:=blk_frozen hblk5
 have H6:=hide (H2.out.setSent hb5 ho5 hv5)
 obtain ⟨q5,k5,hq5⟩:=own_form ho5
 subst hq5
 have hBut5:But (V.has b) w (w5.setCell ⟨b,4,none⟩ (.slice q5 (Sn ++ [2]).length k5)):=((But.of_below HB02.out).trans (hb5.wide (fun g _ e=>Or.inr (Or.inr (Or.inr e)))) (fun _ _ f=>f)).trans (But.set (F:=V.has b) _ _ _ (Or.inl rfl)) (fun _ _ f=>f)
 have HBU:=hide hBut5
 have hv5':(Value.slice q5 (Sn ++ [2]).length k5).ownBlock=V.sv.ownBlock∨∃ g,(Value.slice q5 (Sn ++ [2]).length k5).ownBlock=some g∧w.heap.size≤g:=hv5.imp id (fun ⟨g,a1,a2⟩=>⟨g,a1,Nat.le_trans HB02.out.size a2⟩)
 have HV5:=hide hv5'
 rw [show (Sn ++ [(2:Int)]).length=Sn.length+1 by simp] at *
 have i5:(w5.setCell ⟨b,4,none⟩ (.slice q5 (Sn.length+1) k5)).cell? ⟨b,5,none⟩=some (.int .i64 (Sn.length:Int)):=by rw [← hi];exact blk_cell H6.out.blk rfl
 have i5f:(w5.setCell ⟨b,4,none⟩ (.slice q5 (Sn.length+1) k5)).frozen? ⟨b,5,none⟩=false:=blk_frozen H6.out.blk
 have hlt5:b < w5.heap.size:=blk_lt hblk5
 clear hown5 hgrow5 hat5 hA3 hb5 ho5 hv5 hv5' hblk5 hBut5 t4 g4 e1 hi0 hz0 hz1 hz2
 go_wp2_with fail
 rw [show (Sn.length:Int) % 65535+1=(Sn.length:Int)+1 by omega]
 have hM:Mid b V T Sn O 2 Sn.length w ((w5.setCell ⟨b,4,none⟩ (.slice q5 (Sn.length+1) k5)).setCell ⟨b,5,none⟩ (.int .i64 ((Sn.length:Int)+1))) (.slice q5 (Sn.length+1) k5):=⟨H6.out.setId _,HBU.out.trans (But.set (F:=V.has b) _ _ _ (Or.inl rfl)) (fun _ _ f=>f),HV5.out⟩
 generalize (w5.setCell ⟨b,4,none⟩ (.slice q5 (Sn.length+1) k5)).setCell ⟨b,5,none⟩ (.int .i64 ((Sn.length:Int)+1))=w6 at *
 have c4:w6.cell? ⟨b,4,none⟩=some (.slice q5 (Sn.length+1) k5):=blk_cell hM.stg.blk rfl
 have c5:w6.cell? ⟨b,5,none⟩=some (.int .i64 ((Sn.length:Int)+1)):=blk_cell hM.stg.blk rfl
 have hb6:b < w6.heap.size:=blk_lt hM.stg.blk
 have HM:=hide hM
 have hw1:Hid (IntKind.wrap .i64 (Sn.length:Int)=(Sn.length:Int)):=wrap_is _ (by omega) (by omega)
 have cN:=hide fun w'=>number_any Sn.length w' hi2
 generalize numB Sn.length=pay at cN HS
 clear hM H6 HBU HV5 i5 i5f s4 s4f hlt5
 simp only [pkK,ackK,zP] at HS
 go_region_held3 (fun w'=>w'.cell? ⟨b,4,none⟩=some (.slice q5 (Sn.length+1) k5)∧w'.cell? ⟨b,5,none⟩=some (.int .i64 ((Sn.length:Int)+1)))
  (go_keep)
  (first
   | (go_at_call 62
      rw [hw1.out]
      refine (cN.out _).mono ?_
      rintro e w7 ⟨rfl,hB7⟩
      have hB67:Below w6.heap.size w6 w7:=(Below.refl w6.heap.size w6).drew.trans hB7
      have c47:w7.cell? ⟨b,4,none⟩=some (.slice q5 (Sn.length+1) k5):=(hB67.cell (p:=⟨b,4,none⟩) hb6).trans c4
      have c57:w7.cell? ⟨b,5,none⟩=some (.int .i64 ((Sn.length:Int)+1)):=(hB67.cell (p:=⟨b,5,none⟩) hb6).trans c5
      have cS:=hide (HS.out w7 _ (HM.out.below hB67))
      clear hB7 hB67)
   | (go_at_call 61
      refine cS.out.mono ?_
      rintro e w8 ⟨rfl,c48',c58',k08,hN⟩
      have c48:w8.cell? ⟨b,4,none⟩=some (.slice q5 (Sn.length+1) k5):=c48'.trans c47
      have c58:w8.cell? ⟨b,5,none⟩=some (.int .i64 ((Sn.length:Int)+1)):=c58'.trans c57
      have HN:=hide hN
      clear hN c48' c58'))
 all_goals
  clear c4 c5 c47 c57 cS c48
  have cR:=hide (HN.out w8.drew (Below.refl _ _).drew)
  go_wp2_with fail
  go_region_held3 (fun w'=>w'.cell? ⟨b,0,none⟩=some (.pointer (some ⟨lb,0,none⟩))∧w'.cell? ⟨b,5,none⟩=some (.int .i64 ((Sn.length:Int)+1)))
   (go_keep)
   (first
    | (go_at_call 50
       refine cR.out.mono ?_
       rintro e w9 ⟨rfl,k09,c59,⟨g9,cap9,V9,hH⟩,q9,n9,k9,V9',hSe⟩
       have HH:=hide hH
       have HSe:=hide hSe
       have cHd:=hide (heard_any lb 1 V9 w9 hH.line (by omega) ⟨_,_,_,hH.got⟩)
       rw [hH.got] at cHd
       clear hH hSe))
  all_goals
   clear cR HN k08 c58
   go_wp2_with fail
   refine cHd.out.mono ?_
   rintro e w10 ⟨rfl,hw10,hl10⟩
   have hbl:b≠lb:=HSe.out.ne
   have m0:w10.cell? ⟨g9,0,none⟩=some (.int .i64 7):=by
    rw [hw10,World.cell?_of_block (w:=w9) (Below.heap_setCell _ _ _ _ HH.out.ne)];exact HH.out.kind
   have m12:w10.cell? ⟨g9,12,none⟩=some (.int .i64 ((Sn.length:Int)+1)):=by
    rw [hw10,World.cell?_of_block (w:=w9) (Below.heap_setCell _ _ _ _ HH.out.ne)];exact HH.out.id
   have m5:w10.cell? ⟨b,5,none⟩=some (.int .i64 ((Sn.length:Int)+1)):=by
    rw [hw10,World.cell?_of_block (w:=w9) (Below.heap_setCell _ _ _ _ hbl)];exact c59
   have HSe10:Hid (SeesOk b lb R w10 q9 n9 k9 V9'):=by
    have:w10=w9.setCell ⟨lb,2,none⟩ (.slice none 0 0):=hw10
    rw [this];exact HSe.out
   have k10:w10.cell? ⟨b,0,none⟩=some (.pointer (some ⟨lb,0,none⟩)):=HSe10.out.cell
   have hcap1:=HH.out.cap1
   have hcapm:cap9≤9223372036854775807:=by have:=HH.out.capm;unfold maxLen at this;omega
   clear hw10 hl10 cHd k09 c59 HSe
   go_wp2_with fail
   go_region_held3 (fun w'=>w'.cell? ⟨g9,0,none⟩=some (.int .i64 7)∧w'.cell? ⟨g9,12,none⟩=some (.int .i64 ((Sn.length:Int)+1))∧w'.cell? ⟨b,5,none⟩=some (.int .i64 ((Sn.length:Int)+1)))
    (go_keep)
    (fail)
   all_goals
    have cHe:=hide (heard_any lb 0 V9' w10.drew.drew HSe10.out.line (by omega) ⟨_,_,_,HSe10.out.got⟩)
    rw [HSe10.out.got] at cHe
    clear m0 m12 m5
    go_wp2_with fail
    go_region_with (first
     | (go_at_call 51
        refine cHe.out.mono ?_
        rintro e w11 ⟨rfl,hw11,_⟩
        have hc11:=hide (HSe10.out.see _ (Below.refl _ _).drew.drew)
        rw [show w10.drew.drew.setCell ⟨lb,1,none⟩ (.slice none 0 0)=w11 from hw11.symm] at hc11
        clear hw11)
     | (go_at_call 63
        refine hc11.out.mono ?_
        rintro e w12 ⟨rfl,hR⟩
        have HR:=hide hR
        clear hR))
    all_goals
     go_wp2_with fail
     go_ret
     exact ⟨rfl,HR.out⟩
end kp
end Go.Proofs.YtnmfmoimjkoieaaGreatDoor
