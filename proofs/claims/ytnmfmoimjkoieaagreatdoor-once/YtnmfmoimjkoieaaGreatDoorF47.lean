import Derived.Test.YtnmfmoimjkoieaaGreatDoorF46
namespace Go.Proofs.YtnmfmoimjkoieaaGreatDoor
namespace kp
open Go.RowKit topPlain topWalks decPlain br
open rd (ints)
structure Again1 (b lb B:Nat) (Q1 Qd:World→Prop) (Qa:Value→World→Prop) (Qb:World→Prop):Prop where
 cell:∀ w,Q1 w→w.cell? ⟨lb,0,none⟩=some (.pointer (some ⟨B,0,none⟩))
 close:∀ w,Q1 w→Calls Tryz.prog 52 #[.pointer (some ⟨B,0,none⟩),.int .i64 1] w fun e w1=>∃ q n c,e=.returned (.tuple #[.slice q n c,.int .i64 0])∧Qa (.slice q n c) w1∧w1.cell? ⟨b,0,none⟩=some (.pointer (some ⟨lb,0,none⟩))
 takes:∀ ov w1,Qa ov w1→Calls Tryz.prog 65 #[.pointer (some ⟨lb,0,none⟩),ov,.int .i64 0] w1 fun e w2=>e=.returned (.tuple #[])∧Qb w2∧w2.cell? ⟨b,0,none⟩=some (.pointer (some ⟨lb,0,none⟩))
 joins:∀ w2,Qb w2→Calls Tryz.prog 48 #[.pointer (some ⟨lb,0,none⟩),.int .i64 1,.string ⟨#[100]⟩,.bool false] w2 fun e w3=>∃ q c,e=.returned (.tuple #[.slice q 0 c,.bool true])∧Qd w3
def Five (a b:Bool):Prop:=a=b
def Cells (b lb:Nat) (v:Value) (id:Int) (w:World):Prop:=w.cell? ⟨b,4,none⟩=some v∧w.cell? ⟨b,5,none⟩=some (.int .i64 id)∧w.cell? ⟨b,0,none⟩=some (.pointer (some ⟨lb,0,none⟩))
set_option maxHeartbeats 3200000 in
set_option maxRecDepth 100000 in
theorem stpT (five:Bool) (mk mq mn:Int) (b lb B i:Nat) (V:StgV) (T Sn:List Int) (O:List Pkt) (w:World) (Q1 Qd:Value→World→Prop) (Qa:Value→Value→World→Prop) (Qb:Value→World→Prop) (R:World→Prop) (h:StgAt w b V T O Sn) (hi:V.id=(i:Int)) (hi2:i < 60000) (hsn:Sn.length=i) (hmk:pickN mk 6=(if five then 5 else 3)) (hk1:-9223372036854775808≤mk) (hk2:mk≤9223372036854775807)
 (hS:∀ w1 v',Mid b V T Sn O 2 i w w1 v'→Calls Tryz.prog 61 #[.pointer (some ⟨b,0,none⟩),.int .i64 2,.int .i64 ((i:Int)+1),.string (bs (numB i))] w1 fun e w2=>e=.returned (.bool true)∧Q1 v' w2∧w2.cell? ⟨b,4,none⟩=w1.cell? ⟨b,4,none⟩∧w2.cell? ⟨b,5,none⟩=w1.cell? ⟨b,5,none⟩∧w2.cell? ⟨b,0,none⟩=some (.pointer (some ⟨lb,0,none⟩))∧∀ g,w.heap.size≤g→g < w1.heap.size→w2.heap[g]?=w1.heap[g]?)
 (hQ1:∀ v w1 w2,Q1 v w1→Below w1.heap.size w1 w2→Q1 v w2)
 (h3:Five five false→∀ v w1,Q1 v w1→Qd v w1)
 (h5:Five five true→∀ v,Again1 b lb B (Q1 v) (Qd v) (Qa v) (Qb v))
 (hQd:∀ v w1,Qd v w1→Cells b lb v ((i:Int)+1) w1)
 (hQdB:∀ v w1 w2,Qd v w1→Below w1.heap.size w1 w2→Qd v w2)
 (hS2:∀ v w1,Qd v w1→Calls Tryz.prog 61 #[.pointer (some ⟨b,0,none⟩),.int .i64 2,.int .i64 ((i:Int)+1),.string (bs (numB i))] w1 fun e w2=>e=.returned (.bool true)∧Cells b lb v ((i:Int)+1) w2 ∧
   ∀ w3,Below w2.heap.size w2 w3→Calls Tryz.prog 50 #[.pointer (some ⟨lb,0,none⟩),.int .i64 1,.agg (pkK (ackK 6 ((i:Int)+1)))] w3 fun e w4=>e=.returned (.tuple #[])∧w4.cell? ⟨b,0,none⟩=some (.pointer (some ⟨lb,0,none⟩))∧w4.cell? ⟨b,5,none⟩=some (.int .i64 ((i:Int)+1))∧∃ g cap V4,HeardK w4 lb 1 g cap V4 7 ((i:Int)+1)∧∃ q n c V',SeesOk b lb (fun w5=>R w5∧w5.cell? ⟨g,0,none⟩=some (.int .i64 7)) (w4.setCell ⟨lb,2,none⟩ (.slice none 0 0)) q n c V') :
 Calls Tryz.prog 26 #[.pointer (some ⟨b,0,none⟩),.agg #[.int .i64 mk,.int .i64 mq,.int .i64 mn]] w fun e w'=>e=.returned (.bool true)∧R w':=by
 subst hsn
 cases five
 all_goals
  have cP0:=hide fun w'=>pick_is mk 6 w' (by omega) hk1 hk2 (by omega)
  first
   | rw [show pickN mk 6=5 from hmk] at cP0
   | rw [show pickN mk 6=3 from hmk] at cP0
  have H:=hide h
  have HS:=hide hS
  have HQ1:=hide hQ1
  have H3:=hide h3
  have H5:=hide h5
  have HQd:=hide hQd
  have HQB:=hide hQdB
  have HS2:=hide hS2
  have hlt:=blk_lt h.blk
  obtain ⟨q4,k4,hq4⟩:=own_form h.sent
  have HQ:=hide hq4
  clear h hS hq4 hmk hQ1 h3 h5 hQd hQdB hS2
  go_enter Tryz.func26,Tryz.ntmps26
  go_wp2_with fail
  refine (cP0.out _).mono ?_
  rintro e w1 ⟨rfl,hB1'⟩
  have hz:=(hB1'.block w.heap.size (by simp)).trans (heap_alloc_new _ _)
  have e0:w1.cell? ⟨w.heap.size,0,none⟩=some (.int .i64 mk):=blk_cell hz rfl
  have hB02:Below w.heap.size w w1:=((Below.refl w.heap.size w).alloc (Nat.le_refl _) _).trans (hB1'.mono (by simp))
  have hal:w.heap.size < w1.heap.size:=blk_lt hz
  have hab:b≠w.heap.size:=Nat.ne_of_lt hlt
  clear hB1' hz
  have H2:=hide (H.out.below hB02)
  have HB02:=hide hB02
  have t4:w1.cell? ⟨b,4,none⟩=some (.slice q4 Sn.length k4):=by rw [← HQ.out];exact blk_cell H2.out.blk rfl
  have g4:w1.frozen? ⟨b,4,none⟩=false:=blk_frozen H2.out.blk
  have hlt2:=blk_lt H2.out.blk
  clear hB02
  obtain ⟨i0,hi0,hz0,hz1,hz2⟩:=info_parts infoInt8
  have hO1:=H2.out.sent
  rw [HQ.out] at hO1
  have HO1:=hide hO1
  clear hO1
  go_wp2_with (first
   | (at_builtin;refine wpList_append_own_at _ rfl _ _ 34 rfl 0 3 i0 (.int .i64 0) 1 8 Tryz.underlying34 hi0 hz0 hz1 hz2 rfl (by decide) (.slice q4 Sn.length k4) Sn.length (ints Sn) rfl (own_below4 HO1.out ((Below.refl _ _).alloc (Nat.le_refl _) _)) ⟨w1.heap.size,0,none⟩ 1 1 _ rfl rfl (news_new _ _ _) ?c2 ?c3 ?c4 ?c5 ?_))
  case c2=>rfl
  case c3=>unfold maxLen;omega
  case c4=>omega
  case c5=>omega
  intro v5 w5 hown5 hgrow5 _ hat5
  have hA3:=(Below.refl w1.heap.size w1).alloc (Nat.le_refl _) (.cells #[.int .i64 2] 3)
  have hb5:But (fun g=>V.sv.ownBlock=some g) w1 w5:=(But.of_below hA3).trans (But.of_grown (F:=fun g=>V.sv.ownBlock=some g) hgrow5 (fun g hg=>by rw [HQ.out];exact hg)) (fun _ _ f=>f)
  have ho5:w5.ownsRow 0 3 1 v5 (Sn ++ [2]).length (ints (Sn ++ [2])):=by
   rw [List.length_append]
   have e:ints (Sn ++ [2])=ints Sn ++ [.int .i64 2]:=by simp [ints]
   rw [e]
   exact hown5
  have hv5:v5.ownBlock=V.sv.ownBlock∨∃ g,v5.ownBlock=some g∧w1.heap.size≤g:=hat5.imp (fun e=>by rw [HQ.out];exact e) (fun e=>⟨_,e,by omega⟩)
  have hblk5:w5.heap[b]?=some (.cells (stgC V) 77):=hb5.blk (fun e=>H2.out.own_ne.2.2.1 e) H2.out.blk
  have s4:w5.cell? ⟨b,4,none⟩=some V.sv:=blk_cell hblk5 rfl
  rw [HQ.out] at s4
  have e05:w5.cell? ⟨w.heap.size,0,none⟩=some (.int .i64 mk):=hb5.cell (a:=⟨w.heap.size,0,none⟩) (fun e=>Nat.lt_irrefl _ (H.out.lt (Or.inr (Or.inr (Or.inr e))))) e0
  have s4f:w5.frozen? ⟨b,4,none⟩=false:=blk_frozen hblk5
  have H6:=hide (H2.out.setSent hb5 ho5 hv5)
  obtain ⟨q5,k5,hq5⟩:=own_form ho5
  subst hq5
  have hBut5:But (V.has b) w (w5.setCell ⟨b,4,none⟩ (.slice q5 (Sn ++ [2]).length k5)):=((But.of_below HB02.out).trans (hb5.wide (fun g _ e=>Or.inr (Or.inr (Or.inr e)))) (fun _ _ f=>f)).trans (But.set (F:=V.has b) _ _ _ (Or.inl rfl)) (fun _ _ f=>f)
  have HBU:=hide hBut5
  have hv5':(Value.slice q5 (Sn ++ [2]).length k5).ownBlock=V.sv.ownBlock∨∃ g,(Value.slice q5 (Sn ++ [2]).length k5).ownBlock=some g∧w.heap.size≤g:=hv5.imp id (fun ⟨g,a1,a2⟩=>⟨g,a1,Nat.le_trans HB02.out.size a2⟩)
  have HV5:=hide hv5'
  rw [show (Sn ++ [(2:Int)]).length=Sn.length+1 by simp] at *
  have i5:(w5.setCell ⟨b,4,none⟩ (.slice q5 (Sn.length+1) k5)).cell? ⟨b,5,none⟩=some (.int .i64 (Sn.length:Int)):=by rw [← hi];exact blk_cell H6.out.blk rfl
  have i5f:(w5.setCell ⟨b,4,none⟩ (.slice q5 (Sn.length+1) k5)).frozen? ⟨b,5,none⟩=false:=blk_frozen H6.out.blk
  have hlt5:b < w5.heap.size:=blk_lt hblk5
  clear hown5 hgrow5 hat5 hA3 hb5 ho5 hv5 hv5' hblk5 hBut5 t4 g4 hi0 hz0 hz1 hz2
  go_wp2_with fail
  rw [show (Sn.length:Int) % 65535+1=(Sn.length:Int)+1 by omega]
  have hM:Mid b V T Sn O 2 Sn.length w ((w5.setCell ⟨b,4,none⟩ (.slice q5 (Sn.length+1) k5)).setCell ⟨b,5,none⟩ (.int .i64 ((Sn.length:Int)+1))) (.slice q5 (Sn.length+1) k5):=⟨H6.out.setId _,HBU.out.trans (But.set (F:=V.has b) _ _ _ (Or.inl rfl)) (fun _ _ f=>f),HV5.out⟩
  have e06:((w5.setCell ⟨b,4,none⟩ (.slice q5 (Sn.length+1) k5)).setCell ⟨b,5,none⟩ (.int .i64 ((Sn.length:Int)+1))).cell? ⟨w.heap.size,0,none⟩=some (.int .i64 mk):=by
   rw [World.cell?_of_block (w:=w5) ((Below.heap_setCell _ _ _ _ (fun e=>hab (Eq.symm e))).trans (Below.heap_setCell _ _ _ _ (fun e=>hab (Eq.symm e))))];exact e05
  generalize (w5.setCell ⟨b,4,none⟩ (.slice q5 (Sn.length+1) k5)).setCell ⟨b,5,none⟩ (.int .i64 ((Sn.length:Int)+1))=w6 at *
  have c4:w6.cell? ⟨b,4,none⟩=some (.slice q5 (Sn.length+1) k5):=blk_cell hM.stg.blk rfl
  have c5:w6.cell? ⟨b,5,none⟩=some (.int .i64 ((Sn.length:Int)+1)):=blk_cell hM.stg.blk rfl
  have hb6:b < w6.heap.size:=blk_lt hM.stg.blk
  have HM:=hide hM
  have hw1:Hid (IntKind.wrap .i64 (Sn.length:Int)=(Sn.length:Int)):=wrap_is _ (by omega) (by omega)
  have cN:=hide fun w'=>number_any Sn.length w' hi2
  generalize numB Sn.length=pay at cN HS HS2
  clear hM H6 HBU HV5 i5 i5f s4 s4f hlt5 e05 e0
  have hal6:=cell_blt e06
  simp only at hal6
  simp only [pkK,ackK,zP] at HS2
  go_region_held3 (fun w'=>w'.cell? ⟨b,4,none⟩=some (.slice q5 (Sn.length+1) k5)∧w'.cell? ⟨b,5,none⟩=some (.int .i64 ((Sn.length:Int)+1)))
   (go_keep)
   (first
    | (go_at_call 62
       rw [hw1.out]
       refine (cN.out _).mono ?_
       rintro e w7 ⟨rfl,hB7⟩
       have hB67:Below w6.heap.size w6 w7:=(Below.refl w6.heap.size w6).drew.trans hB7
       have c47:w7.cell? ⟨b,4,none⟩=some (.slice q5 (Sn.length+1) k5):=(hB67.cell (p:=⟨b,4,none⟩) hb6).trans c4
       have c57:w7.cell? ⟨b,5,none⟩=some (.int .i64 ((Sn.length:Int)+1)):=(hB67.cell (p:=⟨b,5,none⟩) hb6).trans c5
       have e07:w7.cell? ⟨w.heap.size,0,none⟩=some (.int .i64 mk):=(hB67.cell (p:=⟨w.heap.size,0,none⟩) hal6).trans e06
       have cS:=hide (HS.out w7 _ (HM.out.below hB67))
       clear hB7 hB67)
    | (go_at_call 61
       refine cS.out.mono ?_
       rintro e w8 ⟨rfl,hq1,c48',c58',k08,hkp⟩
       have c48:w8.cell? ⟨b,4,none⟩=some (.slice q5 (Sn.length+1) k5):=c48'.trans c47
       have c58:w8.cell? ⟨b,5,none⟩=some (.int .i64 ((Sn.length:Int)+1)):=c58'.trans c57
       have e08:w8.cell? ⟨w.heap.size,0,none⟩=some (.int .i64 mk):=(World.cell?_of_block (w:=w7) (hkp w.heap.size (Nat.le_refl _) (cell_blt e07))).trans e07
       have HQA:=hide hq1
       clear hq1 c48' c58' hkp))
  all_goals
   clear c4 c5 c47 c57 cS c48 e06 e07
   go_wp2_with fail
   refine (cP0.out _).mono ?_
   rintro e w9 ⟨rfl,hB9⟩
   have hq9:Hid (Q1 (.slice q5 (Sn.length+1) k5) w9):=HQ1.out _ _ _ HQA.out hB9
   have k09:w9.cell? ⟨b,0,none⟩=some (.pointer (some ⟨lb,0,none⟩)):=(hB9.cell (p:=⟨b,0,none⟩) (cell_blt k08)).trans k08
   clear hB9 e08 c58 k08 HQA
   first
    | (have A:=hide (H5.out (Eq.refl true) (.slice q5 (Sn.length+1) k5))
       have kB:=A.out.cell _ hq9.out
       go_wp2_with fail
       refine (A.out.close _ hq9.out).mono ?_
       rintro e wa ⟨qa,na,ca,rfl,hqa,k0a⟩
       have HQa:=hide hqa
       clear hqa hq9 k09 kB
       go_wp2_with fail
       refine (A.out.takes _ _ HQa.out).mono ?_
       rintro e wb ⟨rfl,hqb,k0b⟩
       have HQb:=hide hqb
       clear hqb HQa k0a
       go_wp2_with fail
       refine (A.out.joins _ HQb.out).mono ?_
       rintro e w10 ⟨qc,cc,rfl,hqc⟩
       have HD:=hide hqc
       clear hqc HQb k0b A)
    | (have HD:=hide (H3.out (Eq.refl false) _ _ hq9.out)
       obtain ⟨w10,hw10⟩:∃ w10,w10=w9:=⟨_,rfl⟩
       rw [← hw10] at HD k09 ⊢
       clear hw10 hq9 k09)
   obtain ⟨c4',c5',k0'⟩:=HQd.out _ _ HD.out
   have hb10:b < w10.heap.size:=cell_blt c4'
   go_wp2_with fail
   clear HM hal6 hb6
   go_region_held3 (fun w'=>w'.cell? ⟨b,4,none⟩=some (.slice q5 (Sn.length+1) k5)∧w'.cell? ⟨b,5,none⟩=some (.int .i64 ((Sn.length:Int)+1)))
    (go_keep)
    (first
     | (go_at_call 62
        rw [hw1.out]
        refine (cN.out _).mono ?_
        rintro e w11 ⟨rfl,hB11⟩
        have hB1011:Below w10.heap.size w10 w11:=(Below.refl w10.heap.size w10).drew.trans hB11
        have c411:w11.cell? ⟨b,4,none⟩=some (.slice q5 (Sn.length+1) k5):=(hB1011.cell (p:=⟨b,4,none⟩) hb10).trans c4'
        have c511:w11.cell? ⟨b,5,none⟩=some (.int .i64 ((Sn.length:Int)+1)):=(hB1011.cell (p:=⟨b,5,none⟩) hb10).trans c5'
        have cS:=hide (HS2.out _ w11 (HQB.out _ _ _ HD.out hB1011))
        clear hB11 hB1011)
     | (go_at_call 61
        refine cS.out.mono ?_
        rintro e w12 ⟨rfl,⟨c412,c512,k012⟩,hN⟩
        have HN:=hide hN
        clear hN))
   all_goals
    clear c4' c5' c411 c511 cS c412 k0' HD
    have cR:=hide (HN.out w12.drew (Below.refl _ _).drew)
    go_wp2_with fail
    go_region_held3 (fun w'=>w'.cell? ⟨b,0,none⟩=some (.pointer (some ⟨lb,0,none⟩))∧w'.cell? ⟨b,5,none⟩=some (.int .i64 ((Sn.length:Int)+1)))
     (go_keep)
     (first
      | (go_at_call 50
         refine cR.out.mono ?_
         rintro e w13 ⟨rfl,k013,c513,g13,cap13,V13,hH,q13,n13,k13,V13',hSe⟩
         have HH:=hide hH
         have HSe:=hide hSe
         have cHd:=hide (heard_any lb 1 V13 w13 hH.line (by omega) ⟨_,_,_,hH.got⟩)
         rw [hH.got] at cHd
         clear hH hSe))
    all_goals
     clear cR HN k012 c512
     go_wp2_with fail
     refine cHd.out.mono ?_
     rintro e w14 ⟨rfl,hw14,hl14⟩
     have HSe14:Hid (SeesOk b lb (fun w5=>R w5∧w5.cell? ⟨g13,0,none⟩=some (.int .i64 7)) w14 q13 n13 k13 V13'):=by
      have:w14=w13.setCell ⟨lb,2,none⟩ (.slice none 0 0):=hw14
      rw [this];exact HSe.out
     have k14:w14.cell? ⟨b,0,none⟩=some (.pointer (some ⟨lb,0,none⟩)):=HSe14.out.cell
     have hcap1:=HH.out.cap1
     have hcapm:cap13≤9223372036854775807:=by have:=HH.out.capm;unfold maxLen at this;omega
     clear hw14 hl14 cHd k013 HSe c513
     have cHe:=hide (heard_any lb 0 V13' w14.drew HSe14.out.line (by omega) ⟨_,_,_,HSe14.out.got⟩)
     rw [HSe14.out.got] at cHe
     go_wp2_with fail
     go_region_with (first
      | (go_at_call 51
         refine cHe.out.mono ?_
         rintro e w15 ⟨rfl,hw15,_⟩
         have hc15:=hide (HSe14.out.see _ (Below.refl _ _).drew)
         rw [show w14.drew.setCell ⟨lb,1,none⟩ (.slice none 0 0)=w15 from hw15.symm] at hc15
         clear hw15)
      | (go_at_call 63
         refine hc15.out.mono ?_
         rintro e w16 ⟨rfl,hR,m0⟩
         have HR:=hide hR
         clear hR))
     all_goals
      go_wp2_with fail
      go_ret
      exact ⟨rfl,HR.out⟩
set_option maxHeartbeats 1600000 in
set_option maxRecDepth 100000 in
theorem stpA (mk mq mn:Int) (b:Nat) (w:World) (R:World→Prop) (hmk:pickN mk 6=1) (hk1:-9223372036854775808≤mk) (hk2:mk≤9223372036854775807)
 (hA:∀ w',Below w.heap.size w w'→Calls Tryz.prog 28 #[.pointer (some ⟨b,0,none⟩),.int .i64 mn] w' fun e w''=>e=.returned (.bool true)∧R w'') :
 Calls Tryz.prog 26 #[.pointer (some ⟨b,0,none⟩),.agg #[.int .i64 mk,.int .i64 mq,.int .i64 mn]] w fun e w'=>e=.returned (.bool true)∧R w':=by
 have cP0:=hide fun w'=>pick_is mk 6 w' (by omega) hk1 hk2 (by omega)
 rw [hmk] at cP0
 have HA:=hide hA
 clear hA hmk
 go_enter Tryz.func26,Tryz.ntmps26
 go_wp2_with fail
 refine (cP0.out _).mono ?_
 rintro e w1 ⟨rfl,hB1'⟩
 have hz:=(hB1'.block w.heap.size (by simp)).trans (heap_alloc_new _ _)
 have e2:w1.cell? ⟨w.heap.size,2,none⟩=some (.int .i64 mn):=blk_cell hz rfl
 have hB1:Below w.heap.size w w1:=((Below.refl w.heap.size w).alloc (Nat.le_refl _) _).trans (hB1'.mono (by simp))
 have HB1:=hide hB1
 clear hB1 hB1' hz
 go_wp2_with fail
 refine (HA.out _ HB1.out).mono ?_
 rintro e w2 ⟨rfl,hR⟩
 go_wp2_with fail
 go_ret
 exact ⟨rfl,hR⟩
set_option maxHeartbeats 1600000 in
set_option maxRecDepth 100000 in
theorem stpC (mk mq mn:Int) (b:Nat) (w:World) (R:World→Prop) (hmk:pickN mk 6=2) (hk1:-9223372036854775808≤mk) (hk2:mk≤9223372036854775807)
 (hA:∀ w',Below w.heap.size w w'→Calls Tryz.prog 64 #[.pointer (some ⟨b,0,none⟩)] w' fun e w''=>e=.returned (.bool true)∧R w'') :
 Calls Tryz.prog 26 #[.pointer (some ⟨b,0,none⟩),.agg #[.int .i64 mk,.int .i64 mq,.int .i64 mn]] w fun e w'=>e=.returned (.bool true)∧R w':=by
 have cP0:=hide fun w'=>pick_is mk 6 w' (by omega) hk1 hk2 (by omega)
 rw [hmk] at cP0
 have HA:=hide hA
 clear hA hmk
 go_enter Tryz.func26,Tryz.ntmps26
 go_wp2_with fail
 refine (cP0.out _).mono ?_
 rintro e w1 ⟨rfl,hB1'⟩
 have hB1:Below w.heap.size w w1:=((Below.refl w.heap.size w).alloc (Nat.le_refl _) _).trans (hB1'.mono (by simp))
 have HB1:=hide hB1
 clear hB1 hB1'
 go_wp2_with fail
 refine (HA.out _ HB1.out).mono ?_
 rintro e w2 ⟨rfl,hR⟩
 go_wp2_with fail
 go_ret
 exact ⟨rfl,hR⟩
set_option maxHeartbeats 1600000 in
set_option maxRecDepth 100000 in
theorem stpW (mk mq mn id:Int) (b lb:Nat) (V:StgV) (T Sn:List Int) (O:List Pkt) (w:World) (R1 R2 R:World→Prop) (h:StgAt w b V T O Sn) (hlb:V.lb=lb) (hmk:pickN mk 6=4) (hid:1+(pickN mn 65535:Int)=id) (hk1:-9223372036854775808≤mk) (hk2:mk≤9223372036854775807) (hn1:-9223372036854775808≤mn) (hn2:mn≤9223372036854775807)
 (hR0:0≤idx (fun q=>q.id == id) O→∀ w',Below w.heap.size w w'→R w')
 (hA:idx (fun q=>q.id == id) O < 0→∀ w',Below w.heap.size w w'→Calls Tryz.prog 50 #[.pointer (some ⟨lb,0,none⟩),.int .i64 0,.agg (pkK (ackK 4 id))] w' fun e w''=>e=.returned (.tuple #[])∧R1 w''∧w''.cell? ⟨b,0,none⟩=some (.pointer (some ⟨lb,0,none⟩)))
 (hB:∀ w',R1 w'→Calls Tryz.prog 50 #[.pointer (some ⟨lb,0,none⟩),.int .i64 0,.agg (pkK (ackK 5 id))] w' fun e w''=>e=.returned (.tuple #[])∧R2 w''∧w''.cell? ⟨b,0,none⟩=some (.pointer (some ⟨lb,0,none⟩)))
 (hC:∀ w',R2 w'→Calls Tryz.prog 50 #[.pointer (some ⟨lb,0,none⟩),.int .i64 0,.agg (pkK (ackK 7 id))] w' fun e w''=>e=.returned (.tuple #[])∧w''.cell? ⟨b,0,none⟩=some (.pointer (some ⟨lb,0,none⟩))∧∃ V',LineAt w'' lb V'∧V'.got 0=.slice none 0 0∧R (w''.setCell ⟨lb,1,none⟩ (.slice none 0 0))) :
 Calls Tryz.prog 26 #[.pointer (some ⟨b,0,none⟩),.agg #[.int .i64 mk,.int .i64 mq,.int .i64 mn]] w fun e w'=>e=.returned (.bool true)∧R w':=by
 subst hlb
 have cP0:=hide fun w'=>pick_is mk 6 w' (by omega) hk1 hk2 (by omega)
 rw [hmk] at cP0
 have hp:pickN mn 65535 < 65535:=pickN_lt mn (by omega)
 have cP1:=hide fun w'=>pick_is mn 65535 w' (by omega) hn1 hn2 (by omega)
 generalize pickN mn 65535=r at *
 have HT:=hide h
 have HR0:=hide hR0
 have HA:=hide hA
 have HB:=hide hB
 have HC:=hide hC
 have HI:=hide hid
 have c0:w.cell? ⟨b,0,none⟩=some (.pointer (some ⟨V.lb,0,none⟩)):=blk_cell h.blk rfl
 have hlt:=blk_lt h.blk
 simp only [pkK,ackK,zP] at HA HB HC
 clear h hR0 hA hB hC hmk
 go_enter Tryz.func26,Tryz.ntmps26
 go_wp2_with fail
 refine (cP0.out _).mono ?_
 rintro e w1 ⟨rfl,hB1'⟩
 have hz:=(hB1'.block w.heap.size (by simp)).trans (heap_alloc_new _ _)
 have e2:w1.cell? ⟨w.heap.size,2,none⟩=some (.int .i64 mn):=blk_cell hz rfl
 have hB1:Below w.heap.size w w1:=((Below.refl w.heap.size w).alloc (Nat.le_refl _) _).trans (hB1'.mono (by simp))
 have HB1:=hide hB1
 clear hB1 hB1' hz
 go_wp2_with fail
 refine (cP1.out _).mono ?_
 rintro e w2 ⟨rfl,hB2⟩
 have HB2:Hid (Below w.heap.size w w2):=HB1.out.trans (hB2.mono HB1.out.size)
 have cF:=hide fun w' (hb:Below w.heap.size w w')=>find_any b V.pv O id w' (by have:=blk_cell (i:=3) (HT.out.below hb).blk rfl;exact this) (HT.out.below hb).opn
 have hsum:(1:Int)+(r:Int)=id:=hid
 clear hB2 e2
 go_wp2_with fail
 refine (cF.out _ HB2.out).mono ?_
 rintro e w3 ⟨rfl,hB3⟩
 have HB3:Hid (Below w.heap.size w w3):=HB2.out.trans (hB3.mono HB2.out.size)
 have c03:w3.cell? ⟨b,0,none⟩=some (.pointer (some ⟨V.lb,0,none⟩)):=(HB3.out.cell (p:=⟨b,0,none⟩) hlt).trans c0
 clear hB3 cF hsum
 by_cases hi:0≤idx (fun q:Pkt=>q.id == id) O
 · have hF:=hide (HR0.out hi w3 HB3.out)
   generalize idx (fun q:Pkt=>q.id == id) O=ia at *
   go_wp2_with fail
   go_ret
   exact ⟨rfl,hF.out⟩
 · have cA:=hide (HA.out (by omega))
   generalize idx (fun q:Pkt=>q.id == id) O=ia at *
   go_wp2_with fail
   refine (cA.out _ HB3.out).mono ?_
   rintro e w4 ⟨rfl,hr1,k4⟩
   have HR1:=hide hr1
   clear hr1 c03
   go_wp2_with fail
   refine (HB.out _ HR1.out).mono ?_
   rintro e w5 ⟨rfl,hr2,k5⟩
   have HR2:=hide hr2
   clear hr2 k4
   go_wp2_with fail
   refine (HC.out _ HR2.out).mono ?_
   rintro e w6 ⟨rfl,k6,V6,hl,hg,hR⟩
   have cHd:=hide (heard_any V.lb 0 V6 w6 hl (by omega) ⟨_,_,_,hg⟩)
   rw [hg] at cHd
   have HR:=hide hR
   clear hl hg hR k5
   go_wp2_with fail
   refine cHd.out.mono ?_
   rintro e w7 ⟨rfl,hw7,_⟩
   have HW:=hide hw7
   clear hw7
   go_wp2_with fail
   go_ret
   exact ⟨rfl,by rw [HW.out];exact HR.out⟩
end kp
end Go.Proofs.YtnmfmoimjkoieaaGreatDoor
