import Derived.Test.YtnmfmoimjkoieaaGreatDoorF21
namespace Go.Proofs.YtnmfmoimjkoieaaGreatDoor
namespace ew
open Go.RowKit topPlain topWalks decPlain encPlain
open rd (pkCells)
theorem FilB.keep {B:Nat} {w w':World} {v:Value} {fs:List (List UInt8×Int)} (h:FilB B w v fs) (hc:∀ g i,g < B→w'.cell? ⟨g,i,none⟩=w.cell? ⟨g,i,none⟩):FilB B w' v fs:=by
 obtain ⟨q,cap,h1,h2,h3⟩:=h
 refine ⟨q,cap,h1,h2,fun j f hf=>?_⟩
 obtain ⟨g,o,e,hg,a,b⟩:=h3 j f hf
 exact ⟨g,o,e,hg,by rw [hc g _ hg];exact a,by rw [hc g _ hg];exact b⟩
theorem IntB.keep {B:Nat} {w w':World} {v:Value} {cs:List Int} (h:IntB B w v cs) (hc:∀ g i,g < B→w'.cell? ⟨g,i,none⟩=w.cell? ⟨g,i,none⟩):IntB B w' v cs:=by
 obtain ⟨q,cap,h1,h2,h3⟩:=h
 refine ⟨q,cap,h1,h2,fun j f hf=>?_⟩
 obtain ⟨g,o,e,hg,a⟩:=h3 j f hf
 exact ⟨g,o,e,hg,by rw [hc g _ hg];exact a⟩
theorem Ws.wr_nil {bw C:Nat} {w:World} {st:Option (List UInt8)} (h:Ws bw C w st):wr [] st=st:=by
 cases st with
 | none=>rfl
 | some l =>
   obtain ⟨v,h⟩:=h
   have:=h.le
   simp [wr,this]
set_option maxHeartbeats 1600000 in
set_option maxRecDepth 100000 in
theorem packet_any (bw C:Nat) (p:Pkt) (fs:List (List UInt8×Int)) (cs:List Int) (w:World) (st:Option (List UInt8)) (h:Ws bw C w st) (hf:FilB bw w p.fv fs) (hc:IntB bw w p.cv cs) :
 Calls Tryz.prog 80 #[.pointer (some ⟨bw,0,none⟩),.agg (pkCells p)] w fun e w'=>e=.returned (.tuple #[])∧Ws bw C w' (wr (bodyW (cbW p) p fs cs) st)∧Kp bw w w':=by
 have hN:=h.wr_nil
 have HN:=hide hN
 have hcell:∀ o g i,g < bw→(w.alloc o).cell? ⟨g,i,none⟩=w.cell? ⟨g,i,none⟩:=fun o g i hg=>((Below.refl _ _).alloc (Nat.le_refl _) o).cell (by have:=h.lt;simp;omega)
 have HF:=hide (fun o=>hf.keep (fun g i hg=>hcell o g i hg))
 have HC:=hide (fun o=>hc.keep (fun g i hg=>hcell o g i hg))
 have c0:=hide fun b n w=>bit_any b n w
 have c1:=hide fun w st h=>number_any bw C p.id w st h
 have c2:=hide fun n w st h=>octet_any bw C n w st h
 have c3:=hide fun w st h=>connect_any bw C p w st h
 have c4:=hide fun w st h=>publish_any bw C p w st h
 have c5:=hide fun w st h hf=>filters_any bw C p fs w st h hf
 have c6:=hide fun w st h hc=>codes_any bw C p cs w st h hc
 have HB:=hide (fun o=>h.beside o)
 have HH:=hide h
 have hlt:=h.lt
 clear h hf hc hN hcell
 by_cases e1:p.kind=1
 · have hb:bodyW (cbW p) p fs cs=txtW [77,81,84,84] ++ [byt8 4] ++ [cbW p] ++ twoW p.keep ++ txtW p.client ++ (if p.will then txtW p.topic ++ txtW p.payload else []):=by unfold bodyW;rw [if_pos e1]
   rw [hb]
   clear hb
   generalize txtW [77,81,84,84] ++ [byt8 4] ++ [cbW p] ++ twoW p.keep ++ txtW p.client ++ (if p.will then txtW p.topic ++ txtW p.payload else [])=X at c3 ⊢
   clear c0 c1 c2 c4 c5 c6 HF HC HN HH
   obtain ⟨kind,clean,will,keep,client,present,code,dup,qos,retain,topic,payload,id,fv,cv⟩:=p
   simp only at e1 c3 ⊢
   subst e1
   simp only [pkCells] at c3 ⊢
   go_enter Tryz.func80,Tryz.ntmps80
   go_wp2_with fail
   refine (unhide c3 _ _ (HB.out _).1).mono ?_
   rintro e w1 ⟨rfl,hS,hK⟩
   have HS:=hide hS
   have HK:=hide ((HB.out _).2.1.trans hK)
   clear hS hK
   go_wp2
   go_end0
   exact ⟨rfl,HS.out,HK.out⟩
 by_cases e2:p.kind=2
 · have hb:bodyW (cbW p) p fs cs = [byt8 (bitI p.present 1)] ++ [byt8 p.code]:=by unfold bodyW;rw [if_neg e1,if_pos e2]
   rw [hb,← ew.wr_wr]
   clear hb e1
   clear c1 c3 c4 c5 c6 HF HC HN HH
   obtain ⟨kind,clean,will,keep,client,present,code,dup,qos,retain,topic,payload,id,fv,cv⟩:=p
   simp only at e2  ⊢
   subst e2
   simp only [pkCells]
   go_enter Tryz.func80,Tryz.ntmps80
   go_wp2_with fail
   refine (unhide c0 _ _ _).mono ?_
   rintro e w0 ⟨rfl,rfl⟩
   go_wp2_with fail
   refine (unhide c2 _ _ _ (HB.out _).1).mono ?_
   rintro e w1 ⟨rfl,hS,hK⟩
   have HS:=hide hS
   have hcp:=hK.pk (np:=w.heap.size) (by omega) (by simp) (HB.out _).2.2
   have HK:=hide ((HB.out _).2.1.trans hK)
   have k6:=hcp.2 6
   simp [go_sem] at k6
   clear hS hK hcp
   go_wp2_with fail
   refine (unhide c2 _ _ _ HS.out).mono ?_
   rintro e w2 ⟨rfl,hS,hK⟩
   have HS2:=hide hS
   have HK2:=hide (HK.out.trans hK)
   clear hS hK k6
   go_wp2
   go_end0
   exact ⟨rfl,HS2.out,HK2.out⟩
 by_cases e3:p.kind=3
 · have hb:bodyW (cbW p) p fs cs=txtW p.topic ++ (if 0 < p.qos then twoW p.id else []) ++ p.payload:=by unfold bodyW;rw [if_neg e1,if_neg e2,if_pos e3]
   rw [hb]
   clear hb e1 e2
   generalize txtW p.topic ++ (if 0 < p.qos then twoW p.id else []) ++ p.payload=X at c4 ⊢
   clear c0 c1 c2 c3 c5 c6 HF HC HN HH
   obtain ⟨kind,clean,will,keep,client,present,code,dup,qos,retain,topic,payload,id,fv,cv⟩:=p
   simp only at e3 c4 ⊢
   subst e3
   simp only [pkCells] at c4 ⊢
   go_enter Tryz.func80,Tryz.ntmps80
   go_wp2_with fail
   refine (unhide c4 _ _ (HB.out _).1).mono ?_
   rintro e w1 ⟨rfl,hS,hK⟩
   have HS:=hide hS
   have HK:=hide ((HB.out _).2.1.trans hK)
   clear hS hK
   go_wp2
   go_end0
   exact ⟨rfl,HS.out,HK.out⟩
 by_cases e4:p.kind=4∨p.kind=5∨p.kind=6∨p.kind=7∨p.kind=11
 · have hb:bodyW (cbW p) p fs cs=twoW p.id:=by unfold bodyW;rw [if_neg e1,if_neg e2,if_neg e3,if_pos e4]
   rw [hb]
   clear hb e1 e2 e3
   clear c0 c2 c3 c4 c5 c6 HF HC HN HH
   obtain ⟨kind,clean,will,keep,client,present,code,dup,qos,retain,topic,payload,id,fv,cv⟩:=p
   simp only at e4 c1 ⊢
   rcases e4 with rfl | rfl | rfl | rfl | rfl
   · simp only [pkCells]
     go_enter Tryz.func80,Tryz.ntmps80
     go_wp2_with fail
     refine (unhide c1 _ _ (HB.out _).1).mono ?_
     rintro e w1 ⟨rfl,hS,hK⟩
     have HS:=hide hS
     have HK:=hide ((HB.out _).2.1.trans hK)
     clear hS hK
     go_wp2
     go_end0
     exact ⟨rfl,HS.out,HK.out⟩
   · simp only [pkCells]
     go_enter Tryz.func80,Tryz.ntmps80
     go_wp2_with fail
     refine (unhide c1 _ _ (HB.out _).1).mono ?_
     rintro e w1 ⟨rfl,hS,hK⟩
     have HS:=hide hS
     have HK:=hide ((HB.out _).2.1.trans hK)
     clear hS hK
     go_wp2
     go_end0
     exact ⟨rfl,HS.out,HK.out⟩
   · simp only [pkCells]
     go_enter Tryz.func80,Tryz.ntmps80
     go_wp2_with fail
     refine (unhide c1 _ _ (HB.out _).1).mono ?_
     rintro e w1 ⟨rfl,hS,hK⟩
     have HS:=hide hS
     have HK:=hide ((HB.out _).2.1.trans hK)
     clear hS hK
     go_wp2
     go_end0
     exact ⟨rfl,HS.out,HK.out⟩
   · simp only [pkCells]
     go_enter Tryz.func80,Tryz.ntmps80
     go_wp2_with fail
     refine (unhide c1 _ _ (HB.out _).1).mono ?_
     rintro e w1 ⟨rfl,hS,hK⟩
     have HS:=hide hS
     have HK:=hide ((HB.out _).2.1.trans hK)
     clear hS hK
     go_wp2
     go_end0
     exact ⟨rfl,HS.out,HK.out⟩
   · simp only [pkCells]
     go_enter Tryz.func80,Tryz.ntmps80
     go_wp2_with fail
     refine (unhide c1 _ _ (HB.out _).1).mono ?_
     rintro e w1 ⟨rfl,hS,hK⟩
     have HS:=hide hS
     have HK:=hide ((HB.out _).2.1.trans hK)
     clear hS hK
     go_wp2
     go_end0
     exact ⟨rfl,HS.out,HK.out⟩
 by_cases e5:p.kind=8∨p.kind=10
 · have hb:bodyW (cbW p) p fs cs=twoW p.id ++ fs.flatMap (filW (p.kind == 8)):=by unfold bodyW;rw [if_neg e1,if_neg e2,if_neg e3,if_neg e4,if_pos e5]
   rw [hb]
   clear hb e1 e2 e3 e4
   generalize twoW p.id ++ fs.flatMap (filW (p.kind == 8))=X at c5 ⊢
   clear c0 c1 c2 c3 c4 c6 HC HN HH
   obtain ⟨kind,clean,will,keep,client,present,code,dup,qos,retain,topic,payload,id,fv,cv⟩:=p
   simp only at e5 c5 HF ⊢
   rcases e5 with rfl | rfl
   · simp only [pkCells] at c5 ⊢
     go_enter Tryz.func80,Tryz.ntmps80
     go_wp2_with fail
     refine (unhide c5 _ _ (HB.out _).1 (HF.out _)).mono ?_
     rintro e w1 ⟨rfl,hS,hK⟩
     have HS:=hide hS
     have HK:=hide ((HB.out _).2.1.trans hK)
     clear hS hK
     go_wp2
     go_end0
     exact ⟨rfl,HS.out,HK.out⟩
   · simp only [pkCells] at c5 ⊢
     go_enter Tryz.func80,Tryz.ntmps80
     go_wp2_with fail
     refine (unhide c5 _ _ (HB.out _).1 (HF.out _)).mono ?_
     rintro e w1 ⟨rfl,hS,hK⟩
     have HS:=hide hS
     have HK:=hide ((HB.out _).2.1.trans hK)
     clear hS hK
     go_wp2
     go_end0
     exact ⟨rfl,HS.out,HK.out⟩
 by_cases e6:p.kind=9
 · have hb:bodyW (cbW p) p fs cs=twoW p.id ++ cs.map byt8:=by unfold bodyW;rw [if_neg e1,if_neg e2,if_neg e3,if_neg e4,if_neg e5,if_pos e6]
   rw [hb]
   clear hb e1 e2 e3 e4 e5
   clear c0 c1 c2 c3 c4 c5 HF HN HH
   obtain ⟨kind,clean,will,keep,client,present,code,dup,qos,retain,topic,payload,id,fv,cv⟩:=p
   simp only at e6 c6 HC ⊢
   subst e6
   simp only [pkCells] at c6 ⊢
   go_enter Tryz.func80,Tryz.ntmps80
   go_wp2_with fail
   refine (unhide c6 _ _ (HB.out _).1 (HC.out _)).mono ?_
   rintro e w1 ⟨rfl,hS,hK⟩
   have HS:=hide hS
   have HK:=hide ((HB.out _).2.1.trans hK)
   clear hS hK
   go_wp2
   go_end0
   exact ⟨rfl,HS.out,HK.out⟩
 have hb:bodyW (cbW p) p fs cs = []:=by unfold bodyW;rw [if_neg e1,if_neg e2,if_neg e3,if_neg e4,if_neg e5,if_neg e6]
 rw [hb,HN.out]
 clear hb c0 c1 c2 c3 c4 c5 c6 HF HC HN
 obtain ⟨kind,clean,will,keep,client,present,code,dup,qos,retain,topic,payload,id,fv,cv⟩:=p
 simp only at e1 e2 e3 e4 e5 e6 ⊢
 have g1:(kind == 1)=false:=beq_eq_false_iff_ne.2 (by omega)
 have g2:(kind == 2)=false:=beq_eq_false_iff_ne.2 (by omega)
 have g3:(kind == 3)=false:=beq_eq_false_iff_ne.2 (by omega)
 have g4:(kind == 4)=false:=beq_eq_false_iff_ne.2 (by omega)
 have g5:(kind == 5)=false:=beq_eq_false_iff_ne.2 (by omega)
 have g6:(kind == 6)=false:=beq_eq_false_iff_ne.2 (by omega)
 have g7:(kind == 7)=false:=beq_eq_false_iff_ne.2 (by omega)
 have g8:(kind == 8)=false:=beq_eq_false_iff_ne.2 (by omega)
 have g9:(kind == 9)=false:=beq_eq_false_iff_ne.2 (by omega)
 have g10:(kind == 10)=false:=beq_eq_false_iff_ne.2 (by omega)
 have g11:(kind == 11)=false:=beq_eq_false_iff_ne.2 (by omega)
 clear e1 e2 e3 e4 e5 e6
 simp only [pkCells]
 go_enter Tryz.func80,Tryz.ntmps80
 go_wp2
 go_end0
 exact ⟨rfl,(HB.out _).1,(HB.out _).2.1⟩
end ew
end Go.Proofs.YtnmfmoimjkoieaaGreatDoor
