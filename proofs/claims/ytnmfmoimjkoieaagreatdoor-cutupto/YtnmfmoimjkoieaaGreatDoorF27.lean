import Derived.Test.YtnmfmoimjkoieaaGreatDoorF24
import Derived.Deep.RegionLawGrows
import Derived.Deep.RegionHeld3
import Derived.Test.YtnmfmoimjkoieaaGreatDoorF04
import Derived.Test.YtnmfmoimjkoieaaGreatDoorF01
import Derived.Deep.LoopGhost
import Derived.Deep.RegionWith
namespace Go.Proofs.YtnmfmoimjkoieaaGreatDoor
namespace br
open Go.RowKit topPlain topWalks decPlain Go.Maps
theorem con_apart {w:World} {B:Nat} {n:Int} {CV:ConV} {C:Con} {BV:BrV} {ov:Value} {L:List (OutS×Value)} (h:ConAt w B n CV C) (k:BlkAt w B BV ov L) {b:Nat} (hb:CV.has b):¬ OutHas B ov b:=by
 have key:∀ c t,w.heap[b]?=some (.cells c t)→t≠131→t≠66→¬ OutHas B ov b:=fun c t ho h1 h2 hh=>by
  rcases hh with rfl | hh
  · rw [k.blk] at ho;simp at ho;exact h1 ho.2.symm
  · obtain ⟨cur,hc⟩:=own_blk k.out.row hh;rw [hc] at ho;simp at ho;exact h2 ho.2.symm
 rcases hb with rfl | hb | rfl | rfl | rfl | rfl
 · exact key _ _ h.blk (by decide) (by decide)
 · obtain ⟨cur,hc⟩:=own_blk h.wai hb;exact key _ _ hc (by decide) (by decide)
 · exact key _ _ h.b1.bx (by decide) (by decide)
 · exact key _ _ h.b1.by_ (by decide) (by decide)
 · exact key _ _ h.b2.bx (by decide) (by decide)
 · exact key _ _ h.b2.by_ (by decide) (by decide)
set_option maxHeartbeats 1600000 in
set_option maxRecDepth 100000 in
theorem shut_stays (B k:Nat) (p:Pkt) (V:SesV) (S:Ses) (BV:BrV) (ov:Value) (L:List (OutS×Value)) (CV:ConV) (C:Con) (w:World) (h:BlkAt w B BV ov L) (hc:ConAt w B (k:Int) CV C) (hC:C.hello=some p) (hcl:p.clean=false) (hs:SesAt w CV.sp V S) (hk:k < 8) (hL:L.length < 1000000000000) (hv:∃ q,BV.cv k=.pointer q) :
 Calls Tryz.prog 109 #[.pointer (some ⟨B,0,none⟩),.pointer (some ⟨CV.cb,0,none⟩)] w fun e w'=>e=.returned (.tuple #[])∧∃ ov',BlkAt w' B (BV.setCon k (.pointer none)) ov' (L ++ [(⟨(k:Int),[],true⟩,.slice none 0 0)])∧SesAt w' CV.sp { V with snd:=none } S∧ConAt w' B (k:Int) CV C∧But (fun g=>g=CV.sp∨OutHas B ov g) w w'∧(ov'.ownBlock=ov.ownBlock∨∃ b,ov'.ownBlock=some b∧w.heap.size≤b):=by
 obtain ⟨q0,hq0⟩:=hv
 have a0:=blk_cell hc.blk (conC_at (k:Int) CV C).1
 have cB:=con_cell h.blk hk
 rw [hq0] at cB
 have fB:w.frozen? ⟨B,2+k,none⟩=false:=blk_frozen h.blk
 have h8:(k:Int) < 8:=by omega
 have hlB:=blk_lt h.blk
 have hlc:=blk_lt hc.blk
 clear hq0
 go_enter Tryz.func109,Tryz.ntmps109
 go_wp2_with fail
 have hcB:CV.cb≠B:=fun e=>by have:=h.blk;rw [← e,hc.blk] at this;simp at this
 have hBc:B≠CV.cb:=fun e=>hcB e.symm
 have hkc:∀ (W:World) (i j:Nat) (v:Value),(W.setCell ⟨B,i,none⟩ v).cell? ⟨CV.cb,j,none⟩=W.cell? ⟨CV.cb,j,none⟩:=fun W i j v=>World.cell?_of_block (Below.heap_setCell _ _ _ _ (fun e=>hcB e))
 have H:=hide h
 have HC:=hide hc
 have HS:=hide hs
 clear h hc hs
 go_region_held3 (fun w'=>w'.cell? ⟨CV.cb,0,none⟩=some (.int .i64 (k:Int))) (go_keep) (fail)
 go_wp2_with fail
 have hk1:∀ g,g≠B→(w.setCell ⟨B,2+k,none⟩ (.pointer none)).drew.heap[g]?=w.heap[g]?:=fun g hg=>Below.heap_setCell _ _ _ _ (fun e=>hg e)
 have h1:BlkAt (w.setCell ⟨B,2+k,none⟩ (.pointer none)).drew B (BV.setCon k (.pointer none)) ov L:=by
  have:=H.out.setCon k hk (.pointer none)
  exact ⟨this.blk,this.out.keep (fun _ _=>rfl) (fun _ _ _ _=>rfl)⟩
 have hneB:∀ g c t,w.heap[g]?=some (.cells c t)→t≠131→g≠B:=fun g c t hg ht e=>by subst e;rw [H.out.blk] at hg;simp at hg;exact ht hg.2.symm
 have hcn1:ConAt (w.setCell ⟨B,2+k,none⟩ (.pointer none)).drew B (k:Int) CV C:=HC.out.keep (fun g hg=>hk1 g (by
  rcases hg with rfl | hg | rfl | rfl | rfl | rfl
  · exact hcB
  · obtain ⟨cur,hc⟩:=own_blk HC.out.wai hg;exact hneB _ _ _ hc (by decide)
  · exact hneB _ _ _ HC.out.b1.bx (by decide)
  · exact hneB _ _ _ HC.out.b1.by_ (by decide)
  · exact hneB _ _ _ HC.out.b2.bx (by decide)
  · exact hneB _ _ _ HC.out.b2.by_ (by decide)))
 have hs1:SesAt (w.setCell ⟨B,2+k,none⟩ (.pointer none)).drew CV.sp V S:=HS.out.keep (fun g hg=>hk1 g (fun e=>HS.out.apart H.out hg (Or.inl e)))
 have hb1:But (OutHas B ov) w (w.setCell ⟨B,2+k,none⟩ (.pointer none)).drew:=(But.set w ⟨B,2+k,none⟩ _ (Or.inl rfl)).drew
 have hz1:(w.setCell ⟨B,2+k,none⟩ (.pointer none)).drew.heap.size=w.heap.size:=by simp [World.setCell,World.drew]
 clear hkc hk1 hneB a0 cB fB
 generalize (w.setCell ⟨B,2+k,none⟩ (.pointer none)).drew=w1 at *
 have H1:=hide h1
 have HC1:=hide hcn1
 have HS1:=hide hs1
 have HF1:=hide hb1
 have HZ1:=hide hz1
 obtain ⟨q,cap,hq⟩:=own_form h1.out.row
 have hn1:=blk_cell hcn1.blk (conC_at (k:Int) CV C).1
 have b13:w1.cell? ⟨B,13,none⟩=some (.slice q L.length cap):=by rw [← hq];exact blk_cell h1.blk rfl
 have f13:w1.frozen? ⟨B,13,none⟩=false:=blk_frozen h1.blk
 have hltB1:B < w1.heap.size:=blk_lt h1.blk
 obtain ⟨i0,hi0,hz0,hzz1,hz2⟩:=info_parts infoOut
 have HQ:=hide hq
 clear h1 hcn1 hs1 hb1 hz1 hq hlB hlc
 have HNW:=hide (news_new w1 #[.int .i64 (k:Int),.slice none 0 0,.bool true] 66)
 have hA:=fun o=>alloc_cell b13 o
 have hA2:=fun o=>alloc_cell hn1 o
 have HROW:=hide (show w1.ownsRow 0 66 3 (.slice q L.length cap) L.length (outC L) by rw [← HQ.out];exact H1.out.out.row)
 have HQB:=hide (congrArg Value.ownBlock HQ.out)
 go_region_law (
  refine step_append_at rfl (.tmp 16) (.tmp 22) 62 rfl 0 66 i0 (.agg #[.int .i64 0,.slice none 0 0,.bool false]) 3 40 Tryz.underlying62 hi0 hz0 hzz1 hz2 rfl (by decide) (.slice q L.length cap) L.length (outC L) ?s1 ?s2 ⟨w1.heap.size,0,none⟩ 1 1 [.int .i64 (k:Int),.slice none 0 0,.bool true] ?s3 rfl ?s4 ?s5 ?s6 ?s7 ?s8 ?_
  case s1=>simp [Act.eval]
  case s3=>simp [Act.eval]
  case s2=>exact HROW.out.alloc _
  case s4=>exact HNW.out
  case s5=>intro u hu;simp at hu;rcases hu with rfl | rfl | rfl<;>rfl
  case s6=>unfold maxLen;omega
  case s7=>omega
  case s8=>exact Nat.zero_le _
  intro v' w8 hown' hgrow hloc
  obtain ⟨q',cap',rfl⟩:=own_form hown'
  have hg8:(w1.alloc (.cells #[.int .i64 (k:Int),.slice none 0 0,.bool true] 66)).grownBy w8 (Value.slice q L.length cap).ownBlock:=⟨hgrow.os,hgrow.tape,hgrow.output,hgrow.size,hgrow.block⟩
  have HG:=hide hg8
  have hne:(Value.slice q L.length cap).ownBlock≠some B:=by rw [← HQ.out];exact H1.out.ne
  have hbk:w8.heap[B]?=w1.heap[B]?:=(hg8.block B (by simp;omega) (fun e=>hne e.symm)).trans (Below.heap_alloc _ _ _ hltB1)
  have c8:w8.cell? ⟨B,13,none⟩=some (.slice q L.length cap):=by rw [World.cell?_of_block (w:=w1) hbk];exact b13
  have f8:w8.frozen? ⟨B,13,none⟩=false:=by rw [World.frozen?_of_block (w:=w1) hbk];exact f13
  have HOW:=hide hown'
  have HLOC:=hide hloc
  clear b13 f13 hn1 hA hA2 HNW hgrow hg8 hown' hloc hne hbk)
 all_goals
  have hg:w1.grownBy w8 ov.ownBlock:=⟨HG.out.os,HG.out.tape,HG.out.output,Nat.le_trans (by simp) HG.out.size,fun g hk hne=>(HG.out.block g (by simp;omega) (by rw [← HQB.out];exact hne)).trans (Below.heap_alloc _ _ _ hk)⟩
  have h2:=H1.out.add (o:=(⟨(k:Int),[],true⟩,.slice none 0 0)) hg HOW.out ⟨rfl,Or.inl ⟨rfl,rfl⟩⟩
  have hb2:But (OutHas B ov) w1 (w8.setCell ⟨B,13,none⟩ (.slice q' (L.length+1) cap')):=(But.of_grown (F:=OutHas B ov) hg (fun b hb=>Or.inr hb)).trans (But.set _ ⟨B,13,none⟩ _ (Or.inl rfl)) (fun _ _ h=>h)
  have hs2:=HS1.out.but hb2 (fun g hg=>HS1.out.apart H1.out hg)
  have hc2:=HC1.out.but hb2 (fun g hg=>con_apart HC1.out H1.out hg)
  have hloc2:(Value.slice q' (L.length+1) cap').ownBlock=ov.ownBlock∨∃ b,(Value.slice q' (L.length+1) cap').ownBlock=some b∧w.heap.size≤b:=HLOC.out.imp (fun h=>h.trans HQB.out.symm) (fun h=>⟨_,h,by have:=HZ1.out;simp [World.drew];omega⟩)
  generalize w8.setCell ⟨B,13,none⟩ (.slice q' (L.length+1) cap')=W2 at *
  have a18:=blk_cell hc2.blk (conC_at (k:Int) CV C).2.2.2.1
  have a20:=blk_cell hc2.blk (conC_at (k:Int) CV C).2.2.2.2.1
  rw [show conS CV C=.pointer (some ⟨CV.sp,0,none⟩) by unfold conS;rw [hC]] at a18
  rw [hC,Option.getD_some,hcl] at a20
  have H2:=hide h2
  have HB2:=hide hb2
  have HS2:=hide hs2
  have HC2:=hide hc2
  have HL2:=hide hloc2
  have hspc:CV.cb≠CV.sp:=fun e=>by have:=hc2.blk;rw [e,hs2.blk] at this;simp at this
  clear h2 hb2 hs2 hc2 hloc2 hg c8 f8
  go_wp2_with fail
  refine (disconnect_any CV.sp V S W2 HS2.out).mono ?_
  rintro e w3 ⟨rfl,hs3,hb3⟩
  have a20':w3.cell? ⟨CV.cb,20,none⟩=some (.bool false):=hb3.cell (fun e=>hspc e) a20
  have h3:BlkAt w3 B (BV.setCon k (.pointer none)) (.slice q' (L.length+1) cap') (L ++ [(⟨(k:Int),[],true⟩,.slice none 0 0)]):=H2.out.but hb3 (fun g e=>by subst e;exact HS2.out.clear H2.out _ (Or.inl rfl))
  have hc3:ConAt w3 B (k:Int) CV C:=HC2.out.but hb3 (fun g hg e=>by
   subst e
   have hno:∀ c t,W2.heap[CV.sp]?=some (.cells c t)→t=188:=fun c t ho=>by rw [HS2.out.blk] at ho;simp at ho;exact ho.2.symm
   rcases hg with e | hg | e | e | e | e
   · exact hspc e.symm
   · obtain ⟨cur,hc⟩:=own_blk HC2.out.wai hg;exact absurd (hno _ _ hc) (by decide)
   · have:=HC2.out.b1.bx;rw [← e] at this;exact absurd (hno _ _ this) (by decide)
   · have:=HC2.out.b1.by_;rw [← e] at this;exact absurd (hno _ _ this) (by decide)
   · have:=HC2.out.b2.bx;rw [← e] at this;exact absurd (hno _ _ this) (by decide)
   · have:=HC2.out.b2.by_;rw [← e] at this;exact absurd (hno _ _ this) (by decide))
  have hbf:But (fun g=>g=CV.sp∨OutHas B ov g) w w3:=((HF1.out.trans HB2.out (fun _ _ h=>h)).wide (fun _ _ h=>Or.inr h)).trans hb3 (fun _ _ e=>Or.inl e)
  have HR:Hid (∃ ov',BlkAt w3 B (BV.setCon k (.pointer none)) ov' (L ++ [(⟨(k:Int),[],true⟩,.slice none 0 0)])∧SesAt w3 CV.sp { V with snd:=none } S∧ConAt w3 B (k:Int) CV C∧But (fun g=>g=CV.sp∨OutHas B ov g) w w3∧(ov'.ownBlock=ov.ownBlock∨∃ b,ov'.ownBlock=some b∧w.heap.size≤b)):=⟨_,h3,hs3,hc3,hbf,HL2.out⟩
  clear hs3 hb3 h3 hc3 hbf a20 a18
  go_wp2
  go_end0
  exact ⟨rfl,HR.out⟩
def ShutPost (w:World) (B k:Nat) (V:SesV) (S:Ses) (BV:BrV) (ov:Value) (L:List (OutS×Value)) (CV:ConV) (C:Con) (w':World):Prop:=∃ ov',BlkAt w' B (BV.setCon k (.pointer none)) ov' (L ++ [(⟨(k:Int),[],true⟩,.slice none 0 0)])∧SesAt w' CV.sp { V with snd:=none } S∧ConAt w' B (k:Int) CV C∧But (fun g=>g=CV.sp∨OutHas B ov g) w w'∧(ov'.ownBlock=ov.ownBlock∨∃ b,ov'.ownBlock=some b∧w.heap.size≤b)
set_option maxHeartbeats 800000 in
theorem cutOff_stays (B k:Nat) (p:Pkt) (V:SesV) (S:Ses) (BV:BrV) (ov:Value) (L:List (OutS×Value)) (CV:ConV) (C:Con) (w:World) (h:BlkAt w B BV ov L) (hc:ConAt w B (k:Int) CV C) (hC:C.hello=some p) (hcl:p.clean=false) (hwl:p.will=false) (hs:SesAt w CV.sp V S) (hk:k < 8) (hL:L.length < 1000000000000) (hv:∃ q,BV.cv k=.pointer q) :
 Calls Tryz.prog 79 #[.pointer (some ⟨B,0,none⟩),.pointer (some ⟨CV.cb,0,none⟩)] w fun e w'=>e=.returned (.tuple #[])∧ShutPost w B k V S BV ov L CV C w':=by
 have cS:=hide (shut_stays B k p V S BV ov L CV C w h hc hC hcl hs hk hL hv)
 clear h hc hs hv
 go_enter Tryz.func79,Tryz.ntmps79
 go_wp2_with fail
 refine cS.out.mono ?_
 rintro e w1 ⟨rfl,ov',h1,h2,h3,h4⟩
 have a21:=blk_cell h3.blk (conC_at (k:Int) CV C).2.2.2.2.2.1
 rw [hC,Option.getD_some,hwl] at a21
 have HR:Hid (ShutPost w B k V S BV ov L CV C w1):=⟨ov',h1,h2,h3,h4⟩
 clear h1 h2 h3 h4
 go_wp2
 go_end0
 exact ⟨rfl,HR.out⟩
set_option maxHeartbeats 800000 in
theorem close_stays (B k:Nat) (p:Pkt) (V:SesV) (S:Ses) (BV:BrV) (CV:ConV) (C:Con) (w:World) (h:BlkAt w B BV (.slice none 0 0) []) (hc:ConAt w B (k:Int) CV C) (hC:C.hello=some p) (hcl:p.clean=false) (hwl:p.will=false) (hs:SesAt w CV.sp V S) (hk:k < 8) (hv:BV.cv k=.pointer (some ⟨CV.cb,0,none⟩)) :
 Calls Tryz.prog 52 #[.pointer (some ⟨B,0,none⟩),.int .i64 (k:Int)] w fun e w'=>∃ ov',e=.returned (.tuple #[ov',.int .i64 0])∧OutsAt w' ov' [(⟨(k:Int),[],true⟩,.slice none 0 0)]∧BlkAt w' B (BV.setCon k (.pointer none)) (.slice none 0 0) []∧SesAt w' CV.sp { V with snd:=none } S∧But (fun g=>g=CV.sp∨g=B) w w'∧∀ b,ov'.ownBlock=some b→w.heap.size≤b:=by
 have cO:=hide (isOpen_any B k BV _ _ w h.blk hk hv)
 have cC:=hide fun w' (hb:Below w.heap.size w w')=>cutOff_stays B k p V S BV _ _ CV C w' (h.below hb) (hc.below hb) hC hcl hwl (hs.below hb) hk (by simp) ⟨_,hv⟩
 have hco:=hide fun w' (hb:Below w.heap.size w w')=>con_cell (h.below hb).blk hk
 rw [hv] at hco
 have h8:(k:Int) < 8:=by omega
 clear h hc hs
 go_enter Tryz.func52,Tryz.ntmps52
 go_wp2_with fail
 refine cO.out.mono ?_
 rintro e w1 ⟨rfl,hB1⟩
 have c1:=hco.out _ hB1
 have HB1:=hide hB1
 clear hB1
 go_wp2_with fail
 refine (cC.out _ HB1.out).mono ?_
 rintro e w2 ⟨rfl,ov',h2,hs2,hc2,hb2,hl2⟩
 have hnew:∀ b,ov'.ownBlock=some b→w1.heap.size≤b:=fun b hb=>by
  rcases hl2 with e | ⟨b',e1,e2⟩
  · rw [e] at hb;cases hb
  · rw [e1] at hb;cases hb;exact e2
 have HN:=hide hnew
 have HB2:=hide hb2
 have HS2:=hide hs2
 have H2:=hide h2
 clear hs2 hc2 hb2 hl2 hnew c1
 go_wp2_with fail
 refine (takeOut_any B _ ov' _ w2 h2).mono ?_
 rintro e w3 ⟨rfl,ho3,h3,hb3⟩
 have hsz:=HB1.out.size
 have hs3:SesAt w3 CV.sp { V with snd:=none } S:=HS2.out.but hb3 (fun g hg e=>by subst e;exact HS2.out.apart H2.out hg (Or.inl rfl))
 have hbf:But (fun g=>g=CV.sp∨g=B) w w3:=((But.of_below (F:=fun g=>g=CV.sp∨g=B) HB1.out).trans HB2.out (fun g _ f=>by
  rcases f with e | e | e
  · exact Or.inl e
  · exact Or.inr e
  · cases e)).trans hb3 (fun g _ e=>Or.inr e)
 have HR:Hid (OutsAt w3 ov' [(⟨(k:Int),[],true⟩,.slice none 0 0)]∧BlkAt w3 B (BV.setCon k (.pointer none)) (.slice none 0 0) []∧SesAt w3 CV.sp { V with snd:=none } S∧But (fun g=>g=CV.sp∨g=B) w w3∧∀ b,ov'.ownBlock=some b→w.heap.size≤b):=⟨ho3,h3,hs3,hbf,fun b hb=>Nat.le_trans hsz (HN.out b hb)⟩
 clear ho3 h3 hb3 hs3 hbf h2
 go_wp2
 go_ret2
 exact ⟨ov',rfl,HR.out⟩
end br
namespace br
open Go.RowKit topPlain topWalks decPlain
set_option maxHeartbeats 800000 in
set_option maxRecDepth 100000 in
theorem feed_any (B k cb:Nat) (dq:Option Addr) (dn dc:Nat) (BV:BrV) (ov0:Value) (w:World) (P:World→World→Prop) (Q:World→World→BrV→Value→List (OutS×Value)→Prop) (h:w.heap[B]?=some (.cells (brC BV ov0) 131)) (hk:k < 8) (hv:BV.cv k=.pointer (some ⟨cb,0,none⟩))
 (hR:∀ w',Below w.heap.size w w'→Calls Tryz.prog 59 #[.pointer (some ⟨B,0,none⟩),.pointer (some ⟨cb,0,none⟩),.slice dq dn dc] w' fun e w''=>e=.returned (.tuple #[])∧P w' w'')
 (hP:∀ w' w'',Below w.heap.size w w'→P w' w''→∃ BV' ov' L',BlkAt w'' B BV' ov' L'∧Q w' w'' BV' ov' L') :
 Calls Tryz.prog 24 #[.pointer (some ⟨B,0,none⟩),.int .i64 (k:Int),.slice dq dn dc] w fun e w'=>∃ w1 w2 BV' ov' L,Below w.heap.size w w1∧Q w1 w2 BV' ov' L∧BlkAt w2 B BV' ov' L∧e=.returned (.tuple #[ov',.int .i64 0])∧OutsAt w' ov' L∧BlkAt w' B BV' (.slice none 0 0) []∧But (fun b=>b=B) w2 w':=by
 have cO:=hide (isOpen_any B k BV _ _ w h hk hv)
 have hco:=hide fun w' (hb:Below w.heap.size w w')=>con_cell ((hb.block _ (blk_lt h)).trans h) hk
 rw [hv] at hco
 have h8:(k:Int) < 8:=by omega
 have HR:=hide hR
 have HP:=hide hP
 clear h hR hP
 go_enter Tryz.func24,Tryz.ntmps24
 go_wp2_with fail
 refine cO.out.mono ?_
 rintro e w1 ⟨rfl,hB1⟩
 have c1:=hco.out _ hB1
 have HB1:=hide hB1
 clear hB1
 go_wp2_with fail
 refine (HR.out _ HB1.out).mono ?_
 rintro e w2 ⟨rfl,hp⟩
 obtain ⟨BV',ov',L',h2,hp⟩:=HP.out _ _ HB1.out hp
 have HPP:=hide hp
 have H2:=hide h2
 clear hp c1
 go_wp2_with fail
 refine (takeOut_any B _ ov' _ w2 h2).mono ?_
 rintro e w3 ⟨rfl,ho3,h3,hb3⟩
 have HZ:Hid (OutsAt w3 ov' L'∧BlkAt w3 B BV' (.slice none 0 0) []∧But (fun b=>b=B) w2 w3):=⟨ho3,h3,hb3⟩
 clear ho3 h3 hb3 h2
 go_wp2
 go_ret2
 exact ⟨w1,w2,BV',ov',L',HB1.out,HPP.out,H2.out,rfl,HZ.out⟩
end br
namespace br
open Go.RowKit topPlain topWalks decPlain Go.Maps
set_option maxHeartbeats 800000 in
set_option maxRecDepth 100000 in
theorem sends_any (lb B:Nat) (k:Int) (p:Pkt) (w:World) (Q0 Q1:World→Value→Prop) (R:Ending→World→Prop) (hfv:∃ a b c,p.fv=.slice a b c) (hcv:∃ a b c,p.cv=.slice a b c)
 (hE:∀ w',Below w.heap.size w w'→Calls Tryz.prog 19 #[.agg (pkK p)] w' fun e w''=>∃ q n c,e=.returned (.tuple #[.slice q n c,.int .i64 0])∧Q0 w'' (.slice q n c))
 (hlb:∀ w' v,Q0 w' v→w'.cell? ⟨lb,0,none⟩=some (.pointer (some ⟨B,0,none⟩))) (hdr:∀ w' v,Q0 w' v→Q0 w'.drew v)
 (hF:∀ w' q n c,Q0 w' (.slice q n c)→Calls Tryz.prog 24 #[.pointer (some ⟨B,0,none⟩),.int .i64 k,.slice q n c] w' fun e w''=>∃ ov,e=.returned (.tuple #[ov,.int .i64 0])∧Q1 w'' ov)
 (hT:∀ w' ov,Q1 w' ov→Calls Tryz.prog 65 #[.pointer (some ⟨lb,0,none⟩),ov,.int .i64 0] w' fun e w''=>e=.returned (.tuple #[])∧R e w'') :
 Calls Tryz.prog 50 #[.pointer (some ⟨lb,0,none⟩),.int .i64 k,.agg (pkK p)] w R:=by
 obtain ⟨f1,f2,f3,hfv⟩:=hfv
 obtain ⟨c1,c2,c3,hcv⟩:=hcv
 have HE:=hide hE
 have HLB:=hide hlb
 have HDR:=hide hdr
 have HF:=hide hF
 have HT:=hide hT
 have HB:=hide fun o=>(Below.refl w.heap.size w).alloc (Nat.le_refl _) o
 simp only [pkK,hfv,hcv] at HE ⊢
 clear hE hlb hdr hF hT hfv hcv
 go_enter Tryz.func50,Tryz.ntmps50
 go_wp2_with fail
 refine (HE.out _ (HB.out _)).mono ?_
 rintro e w1 ⟨q,n,c,rfl,hq0⟩
 have l0:=HLB.out _ _ hq0
 have HQ0:=hide hq0
 clear hq0
 go_wp2_with fail
 refine (HF.out _ q n c HQ0.out).mono ?_
 rintro e w2 ⟨ov,rfl,hq1⟩
 have HQ1:=hide hq1
 clear hq1 l0
 go_wp2_with fail
 refine (HT.out _ ov HQ1.out).mono ?_
 rintro e w3 ⟨rfl,hR⟩
 have HR:=hide hR
 clear hR
 go_wp2
 go_end0
 exact HR.out
end br
namespace br
open Go.RowKit topPlain topWalks decPlain
theorem infoFil:(Tryz.prog.info? 95).map (fun i=>(i.zero,i.size,i.bytes))=some (some (.agg #[.string ByteArray.empty,.int .i64 0]),2,24):=by kernel_rfl
set_option maxHeartbeats 1600000 in
set_option maxRecDepth 100000 in
theorem take_old (sb:Nat) (V:SesV) (S:Ses) (f:List UInt8×Int) (w:World) (h:SesAt w sb V S) (i:Nat) (hi:S.filters.findIdx? (fun g=>g.1 == f.1)=some i) :
 Calls Tryz.prog 214 #[.pointer (some ⟨sb,0,none⟩),.agg #[.string (bs f.1),.int .i64 f.2]] w fun e w'=>e=.returned (.bool true)∧But (V.has sb) w w'∧SesAt w' sb V { S with filters:=S.filters.set i f }:=by
 have H:=hide h
 have c0:w.cell? ⟨sb,0,none⟩=some V.fv:=blk_cell h.blk rfl
 have hlt:=cell_blt c0
 simp only at hlt
 have cF:=hide fun w' (hB:Below w.heap.size w w')=>findFilter_any sb V.fv S.filters f.1 w' (by rw [hB.cell hlt];exact c0) (h.below hB).fil
 have HB:=hide fun o=>(Below.refl w.heap.size w).alloc (Nat.le_refl _) o
 have hil:i < S.filters.length:=(List.findIdx?_eq_some_iff_getElem.1 hi).1
 obtain ⟨q,cap,hq⟩:=own_form h.fil
 have hf:=h.fil
 rw [hq] at hf
 obtain ⟨g,rfl,hg,hkc,hcm,_⟩:=own_at hf (by omega)
 obtain ⟨hg0,hg1⟩:=fil_cells (wr:=w) hf (List.getElem?_eq_getElem hil) rfl rfl
 obtain ⟨cur,hcur⟩:=own_blk hf (b:=g) rfl
 have hf0:w.frozen? ⟨g,i*2,none⟩=false:=blk_frozen hcur
 have hf1:w.frozen? ⟨g,i*2+1,none⟩=false:=blk_frozen hcur
 unfold maxLen at hcm
 clear hf hcur
 have hidx:idx (fun g=>g.1 == f.1) S.filters=(i:Int):=by unfold idx;rw [hi]
 rw [hidx] at cF
 rw [hq] at c0
 clear hidx hi h
 go_enter Tryz.func214,Tryz.ntmps214
 go_wp2_with fail
 refine (cF.out _ (HB.out _)).mono ?_
 rintro e w1 ⟨rfl,hB1⟩
 have hBw:=(HB.out (.cells #[.string (bs f.1),.int .i64 f.2] 95)).trans (hB1.mono (by simp))
 have p0:w1.cell? ⟨w.heap.size,0,none⟩=some (.string (bs f.1)):=by rw [hB1.cell (by simp)];exact cell_new _ _ _ rfl
 have p1:w1.cell? ⟨w.heap.size,1,none⟩=some (.int .i64 f.2):=by rw [hB1.cell (by simp)];exact cell_new _ _ _ rfl
 have c0':w1.cell? ⟨sb,0,none⟩=some (.slice (some ⟨g,0,none⟩) S.filters.length cap):=by rw [hBw.cell hlt];exact c0
 have g0':w1.cell? ⟨g,i*2,none⟩=some (.string (bs (S.filters[i]).1)):=by rw [hBw.cell hg];exact hg0
 have g1':w1.cell? ⟨g,i*2+1,none⟩=some (.int .i64 (S.filters[i]).2):=by rw [hBw.cell hg];exact hg1
 have f0':w1.frozen? ⟨g,i*2,none⟩=false:=by rw [hBw.frozen hg];exact hf0
 have f1':w1.frozen? ⟨g,i*2+1,none⟩=false:=by rw [hBw.frozen hg];exact hf1
 have HBW:=hide hBw
 have hsz:=hB1.size
 generalize (S.filters[i]).1=x0 at g0'
 generalize (S.filters[i]).2=x1 at g1'
 clear hB1 hBw hg0 hg1 hf0 hf1 c0
 have HQ:=hide hq
 clear hq
 go_wp2
 go_region
 all_goals
  go_wp2
  go_ret
  have hgh:V.has sb g:=Or.inr (Or.inl (by rw [HQ.out];rfl))
  exact ⟨rfl,((But.of_below HBW.out).trans ((But.set w1 ⟨g,i*2,none⟩ _ hgh).trans (But.set _ ⟨g,i*2+1,none⟩ _ hgh) (fun _ _ h=>h)) (fun _ _ h=>h)).drew,((H.out.below HBW.out).setFil HQ.out f hil).drew⟩
set_option maxHeartbeats 1600000 in
set_option maxRecDepth 100000 in
theorem take_full (sb:Nat) (V:SesV) (S:Ses) (f:List UInt8×Int) (w:World) (h:SesAt w sb V S) (hi:S.filters.findIdx? (fun g=>g.1 == f.1)=none) (h6:6≤S.filters.length) :
 Calls Tryz.prog 214 #[.pointer (some ⟨sb,0,none⟩),.agg #[.string (bs f.1),.int .i64 f.2]] w fun e w'=>e=.returned (.bool false)∧Below w.heap.size w w':=by
 have c0:w.cell? ⟨sb,0,none⟩=some V.fv:=blk_cell h.blk rfl
 have hlt:=cell_blt c0
 simp only at hlt
 have cF:=hide fun w' (hB:Below w.heap.size w w')=>findFilter_any sb V.fv S.filters f.1 w' (by rw [hB.cell hlt];exact c0) (h.below hB).fil
 have HB:=hide fun o=>(Below.refl w.heap.size w).alloc (Nat.le_refl _) o
 obtain ⟨q,cap,hq⟩:=own_form h.fil
 have hidx:idx (fun g=>g.1 == f.1) S.filters=-1:=by unfold idx;rw [hi]
 have hd:(6:Int)≤(S.filters.length:Int):=by omega
 rw [hidx] at cF
 rw [hq] at c0
 clear hidx hi h hq
 go_enter Tryz.func214,Tryz.ntmps214
 go_wp2_with fail
 refine (cF.out _ (HB.out _)).mono ?_
 rintro e w1 ⟨rfl,hB1⟩
 have hBw:=(HB.out (.cells #[.string (bs f.1),.int .i64 f.2] 95)).trans (hB1.mono (by simp))
 have c0':w1.cell? ⟨sb,0,none⟩=some (.slice q S.filters.length cap):=by rw [hBw.cell hlt];exact c0
 have HBW:=hide hBw
 clear hB1 hBw c0
 go_wp2
 go_ret
 exact ⟨rfl,HBW.out⟩
set_option maxHeartbeats 1600000 in
set_option maxRecDepth 100000 in
theorem take_new (sb:Nat) (V:SesV) (S:Ses) (f:List UInt8×Int) (w:World) (h:SesAt w sb V S) (hi:S.filters.findIdx? (fun g=>g.1 == f.1)=none) (h6:¬ 6≤S.filters.length) :
 Calls Tryz.prog 214 #[.pointer (some ⟨sb,0,none⟩),.agg #[.string (bs f.1),.int .i64 f.2]] w fun e w'=>e=.returned (.bool true)∧But (V.has sb) w w'∧∃ fv',SesAt w' sb { V with fv:=fv' } { S with filters:=S.filters ++ [f] }∧(fv'.ownBlock=V.fv.ownBlock∨∃ b,fv'.ownBlock=some b∧w.heap.size≤b):=by
 have H:=hide h
 have c0:w.cell? ⟨sb,0,none⟩=some V.fv:=blk_cell h.blk rfl
 have f0:w.frozen? ⟨sb,0,none⟩=false:=blk_frozen h.blk
 have hlt:=cell_blt c0
 simp only at hlt
 have cF:=hide fun w' (hB:Below w.heap.size w w')=>findFilter_any sb V.fv S.filters f.1 w' (by rw [hB.cell hlt];exact c0) (h.below hB).fil
 have HB:=hide fun o=>(Below.refl w.heap.size w).alloc (Nat.le_refl _) o
 obtain ⟨q,cap,hq⟩:=own_form h.fil
 have hidx:idx (fun g=>g.1 == f.1) S.filters=-1:=by unfold idx;rw [hi]
 have hd:¬ (6:Int)≤(S.filters.length:Int):=by omega
 have h63:S.filters.length < 6:=by omega
 rw [hidx] at cF
 obtain ⟨i0,hi0,hz0,hz1,hz2⟩:=info_parts infoFil
 clear hidx hi h
 go_enter Tryz.func214,Tryz.ntmps214
 go_wp2_with fail
 refine (cF.out _ (HB.out _)).mono ?_
 rintro e w1 ⟨rfl,hB1⟩
 have hBw:=(HB.out (.cells #[.string (bs f.1),.int .i64 f.2] 95)).trans (hB1.mono (by simp))
 have p0:w1.cell? ⟨w.heap.size,0,none⟩=some (.string (bs f.1)):=by rw [hB1.cell (by simp)];exact cell_new _ _ _ rfl
 have p1:w1.cell? ⟨w.heap.size,1,none⟩=some (.int .i64 f.2):=by rw [hB1.cell (by simp)];exact cell_new _ _ _ rfl
 have c0':w1.cell? ⟨sb,0,none⟩=some V.fv:=by rw [hBw.cell hlt];exact c0
 have c0q:=c0'
 rw [hq] at c0q
 have f0':w1.frozen? ⟨sb,0,none⟩=false:=by rw [hBw.frozen hlt];exact f0
 have hlt1:sb < w1.heap.size:=Nat.lt_of_lt_of_le hlt hBw.size
 have HBW:=hide hBw
 have HS1:=hide (H.out.below hBw)
 clear hB1 hBw c0 f0
 have HQ:=hide hq
 clear hq c0'
 go_wp2_with fail
 have HN:=hide (news_new w1 #[.string (bs f.1),.int .i64 f.2] 95)
 have hA:=fun o=>alloc_cell c0q o
 have HFIL:=hide (show w1.ownsRow 0 95 2 (.slice q S.filters.length cap) S.filters.length (filK S.filters) by rw [← HQ.out];exact HS1.out.fil)
 have HQB:=hide (congrArg Value.ownBlock HQ.out)
 go_region_law (
  refine step_append_at rfl (.tmp 29) (.tmp 31) 33 rfl 0 95 i0 (.agg #[.string ByteArray.empty,.int .i64 0]) 2 24 Tryz.underlying33 hi0 hz0 hz1 hz2 rfl (by decide) (.slice q S.filters.length cap) S.filters.length (filK S.filters) ?s1 ?s2 ⟨w1.heap.size,0,none⟩ 1 1 [.string (bs f.1),.int .i64 f.2] ?s3 rfl ?s4 ?s5 ?s6 ?s7 ?s8 ?_
  case s1=>simp [Act.eval]
  case s3=>simp [Act.eval]
  case s2=>exact HFIL.out.alloc _
  case s4=>exact HN.out
  case s5=>intro u hu;simp at hu;rcases hu with rfl | rfl<;>rfl
  case s6=>unfold maxLen;omega
  case s7=>omega
  case s8=>exact Nat.zero_le _
  intro v' w8 hown' hgrow hloc
  obtain ⟨q',cap',rfl⟩:=own_form hown'
  have hg8:(w1.alloc (.cells #[.string (bs f.1),.int .i64 f.2] 95)).grownBy w8 (Value.slice q S.filters.length cap).ownBlock:=⟨hgrow.os,hgrow.tape,hgrow.output,hgrow.size,hgrow.block⟩
  have HG:=hide hg8
  have hne:(Value.slice q S.filters.length cap).ownBlock≠some sb:=by rw [← HQ.out];exact H.out.own_ne.1
  have hbk:w8.heap[sb]?=w1.heap[sb]?:=(hg8.block sb (by simp;omega) (fun e=>hne e.symm)).trans (Below.heap_alloc _ _ _ hlt1)
  have c8:w8.cell? ⟨sb,0,none⟩=some (.slice q S.filters.length cap):=by rw [World.cell?_of_block (w:=w1) hbk];exact c0q
  have f8:w8.frozen? ⟨sb,0,none⟩=false:=by rw [World.frozen?_of_block (w:=w1) hbk];exact f0'
  have HOW:=hide hown'
  have HLOC:=hide hloc
  clear c0q f0' p0 p1 hA HN hgrow hg8 hown' hloc hne hbk)
 all_goals
  go_wp2
  go_ret
  have hg:w1.grownBy w8 V.fv.ownBlock:=⟨HG.out.os,HG.out.tape,HG.out.output,Nat.le_trans (by simp) HG.out.size,fun k hk hne=>(HG.out.block k (by simp;omega) (by rw [← HQB.out];exact hne)).trans (Below.heap_alloc _ _ _ hk)⟩
  have hsz1:=HBW.out.size
  refine ⟨rfl,(But.of_below HBW.out).trans ((But.of_grown (F:=V.has sb) hg (fun b hb=>Or.inr (Or.inl hb))).trans (But.set _ ⟨sb,0,none⟩ _ (Or.inl rfl)) (fun _ _ h=>h)) (fun _ _ h=>h),.slice q' (S.filters.length+1) cap',HS1.out.addFil hg (by simpa [filK] using HOW.out),?_⟩
  rcases HLOC.out with h | h
  · exact Or.inl (h.trans HQB.out.symm)
  · exact Or.inr ⟨_,h,by simp;omega⟩
theorem take_any (sb:Nat) (V:SesV) (S:Ses) (f:List UInt8×Int) (w:World) (h:SesAt w sb V S) :
 Calls Tryz.prog 214 #[.pointer (some ⟨sb,0,none⟩),.agg #[.string (bs f.1),.int .i64 f.2]] w fun e w'=>e=.returned (.bool (takeS S.filters f).isSome)∧But (V.has sb) w w'∧∃ fv',SesAt w' sb { V with fv:=fv' } { S with filters:=(takeS S.filters f).getD S.filters }∧(fv'.ownBlock=V.fv.ownBlock∨∃ b,fv'.ownBlock=some b∧w.heap.size≤b):=by
 cases hi:S.filters.findIdx? (fun g=>g.1 == f.1) with
 | some i =>
   have htk:takeS S.filters f=some (S.filters.set i f):=by unfold takeS;rw [hi]
   rw [htk]
   exact (take_old sb V S f w h i hi).mono fun e w' ⟨h1,h2,h3⟩=>⟨h1,h2,V.fv,h3,Or.inl rfl⟩
 | none =>
   by_cases h6:6≤S.filters.length
   · have htk:takeS S.filters f=none:=by unfold takeS;rw [hi];simp [h6]
     rw [htk]
     exact (take_full sb V S f w h hi h6).mono fun e w' ⟨h1,h2⟩=>⟨h1,But.of_below h2,V.fv,h.below h2,Or.inl rfl⟩
   · have htk:takeS S.filters f=some (S.filters ++ [f]):=by unfold takeS;rw [hi];simp [h6]
     rw [htk]
     exact (take_new sb V S f w h hi h6).mono fun e w' ⟨h1,h2,h3⟩=>⟨h1,h2,h3⟩
end br
namespace br
open Go.RowKit topPlain topWalks
theorem matching_none (B:Nat) (q:Option Addr) (c:Nat) (f:List UInt8) (w:World) (h:w.cell? ⟨B,11,none⟩=some (.slice q 0 c)) :
 Calls Tryz.prog 241 #[.pointer (some ⟨B,11,none⟩),.string (bs f)] w fun e w'=>e=.returned (.slice none 0 0)∧Below w.heap.size w w':=by
 have HB:=hide (Below.refl w.heap.size w)
 go_enter Tryz.func241,Tryz.ntmps241
 go_wp2_with fail
 go_loopw [5,13] (fun v i wx=>v=.slice none 0 0∧i=.int .i64 0∧wx=w) (fun _ _ _=>0)
 case atStart=>exact ⟨rfl,rfl,rfl⟩
 case round =>
  obtain ⟨rfl,rfl,rfl⟩:=hrel
  go_wp2
  go_ret
  exact ⟨rfl,HB.out⟩
theorem tellRetained_none (B sb:Nat) (q:Option Addr) (c:Nat) (f:List UInt8×Int) (w:World) (h:w.cell? ⟨B,11,none⟩=some (.slice q 0 c)) :
 Calls Tryz.prog 215 #[.pointer (some ⟨B,0,none⟩),.pointer (some ⟨sb,0,none⟩),.agg #[.string (bs f.1),.int .i64 f.2]] w fun e w'=>e=.returned (.tuple #[])∧Below w.heap.size w w':=by
 have HB:=hide fun o=>(Below.refl w.heap.size w).alloc (Nat.le_refl _) o
 have hA:=fun o=>alloc_cell h o
 have cM:=hide fun w h=>matching_none B q c f.1 w h
 go_enter Tryz.func215,Tryz.ntmps215
 go_wp2_with fail
 go_region_with (
  refine (cM.out _ (by exact hA _)).mono ?_
  rintro e w1 ⟨rfl,hB1⟩
  have HBW:Hid (Below w.heap.size w w1):=((HB.out _).drew.trans (hB1.mono (by simp [World.drew])))
  clear hB1)
 all_goals
  go_wp2_with fail
  conv=>arg 4;simp [Act.put]
  go_loopw [15] (fun i wx=>i=.int .i64 0∧wx=w1) (fun _ _=>0)
  case atStart=>exact ⟨rfl,rfl⟩
  case round =>
   obtain ⟨rfl,rfl⟩:=hrel
   go_wp2
   go_end0
   exact ⟨rfl,HBW.out⟩
end br
namespace br
open Go.RowKit topPlain topWalks decPlain Go.Maps
def helloS (client:List UInt8) (clean:Bool):Pkt:={ zP with kind:=1,clean:=clean,client:=client }
structure Heard1 (w:World) (lb k g cap:Nat) (V:LineV) (kind code:Int):Prop where
 line:LineAt w lb V
 bad:V.bad=false
 got:V.got k=.slice (some ⟨g,0,none⟩) 1 cap
 cap1:1≤cap
 capm:cap≤maxLen
 kind:w.cell? ⟨g,0,none⟩=some (.int .i64 kind)
 code:w.cell? ⟨g,6,none⟩=some (.int .i64 code)
 ne:g≠lb
set_option maxHeartbeats 800000 in
set_option maxRecDepth 100000 in
theorem joins_any (lb k:Nat) (client:List UInt8) (clean:Bool) (V:LineV) (w:World) (Q0 R:World→Prop) (h:LineAt w lb V) (hk:k < 8)
 (hO:Calls Tryz.prog 23 #[.pointer (some ⟨V.b,0,none⟩),.int .i64 (k:Int)] w fun e w'=>e=.returned (.int .i64 0)∧Q0 w')
 (hQ0:∀ w',Q0 w'→LineAt w' lb V)
 (hS:∀ w',Q0 w'→Calls Tryz.prog 50 #[.pointer (some ⟨lb,0,none⟩),.int .i64 (k:Int),.agg (pkK (helloS client clean))] (w'.setCell ⟨lb,9+k,none⟩ (.bool false)) fun e w''=>e=.returned (.tuple #[])∧R w''∧∃ g cap V',Heard1 w'' lb k g cap V' 2 0) :
 Calls Tryz.prog 48 #[.pointer (some ⟨lb,0,none⟩),.int .i64 (k:Int),.string (bs client),.bool clean] w fun e w'=>∃ v w1,e=.returned (.tuple #[v,.bool true])∧R w1∧w'=w1.setCell ⟨lb,1+k,none⟩ (.slice none 0 0):=by
 have c0:w.cell? ⟨lb,0,none⟩=some (.pointer (some ⟨V.b,0,none⟩)):=blk_cell h rfl
 have h8:(k:Int) < 8:=by omega
 have HO:=hide hO
 have HQ0:=hide hQ0
 have HS:=hide hS
 have HK:=hide hk
 simp only [pkK,helloS,zP] at HS
 clear hO hQ0 hS h
 go_enter Tryz.func48,Tryz.ntmps48
 go_wp2_with fail
 refine HO.out.mono ?_
 rintro e w1 ⟨rfl,hq0⟩
 have hl1:=HQ0.out _ hq0
 have f9:w1.frozen? ⟨lb,9+k,none⟩=false:=blk_frozen hl1
 have l9:w1.cell? ⟨lb,9+k,none⟩=some (.bool (V.off k)):=blk_cell hl1 (lineC_off V HK.out)
 have HQA:=hide hq0
 clear hq0 hl1 c0
 go_wp2_with fail
 refine (HS.out _ HQA.out).mono ?_
 rintro e w2 ⟨rfl,hR,g,cap,V',hH⟩
 have HR:=hide hR
 have HH:=hide hH
 have cH:=hide (heard_any lb k V' w2 hH.line HK.out ⟨_,_,_,hH.got⟩)
 rw [hH.got] at cH
 clear hR hH f9 l9
 go_wp2_with fail
 refine cH.out.mono ?_
 rintro e w3 ⟨rfl,hw3,hl3⟩
 have m0:w3.cell? ⟨g,0,none⟩=some (.int .i64 2):=by
  rw [hw3,World.cell?_of_block (w:=w2) (Below.heap_setCell _ _ _ _ HH.out.ne)];exact HH.out.kind
 have m6:w3.cell? ⟨g,6,none⟩=some (.int .i64 0):=by
  rw [hw3,World.cell?_of_block (w:=w2) (Below.heap_setCell _ _ _ _ HH.out.ne)];exact HH.out.code
 have m17:w3.cell? ⟨lb,17,none⟩=some (.bool false):=by rw [← HH.out.bad];exact blk_cell hl3 rfl
 have hcap1:=HH.out.cap1
 have hcapm:cap≤9223372036854775807:=by have:=HH.out.capm;unfold maxLen at this;omega
 have HW3:=hide hw3
 clear hw3 hl3 cH
 go_wp2_with fail
 all_goals
  go_ret2
  exact ⟨⟨_,rfl⟩,w2,HR.out,HW3.out⟩
def askS (fv:Value):Pkt:={ zP with kind:=8,id:=1,fv:=fv }
structure Heard2 (w:World) (lb k g cap cg cc:Nat) (V:LineV) (qos:Int):Prop where
 line:LineAt w lb V
 bad:V.bad=false
 got:V.got k=.slice (some ⟨g,0,none⟩) 1 cap
 cap1:1≤cap
 capm:cap≤maxLen
 kind:w.cell? ⟨g,0,none⟩=some (.int .i64 9)
 codes:w.cell? ⟨g,14,none⟩=some (.slice (some ⟨cg,0,none⟩) 1 cc)
 code:w.cell? ⟨cg,0,none⟩=some (.int .i64 qos)
 cc1:1≤cc
 ne:g≠lb
 ne2:cg≠lb
set_option maxHeartbeats 800000 in
set_option maxRecDepth 100000 in
theorem asks_line (lb k:Nat) (f:List UInt8) (qos:Int) (w:World) (R:World→Prop) (hk:k < 8)
 (hS:Calls Tryz.prog 50 #[.pointer (some ⟨lb,0,none⟩),.int .i64 (k:Int),.agg (pkK (askS (.slice (some ⟨w.heap.size,0,none⟩) 1 1)))] (w.alloc (.cells #[.string (bs f),.int .i64 qos] 95)) fun e w''=>e=.returned (.tuple #[])∧R w''∧∃ g cap cg cc V',Heard2 w'' lb k g cap cg cc V' qos) :
 Calls Tryz.prog 49 #[.pointer (some ⟨lb,0,none⟩),.int .i64 (k:Int),.string (bs f),.int .i64 qos] w fun e w'=>∃ w1,e=.returned (.bool true)∧R w1∧w'=w1.setCell ⟨lb,1+k,none⟩ (.slice none 0 0):=by
 have h8:(k:Int) < 8:=by omega
 have HS:=hide hS
 have HK:=hide hk
 simp only [pkK,askS,zP] at HS
 clear hS
 go_enter Tryz.func49,Tryz.ntmps49
 go_wp2_with fail
 refine HS.out.mono ?_
 rintro e w2 ⟨rfl,hR,g,cap,cg,cc,V',hH⟩
 have HR:=hide hR
 have HH:=hide hH
 have cH:=hide (heard_any lb k V' w2 hH.line HK.out ⟨_,_,_,hH.got⟩)
 rw [hH.got] at cH
 clear hR hH
 go_wp2_with fail
 refine cH.out.mono ?_
 rintro e w3 ⟨rfl,hw3,hl3⟩
 have m0:w3.cell? ⟨g,0,none⟩=some (.int .i64 9):=by
  rw [hw3,World.cell?_of_block (w:=w2) (Below.heap_setCell _ _ _ _ HH.out.ne)];exact HH.out.kind
 have m14:w3.cell? ⟨g,14,none⟩=some (.slice (some ⟨cg,0,none⟩) 1 cc):=by
  rw [hw3,World.cell?_of_block (w:=w2) (Below.heap_setCell _ _ _ _ HH.out.ne)];exact HH.out.codes
 have mc:w3.cell? ⟨cg,0,none⟩=some (.int .i64 qos):=by
  rw [hw3,World.cell?_of_block (w:=w2) (Below.heap_setCell _ _ _ _ HH.out.ne2)];exact HH.out.code
 have m17:w3.cell? ⟨lb,17,none⟩=some (.bool false):=by rw [← HH.out.bad];exact blk_cell hl3 rfl
 have hcap1:=HH.out.cap1
 have hcapm:cap≤9223372036854775807:=by have:=HH.out.capm;unfold maxLen at this;omega
 have hcc1:=HH.out.cc1
 have HW3:=hide hw3
 clear hw3 hl3 cH
 go_wp2_with fail
 go_ret
 exact ⟨w2,rfl,HR.out,HW3.out⟩
def hiS:Pkt:={ zP with kind:=3,qos:=2,id:=9,topic:=[97,47,120],payload:=[104,105] }
structure Heard3 (w:World) (lb g0 c0 g1 c1:Nat) (V:LineV):Prop where
 line:LineAt w lb V
 bad:V.bad=false
 got0:V.got 0=.slice (some ⟨g0,0,none⟩) 1 c0
 got1:V.got 1=.slice (some ⟨g1,0,none⟩) 1 c1
 cap0:1≤c0
 cap1:1≤c1
 k0:w.cell? ⟨g0,0,none⟩=some (.int .i64 3)
 q0:w.cell? ⟨g0,8,none⟩=some (.int .i64 1)
 p0:w.cell? ⟨g0,11,none⟩=some (.string (bs [104,105]))
 i0:w.cell? ⟨g0,12,none⟩=some (.int .i64 1)
 k1:w.cell? ⟨g1,0,none⟩=some (.int .i64 5)
 i1:w.cell? ⟨g1,12,none⟩=some (.int .i64 9)
 n0:g0≠lb
 n1:g1≠lb
set_option maxHeartbeats 1600000 in
set_option maxRecDepth 100000 in
theorem sure_any (w:World) (QA QB QC QD QE:Nat→World→Prop) (RR:World→Prop)
 (hOp:Calls Tryz.prog 22 #[.int .i64 1,.int .i64 1] w fun e w1=>∃ lb,e=.returned (.pointer (some ⟨lb,0,none⟩))∧QA lb w1)
 (hJ1:∀ lb w1,QA lb w1→Calls Tryz.prog 48 #[.pointer (some ⟨lb,0,none⟩),.int .i64 0,.string (bs [99]),.bool false] w1 fun e w2=>∃ v,e=.returned (.tuple #[v,.bool true])∧QB lb w2)
 (hA:∀ lb w2,QB lb w2→Calls Tryz.prog 49 #[.pointer (some ⟨lb,0,none⟩),.int .i64 0,.string (bs [97,47,43]),.int .i64 1] w2 fun e w3=>e=.returned (.bool true)∧QC lb w3)
 (hJ2:∀ lb w3,QC lb w3→Calls Tryz.prog 48 #[.pointer (some ⟨lb,0,none⟩),.int .i64 1,.string (bs [100]),.bool true] w3 fun e w4=>∃ v,e=.returned (.tuple #[v,.bool true])∧QD lb w4)
 (hS:∀ lb w4,QD lb w4→Calls Tryz.prog 50 #[.pointer (some ⟨lb,0,none⟩),.int .i64 1,.agg (pkK hiS)] w4 fun e w5=>e=.returned (.tuple #[])∧QE lb w5∧∃ g0 c0 g1 c1 V,Heard3 w5 lb g0 c0 g1 c1 V)
 (hC:∀ lb w5 V,QE lb w5→LineAt w5 lb V→Calls Tryz.prog 52 #[.pointer (some ⟨V.b,0,none⟩),.int .i64 0] ((w5.setCell ⟨lb,1,none⟩ (.slice none 0 0)).setCell ⟨lb,2,none⟩ (.slice none 0 0)) fun e w'=>∃ g c,e=.returned (.tuple #[.slice (some ⟨g,0,none⟩) 1 c,.int .i64 0])∧1≤c∧w'.cell? ⟨g,0,none⟩=some (.int .i64 0)∧w'.cell? ⟨g,2,none⟩=some (.bool true)∧RR w') :
 Calls Tryz.prog 18 #[] w fun e w'=>e=.returned (.bool true)∧RR w':=by
 have HOp:=hide hOp
 have HJ1:=hide hJ1
 have HA:=hide hA
 have HJ2:=hide hJ2
 have HS:=hide hS
 have HC:=hide hC
 simp only [pkK,hiS,zP] at HS
 clear hOp hJ1 hA hJ2 hS hC
 go_enter Tryz.func18,Tryz.ntmps18
 go_wp2_with fail
 refine HOp.out.mono ?_
 rintro e w1 ⟨lb,rfl,hQA⟩
 have HQA:=hide hQA
 clear hQA
 go_wp2_with fail
 refine (HJ1.out _ _ HQA.out).mono ?_
 rintro e w2 ⟨v2,rfl,hQB⟩
 have HQB:=hide hQB
 clear hQB
 go_wp2_with fail
 refine (HA.out _ _ HQB.out).mono ?_
 rintro e w3 ⟨rfl,hQC⟩
 have HQC:=hide hQC
 clear hQC
 go_wp2_with fail
 refine (HJ2.out _ _ HQC.out).mono ?_
 rintro e w4 ⟨v4,rfl,hQD⟩
 have HQD:=hide hQD
 clear hQD
 go_wp2_with fail
 refine (HS.out _ _ HQD.out).mono ?_
 rintro e w5 ⟨rfl,hQE,g0,c0,g1,c1,V,hH⟩
 have HQE:=hide hQE
 have HH:=hide hH
 have cH0:=hide (heard_any lb 0 V w5 hH.line (by omega) ⟨_,_,_,hH.got0⟩)
 rw [hH.got0] at cH0
 clear hQE hH
 go_wp2_with fail
 refine cH0.out.mono ?_
 rintro e w6 ⟨rfl,hw6,hl6⟩
 have cH1:=hide (heard_any lb 1 (V.setGot 0 (.slice none 0 0)) w6 hl6 (by omega) ⟨_,_,_,HH.out.got1⟩)
 rw [show (V.setGot 0 (.slice none 0 0)).got 1=.slice (some ⟨g1,0,none⟩) 1 c1 from HH.out.got1] at cH1
 have HW6:=hide hw6
 clear hw6 hl6 cH0
 go_wp2_with fail
 refine cH1.out.mono ?_
 rintro e w7 ⟨rfl,hw7,hl7⟩
 have hkp:∀ g i x,g≠lb→w5.cell? ⟨g,i,none⟩=some x→w7.cell? ⟨g,i,none⟩=some x:=fun g i x hg hx=>by
  rw [hw7,World.cell?_of_block (w:=w6) (Below.heap_setCell _ _ _ _ hg),HW6.out,World.cell?_of_block (w:=w5) (Below.heap_setCell _ _ _ _ hg)];exact hx
 have a0:=hkp _ _ _ HH.out.n0 HH.out.k0
 have a8:=hkp _ _ _ HH.out.n0 HH.out.q0
 have a11:w7.cell? ⟨g0,11,none⟩=some (.string ⟨#[104,105]⟩):=hkp _ _ _ HH.out.n0 HH.out.p0
 have a12:=hkp _ _ _ HH.out.n0 HH.out.i0
 have b0:=hkp _ _ _ HH.out.n1 HH.out.k1
 have b12:=hkp _ _ _ HH.out.n1 HH.out.i1
 have l17:w7.cell? ⟨lb,17,none⟩=some (.bool false):=by rw [← HH.out.bad];exact blk_cell hl7 rfl
 have l0:w7.cell? ⟨lb,0,none⟩=some (.pointer (some ⟨V.b,0,none⟩)):=blk_cell hl7 rfl
 have hc0:=HH.out.cap0
 have hc1:=HH.out.cap1
 have HW7:=hide hw7
 clear hw7 hl7 cH1 hkp
 go_wp2_with fail
 rw [HW7.out,HW6.out]
 refine (HC.out _ _ _ HQE.out HH.out.line).mono ?_
 rintro e w8 ⟨g,c,rfl,hcc,z0,z2,hRR⟩
 have HRR:=hide hRR
 clear hRR
 go_wp2
 go_ret
 exact ⟨rfl,HRR.out⟩
set_option maxHeartbeats 800000 in
set_option maxRecDepth 100000 in
theorem opened_any (win que:Int) (w:World) (h1:1≤win) (h2:win≤8) (h3:0≤que) (h4:que≤8) :
 Calls Tryz.prog 22 #[.int .i64 win,.int .i64 que] w fun e w'=>∃ lb B mb,e=.returned (.pointer (some ⟨lb,0,none⟩))∧Below w.heap.size w w'∧w.heap.size≤B∧w.heap.size≤mb∧w.heap.size≤lb∧lb≠B∧lb≠mb∧LineAt w' lb ⟨B,fun _=>.slice none 0 0,fun _=>false,false⟩∧BlkAt w' B ⟨win,que,fun _=>.pointer none,mb,.slice none 0 0,0⟩ (.slice none 0 0) []∧w'.ownsMap Tryz.prog 9 ptrElem mb 0 (.map []):=by
 have cN:=hide fun w=>new_any win que w h1 h2 h3 h4
 go_enter Tryz.func22,Tryz.ntmps22
 go_wp2_with fail
 refine (cN.out _).mono ?_
 rintro e w1 ⟨B,mb,rfl,hB1,hB,hmb,hblk,hmap⟩
 have HB1:=hide hB1
 have HBk:=hide hblk
 have HMp:=hide hmap
 have HlB:=hide (show B < w1.heap.size from blk_lt hblk.blk)
 clear hB1 hblk hmap
 go_wp2_with fail
 go_ret
 have hA:=(Below.refl w1.heap.size w1).alloc (Nat.le_refl _) (.cells (lineC ⟨B,fun _=>.slice none 0 0,fun _=>false,false⟩) 60)
 have hlm:mb < w1.heap.size:=by obtain ⟨es,cl,k1,_⟩:=HMp.out;exact blk_lt k1
 have hs:=HB1.out.size
 have hlB:=HlB.out
 exact ⟨w1.heap.size,B,mb,rfl,HB1.out.trans (hA.mono hs),hB,hmb,hs,by omega,by omega,heap_alloc_new _ _,HBk.out.below hA,by obtain ⟨es,cl,k1,k2⟩:=HMp.out;exact ⟨es,cl,(hA.block _ (blk_lt k1)).trans k1,k2⟩⟩
end br
end Go.Proofs.YtnmfmoimjkoieaaGreatDoor
