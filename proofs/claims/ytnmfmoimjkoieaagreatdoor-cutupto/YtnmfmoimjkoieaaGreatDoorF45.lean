import Derived.Test.YtnmfmoimjkoieaaGreatDoorF44
import Derived.Deep.LoopGhost
import Derived.Deep.RegionWith
namespace Go.Proofs.YtnmfmoimjkoieaaGreatDoor
namespace br
open Go.RowKit topPlain topWalks decPlain rd ew encPlain rf cu
set_option maxHeartbeats 3200000 in
set_option maxRecDepth 100000 in
theorem read_all {σ:Type} {N0:Nat} {ash aw:Addr} (B k cb:Nat) (hk:k < 8) (wv:Value) (wt d l0:List UInt8) (he:wt ++ d=l0) (step:σ→cu.Dec→σ×List OutS×Bool) (Inv:σ→List OutS→List UInt8→Fpr) (Ens:List OutS→Fpr) (KT:RdKit N0 ash aw B k cb wv wt step Inv Ens) (s0:σ) (F0:Nat→Prop) (db doff dc:Nat) (w:World) (hI:Inv s0 [] l0 F0 w) (hwv:w.ownsRow 0 5 1 wv wt.length (u8k wt)) (hwn:∀ b,wv.ownBlock=some b→¬ F0 b∧N0≤b) (hd:∀ j x,d[j]?=some x→w.cell? ⟨db,doff+j,none⟩=some (.int .u8 (x.toNat:Int))) (hl:wt.length+d.length≤1000000000) :
 Calls Tryz.prog 59 #[.pointer (some ⟨B,0,none⟩),.pointer (some ⟨cb,0,none⟩),.slice (some ⟨db,doff,none⟩) d.length dc] w (RdPost step Inv Ens cb (fun b=>F0 b∨wv.ownBlock=some b) F0 s0 l0 w):=by
 obtain ⟨V0,C0,hc0,_,hw0⟩:=KT.con _ _ _ _ _ hI
 have a1:=blk_cell hc0 (conC_at (k:Int) V0 C0).2.1
 rw [hw0] at a1
 obtain ⟨i0,hi0,hz0,hz1,hz2⟩:=info_parts infoU8
 obtain ⟨qw,kw,hqw⟩:=own_form hwv
 have HNW:=hide (show ∀ j u,(u8k d)[j]?=some u→w.cell? ((⟨db,doff,none⟩:Addr).add j)=some u from fun j u hu=>by
  rw [add_off]
  simp only [u8k,List.getElem?_map,Option.map_eq_some_iff] at hu
  obtain ⟨x,hx,rfl⟩:=hu
  exact hd j x hx)
 have HWV:=hide hwv
 have HWN:=hide hwn
 have HI:=hide hI
 have HKT:=hide KT
 have HL:=hide hl
 have HEL:=hide he
 have HQW:=hide hqw
 have HWQ:=hide (show w.ownsRow 0 5 1 (.slice qw wt.length kw) wt.length (u8k wt) by rw [← hqw];exact hwv)
 rw [hqw] at a1
 clear hwv hwn hI KT hd hc0 hw0 hl hqw he
 go_enter Tryz.func59,Tryz.ntmps59
 go_wp2_with (first | (at_builtin;refine wpList_append_wait _ rfl _ _ rfl i0 hi0 hz0 hz1 hz2 (.slice qw wt.length kw) wt d rfl HWQ.out ⟨db,doff,none⟩ dc rfl HNW.out HL.out ?_;intro rv w1 how1 hwv1 hbut1 hloc1) | fail)
 rw [← HQW.out] at hwv1 hbut1 hloc1
 rw [HEL.out] at how1
 have hI1:Inv s0 [] l0 F0 w1:=(HKT.out.fit _ _ _).keep F0 _ w w1 HI.out hbut1 (fun x hx=>HWN.out x hx)
 have hF0:∀ b,F0 b→b < w.heap.size:=(HKT.out.fit _ _ _).lt _ _ HI.out
 have hrest:RestW w1 F0 rv l0:=by
  obtain ⟨qr,kr,rfl⟩:=own_form how1
  by_cases h0:l0.length=0
  · have he:l0 = []:=List.eq_nil_of_length_eq_zero h0
    rcases how1.2 with ⟨e1,_⟩ | ⟨g,cap,cur,e1,_,hg,h3,h4,h5⟩
    · exact Or.inl ⟨he,e1⟩
    · cases e1
      refine Or.inr ⟨g,0,kr,rfl,by omega,h4,blk_lt hg,fun e=>?_,fun j x hx=>by rw [he] at hx;simp at hx⟩
      rcases hloc1 g rfl with e' | e'
      · exact (HWN.out g e').1 e
      · have:=hF0 g e;omega
  · obtain ⟨g,rfl,hgl,hgc,hgm,hgcell⟩:=own_at how1 (by omega)
    refine Or.inr ⟨g,0,kr,rfl,hgc,hgm,hgl,fun e=>?_,fun j x hx=>?_⟩
    · rcases hloc1 g rfl with e' | e'
      · exact (HWN.out g e').1 e
      · have:=hF0 g e;omega
    · rw [Nat.zero_add]
      exact hgcell j _ (by rw [u8k,List.getElem?_map,hx];rfl)
 have HR:Hid (RdR step Inv Ens w1 F0 s0 l0 (l0.length+1) rv w1):=Or.inl ⟨s0,[],l0,F0,rfl,hI1,But.refl _ _,fun _ h=>Or.inl h,rfl,hrest,by have:=HL.out;rw [← HEL.out,List.length_append];omega⟩
 have HB1:=hide hbut1
 have HW1:=hide hwv1
 have HS1:=hide hbut1.size
 clear hbut1 hwv1 hloc1 hI1 hF0 hrest how1 a1 HWV HWQ HNW
 have HWVN:=hide (fun b (hb:wv.ownBlock=some b)=>(HWN.out b hb).1)
 go_loopg [6] (l0.length+1) (fun g r wx=>RdR step Inv Ens w1 F0 s0 l0 g r wx)
 case atStart=>exact HR.out
 case round =>
  rcases hrel with ⟨s,o,l,F,rfl,hR⟩ | ⟨rfl,s,o,F,hE⟩
  · obtain ⟨BV,ov,hb0,hb1,hb2⟩:=HKT.out.blk _ _ _ _ _ hR.inv
    obtain ⟨V,C,hc0,hc1,hc2⟩:=HKT.out.con _ _ _ _ _ hR.inv
    have a0:=blk_cell hc0 (conC_at (k:Int) V C).1
    have G0:=hide (HKT.out.gd _ _ _ _ _ hR.inv)
    have HRI:=hide hR
    have HRV:=hide (hR.rest.now hR.but)
    have HWX:=hide (own_but HW1.out hR.but HWVN.out)
    have HLN:=hide hR.len
    have HCB:=hide hc0
    have HCH:=hide hc1
    have HBB:=hide hb0
    have hr2:=hR.rest
    clear hR hc0 hc1 hc2
    have hltB:=blk_lt hb0
    go_wp2_with fail
    refine (isOpen_any B k BV ov _ wr hb0 hk hb1).mono ?_
    rintro e w2 ⟨rfl,hB2⟩
    have HB2:=hide hB2
    have G2:=hide (G0.out.below (hB2.mono G0.out.env.size))
    have cD:=hide (decode_any ash aw w2 l _ (by have:=HLN.out;omega) (HRV.out.below hB2) G2.out.errs G2.out.env')
    have HCB2:=hide ((hB2.block _ (blk_lt HCB.out)).trans HCB.out)
    have HRV2:=hide (HRV.out.below hB2)
    clear hB2 a0 hb0
    cases hdec:decL l with
    | inl b =>
      have HDEC:=hide hdec
      rw [hdec] at cD
      clear hdec
      go_wp2_with fail
      refine cD.out.mono ?_
      rintro e w3 ⟨hB3,ev,en,rfl,hev⟩
      simp only [pkCells,zeroP]
      have G3:=hide (G2.out.below (hB3.mono G2.out.env.size))
      have hB23:=HB2.out.trans (hB3.mono HB2.out.size)
      have HB3:=hide hB23
      have HCB3:=hide ((hB3.block _ (blk_lt HCB2.out)).trans HCB2.out)
      have HRV3:=hide (HRV2.out.below hB3)
      have gs:=G3.out.errs.short
      have hgs:=cell_blt gs
      simp only at hgs
      have HEV:=hide hev
      clear hB3 hB23 hev cD
      go_wp2_with fail
      obtain ⟨ca,ta,hash⟩:=G3.out.errs.bsh
      obtain ⟨ca2,ta2,haw⟩:=G3.out.errs.bw
      cases b with
      | true =>
        simp only [if_true] at HEV
        refine (is_any ash ash ca ca ta ta (en+1) ev _ HEV.out (by rw [Below.heap_alloc _ _ _ (blk_lt hash)];exact hash) (by rw [Below.heap_alloc _ _ _ (blk_lt hash)];exact hash)).mono ?_
        rintro e w4 ⟨rfl,hB4⟩
        have hB34:Below w3.heap.size w3 w4:=((Below.refl w3.heap.size w3).alloc (Nat.le_refl _) _).trans (hB4.mono (by simp))
        have HB4:=hide (HB3.out.trans (hB34.mono HB3.out.size))
        have HCB4:=hide ((hB34.block _ (blk_lt HCB3.out)).trans HCB3.out)
        have HRV4:=hide (HRV3.out.below hB34)
        clear hash haw hB4 hB34 gs
        simp only [decide_true]
        have cC:=hide (clone_any _ l w4 HRV4.out HLN.out)
        go_wp2_with fail
        refine cC.out.mono ?_
        rintro e w5 ⟨v5,rfl,hB5,hv5⟩
        have hB:=HB4.out.trans (hB5.mono HB4.out.size)
        have HB5:=hide hB
        have hcb5:=(hB5.block _ (blk_lt HCB4.out)).trans HCB4.out
        have a1:=blk_cell hcb5 (conC_at (k:Int) V C).2.1
        have f1:w5.frozen? ⟨cb,1,none⟩=false:=blk_frozen hcb5
        have HV5:=hide (own_low hv5 HB4.out.size)
        obtain ⟨q5,k5,rfl⟩:=own_form hv5
        clear hB hB5 hv5 hcb5 cC
        go_wp2_with fail
        refine bodyPost_ret (v:=.tuple #[]) (by simp [results,Tryz.results59]) rfl ?_
        refine ⟨rfl,Or.inr ⟨s,o,l,F,wr,w5,.slice q5 l.length k5,?_,HRI.out.inv,(HB1.out.wide (fun _ _ e=>Or.inr e)).trans HRI.out.but (fun _ _ e=>Or.inl e),fun b hb=>(HRI.out.new b hb).imp (fun e=>e) (fun e=>Nat.le_trans HS1.out e),HB5.out,HV5.out,rfl⟩⟩
        have:=HRI.out.pl
        rw [readS_short step shutO HDEC.out] at this
        rw [this,List.append_nil]
      | false =>
        simp only [Bool.false_eq_true,if_false] at HEV
        refine (is_any aw ash ca2 ca ta2 ta (en+1) ev _ HEV.out (by rw [Below.heap_alloc _ _ _ (blk_lt haw)];exact haw) (by rw [Below.heap_alloc _ _ _ (blk_lt hash)];exact hash)).mono ?_
        rintro e w4 ⟨rfl,hB4⟩
        have hB34:Below w3.heap.size w3 w4:=((Below.refl w3.heap.size w3).alloc (Nat.le_refl _) _).trans (hB4.mono (by simp))
        have HB4:=hide (HB3.out.trans (hB34.mono HB3.out.size))
        have hne:decide (aw=ash)=false:=decide_eq_false (fun e=>G3.out.errs.ne e.symm)
        rw [hne]
        obtain ⟨tx,vx,rfl⟩:=nest_iface HEV.out
        have hnn:=neq_iface tx vx
        have cX:=hide (HKT.out.cut s o l F w4 ((HKT.out.fit _ _ _).below HRI.out.inv HB4.out) HDEC.out (own_below4 HWX.out HB4.out))
        clear hash haw hB4 hB34 gs hne
        go_wp2_with fail
        refine cX.out.mono ?_
        rintro e w5 ⟨rfl,hW5⟩
        obtain ⟨F5,i1,i2,i3⟩:=hW5.after HB4.out
        have HX:Hid (Ens (o ++ [shutO]) F5 w5∧But F wr w5∧∀ b,F5 b→F b∨wr.heap.size≤b):=⟨i1,i2,i3⟩
        clear i1 i2 i3 hW5 cX
        go_wp2_with fail
        refine bodyPost_ret (v:=.tuple #[]) (by simp [results,Tryz.results59]) rfl ?_
        refine ⟨rfl,Or.inl ⟨s,o ++ [shutO],F5,?_,HX.out.1,((HB1.out.wide (fun _ _ e=>Or.inr e)).trans HRI.out.but (fun _ _ e=>Or.inl e)).trans HX.out.2.1 (fun x hx e=>?_),fun b hb=>?_⟩⟩
        · have:=HRI.out.pl
          rw [readS_wrong step shutO HDEC.out] at this
          rw [this]
        · exact (HRI.out.new x e).elim Or.inl (fun e=>by have:=HS1.out;omega)
        · exact (HX.out.2.2 b hb).elim (fun e=>(HRI.out.new b e).imp (fun e=>e) (fun e=>Nat.le_trans HS1.out e)) (fun e=>Or.inr (Nat.le_trans HS1.out (Nat.le_trans HRI.out.but.size e)))
    | inr qn =>
      obtain ⟨⟨p,fs,cs⟩,n⟩:=qn
      have HDEC:=hide hdec
      rw [hdec] at cD
      obtain ⟨K,hKl,hkind⟩:∃ K:Nat,K < 15∧p.kind=(K:Int):=⟨p.kind.toNat,by have:=(cu.dec_ok hdec).kind;omega,by have:=(cu.dec_ok hdec).kind;omega⟩
      have hnl:=(cu.dec_len hdec).2
      rcases hr2 with ⟨hnil,_⟩ | ⟨gb,off,cap,rfl,hr3,hr4,hr5,hr6,hr7⟩
      · rw [hnil] at hdec;simp [decL] at hdec
      have HRD:=hide (RestW.drop hr3 hr4 hr5 hr6 hr7 hnl)
      clear hdec hr5 hr6 hr7
      unfold maxLen at hr4
      rcases (show cap=n∨cap≠n by omega) with rfl | hcap
      all_goals
       first
       | rw [if_pos rfl,show l.length - cap=0 by omega,Nat.sub_self] at HRD
       | rw [if_neg hcap] at HRD
       go_wp2_with fail
       refine cD.out.mono ?_
       rintro e w3 ⟨hB3,fv,cv,rfl,hfv,hcv⟩
       have HFV:=hide hfv
       have HCV:=hide hcv
       obtain ⟨qf,kf,rfl⟩:=own_form hfv
       obtain ⟨qc,kc,rfl⟩:=own_form hcv
       simp only [pkCells,hkind]
       have G3:=hide (G2.out.below (hB3.mono G2.out.env.size))
       have hB23:=HB2.out.trans (hB3.mono HB2.out.size)
       have HB3:=hide hB23
       have HCB3:=hide ((hB3.block _ (blk_lt HCB2.out)).trans HCB2.out)
       have gs:=G3.out.errs.short
       have hgs:=cell_blt gs
       simp only at hgs
       clear hB3 hB23 hfv hcv cD
       go_wp2_with fail
       refine (is_nil ash _).mono ?_
       rintro e w4 ⟨rfl,hB4⟩
       have hB34:Below w3.heap.size w3 w4:=((Below.refl w3.heap.size w3).alloc (Nat.le_refl _) _).trans (hB4.mono (by simp))
       have hpb:w4.heap[w3.heap.size]?=some (.cells #[.int .i64 (K:Int),.bool p.clean,.bool p.will,.int .i64 p.keep,.string (bs p.client),.bool p.present,.int .i64 p.code,.bool p.dup,.int .i64 p.qos,.bool p.retain,.string (bs p.topic),.string (bs p.payload),.int .i64 p.id,.slice qf fs.length kf,.slice qc cs.length kc] 36):=by rw [hB4.block _ (by simp)];exact heap_alloc_new _ _
       have HCB4:=hide ((hB34.block _ (blk_lt HCB3.out)).trans HCB3.out)
       have hB04:=HB3.out.trans (hB34.mono HB3.out.size)
       have HB4:=hide hB04
       have HFV4:=hide (own_below4 HFV.out hB34)
       have HCV4:=hide (own_below4 HCV.out hB34)
       have b12:w4.cell? ⟨B,12,none⟩=some (.int .i64 0):=by rw [← hb2];exact blk_cell ((hB04.block _ hltB).trans HBB.out) rfl
       have a17:=blk_cell HCB4.out (conC_at (k:Int) V C).2.2.1
       have f17:w4.frozen? ⟨cb,17,none⟩=false:=blk_frozen HCB4.out
       have hS5:=below_same HCB4.out (conC_same (k:Int) V C HCH.out)
       have hsz5:(w4.setCell ⟨cb,17,none⟩ (.int .i64 0)).heap.size=w4.heap.size:=by simp [World.setCell]
       obtain ⟨k0,k1,k2,k3,k4,k5,k6,k7,k8,k9,k10,k11,k12,k13,k14⟩:=cells15 ((hS5.block _ (blk_lt hpb)).trans hpb)
       have hB05:=HB4.out.trans (hS5.mono HB4.out.size)
       have hB25:Below wr.heap.size wr (w4.setCell ⟨cb,17,none⟩ (.int .i64 0)).drew:=hB05.drew
       obtain ⟨K',f,cps,_,hkk,hfn,hcf,cH0⟩:=HKT.out.hand s o l F wr p fs cs _ HRI.out.inv HDEC.out (w4.setCell ⟨cb,17,none⟩ (.int .i64 0)).drew (.slice qf fs.length kf) (.slice qc cs.length kc) hB25 (own_low (own_below4 HFV4.out hS5.drew) HB2.out.size) (own_low (own_below4 HCV4.out hS5.drew) HB2.out.size) (own_below4 HWX.out hB25)
       obtain rfl:K'=K:=by omega
       have hfn':(w4.setCell ⟨cb,17,none⟩ (.int .i64 0)).cell? ⟨cb,2+K',none⟩=some (.func (.func f) #[] cps):=hfn
       have cH:=hide cH0
       simp only [pkCells,hkind] at cH
       have hKi:(K':Int) < 15:=by omega
       have hs34:w3.heap.size < (w4.setCell ⟨cb,17,none⟩ (.int .i64 0)).heap.size:=by rw [hsz5];exact blk_lt hpb
       have hlc5:cb < (w4.setCell ⟨cb,17,none⟩ (.int .i64 0)).heap.size:=by rw [hsz5];exact blk_lt HCB4.out
       have HB5:=hide hB25
       clear hB4 hB34 hpb gs hS5 hB04 hB05 hB25 cH0 hsz5 hfn
       go_wp2_with fail
       generalize w4.setCell ⟨cb,17,none⟩ (.int .i64 0)=w5 at *
       go_region_with (
        refine cH.out.mono ?_
        rintro e w6 ⟨rfl,hpo⟩
        have HPO:=hide hpo
        clear hpo)
       all_goals
        obtain ⟨gg,hg1,hg2⟩:=HRI.out.next HDEC.out HB5.out HRD.out HPO.out
        have HG1:=hide hg1
        have HG2:=hide hg2
        clear hg1 hg2
        go_wp2_with fail
        go_roundg gg
        case measure=>exact HG1.out
        case rel=>exact HG2.out
  · obtain ⟨⟨BV,ov,hb0,hb1⟩,V,C,hc0⟩:=HKT.out.shut _ _ _ hE.ens
    have a0:=blk_cell hc0 (conC_at (k:Int) V C).1
    have HEE:=hide hE
    clear hE hc0
    go_wp2_with fail
    refine (isOpen_any B k BV ov none wr hb0 hk hb1).mono ?_
    rintro e w2 ⟨rfl,hB2⟩
    have HB2:=hide hB2
    clear hB2
    simp only [Option.isSome_none]
    go_wp2_with fail
    go_end0
    exact ⟨rfl,Or.inl ⟨s,o,F,HEE.out.pl,(HKT.out.fitE _).below HEE.out.ens HB2.out,((HB1.out.wide (fun _ _ e=>Or.inr e)).trans HEE.out.but (fun _ _ e=>Or.inl e)).trans (But.of_below (F:=fun _=>False) HB2.out) (fun _ _ f=>f.elim),fun b hb=>(HEE.out.new b hb).imp (fun e=>e) (fun e=>Nat.le_trans HS1.out e)⟩⟩
end br
end Go.Proofs.YtnmfmoimjkoieaaGreatDoor
