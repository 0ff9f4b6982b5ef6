import Derived.Test.YtnmfmoimjkoieaaGreatDoorF37
import Derived.Lib.Bytealg
import Derived.Test.YtnmfmoimjkoieaaGreatDoorF39
namespace Go.Proofs.YtnmfmoimjkoieaaGreatDoor
namespace br
open Go.RowKit topPlain topWalks decPlain
set_option maxRecDepth 100000 in
theorem cmpString_any (a b:ByteArray) (w:World):Calls Tryz.prog 244 #[.string a,.string b] w fun e w'=>e=.returned (.int .i64 (Lib.compareBytes a.data.toList b.data.toList))∧w'=w:=by
 go_enter Tryz.func244,Tryz.ntmps244
 go_wp2
 rw [run_callFunc_extern Tryz.func265 (by kernel_rfl) (by kernel_rfl) (by kernel_rfl) (e:=Extern.BytealgCompare.compare) (by kernel_rfl),Lib.run_compareString]
 simp only [Result.andThen]
 rw [Oper.upon_value]
 go_wp2
 go_ret
 exact ⟨rfl,rfl⟩
theorem sCompare_any (a b:ByteArray) (w:World):Calls Tryz.prog 222 #[.string a,.string b] w fun e w'=>e=.returned (.int .i64 (Lib.compareBytes a.data.toList b.data.toList))∧w'=w:=by
 go_enter Tryz.func222,Tryz.ntmps222
 go_wp2_with fail
 refine (cmpString_any _ _ _).mono ?_
 rintro e w' ⟨rfl,rfl⟩
 go_wp2
 go_ret
 exact ⟨rfl,rfl⟩
def cmpT (m:Msg) (t:List UInt8):Int:=Lib.compareBytes m.topic t
theorem compareTopic_any (m:Msg) (t:List UInt8) (w:World) :
 Calls Tryz.prog 188 #[.agg #[.string (bs m.topic),.string (bs m.payload),.int .i64 m.qos,.bool m.retain],.string (bs t)] w fun e w'=>e=.returned (.int .i64 (cmpT m t))∧Below w.heap.size w w':=by
 go_enter Tryz.func188,Tryz.ntmps188
 go_wp2_with fail
 refine (sCompare_any _ _ _).mono ?_
 rintro e w' ⟨rfl,rfl⟩
 go_wp2
 go_ret
 exact ⟨rfl,(Below.refl _ _).alloc (Nat.le_refl _) _⟩
def binF (R:List Msg) (t:List UInt8):Nat→Nat→Nat→Nat
 | 0,i,_=>i
 | f+1,i,j=>if i < j then (match R[(i+j) / 2]? with
   | some m=>if cmpT m t < 0 then binF R t f ((i+j) / 2+1) j else binF R t f i ((i+j) / 2)
   | none=>i) else i
def binS (R:List Msg) (t:List UInt8):Nat:=binF R t R.length 0 R.length
def binB (R:List Msg) (t:List UInt8):Bool:=match R[binS R t]? with
 | some m=>cmpT m t == 0
 | none=>false
theorem binF_end {R:List Msg} {t:List UInt8} {f i j:Nat} (h:¬ i < j):binF R t f i j=i:=by
 cases f with
 | zero=>rfl
 | succ f=>unfold binF;rw [if_neg h]
theorem binF_lt {R:List Msg} {t:List UInt8} {f i j:Nat} {m:Msg} (h:i < j) (hm:R[(i+j) / 2]?=some m) (hc:cmpT m t < 0):binF R t (f+1) i j=binF R t f ((i+j) / 2+1) j:=by
 rw [binF,if_pos h,hm]
 simp [hc]
theorem binF_ge {R:List Msg} {t:List UInt8} {f i j:Nat} {m:Msg} (h:i < j) (hm:R[(i+j) / 2]?=some m) (hc:¬ cmpT m t < 0):binF R t (f+1) i j=binF R t f i ((i+j) / 2):=by
 rw [binF,if_pos h,hm]
 simp [hc]
set_option maxHeartbeats 1600000 in
set_option maxRecDepth 100000 in
theorem bsMsg_any (v:Value) (R:List Msg) (t:List UInt8) (w:World) (hv:w.ownsRow 0 206 4 v R.length (R.flatMap msgC)) (hl:R.length≤1000) :
 Calls Tryz.prog 187 #[v,.string (bs t),.func (.func 188) #[] #[]] w fun e w'=>e=.returned (.tuple #[.int .i64 (binS R t:Nat),.bool (binB R t)])∧Below w.heap.size w w':=by
 obtain ⟨q,kap,rfl⟩:=own_form hv
 have HV:=hide hv
 have HF:=hide fun m w=>compareTopic_any m t w
 clear hv
 go_enter Tryz.func187,Tryz.ntmps187
 go_wp2_with fail
 go_loopw [9,10] (fun iv jv wx=>∃ (i j f:Nat),i≤j∧j≤R.length∧iv=.int .i64 i∧jv=.int .i64 j∧j - i≤f∧binF R t f i j=binS R t∧Below w.heap.size w wx) (fun iv jv _=>(intOf jv).toNat - (intOf iv).toNat)
 case atStart=>exact ⟨0,R.length,R.length,Nat.zero_le _,Nat.le_refl _,rfl,rfl,by omega,rfl,Below.refl _ _⟩
 case round =>
  obtain ⟨i,j,f,hij,hj,rfl,rfl,hf,hbin,hB⟩:=hrel
  have HB:=hide hB
  have HBI:=hide hbin
  clear hB hbin
  by_cases hlt:i < j
  · obtain ⟨m,hm⟩:∃ m,R[(i+j) / 2]?=some m:=⟨_,List.getElem?_eq_getElem (by omega)⟩
    obtain ⟨g,rfl,hg,hkc,hcm,_⟩:=own_at HV.out (by omega)
    unfold maxLen at hcm
    have hh:(i+j) / 2 < R.length:=by omega
    generalize hhe:(i+j) / 2=h at *
    have h0:wr.cell? ⟨g,h*4,none⟩=some (.string (bs m.topic)):=msg_cell (wr:=wr) HV.out (by omega) hm (HB.out.block _ hg) 0 (by omega) rfl
    have h1:wr.cell? ⟨g,h*4+1,none⟩=some (.string (bs m.payload)):=msg_cell (wr:=wr) HV.out (by omega) hm (HB.out.block _ hg) 1 (by omega) rfl
    have h2:wr.cell? ⟨g,h*4+2,none⟩=some (.int .i64 m.qos):=msg_cell (wr:=wr) HV.out (by omega) hm (HB.out.block _ hg) 2 (by omega) rfl
    have h3:wr.cell? ⟨g,h*4+3,none⟩=some (.bool m.retain):=msg_cell (wr:=wr) HV.out (by omega) hm (HB.out.block _ hg) 3 (by omega) rfl
    have HMM:=hide hm
    clear hm
    go_wp2_with fail
    refine (HF.out m wr).mono ?_
    rintro e w1 ⟨rfl,hB1⟩
    have HB1:=hide (HB.out.trans (hB1.mono HB.out.size))
    clear hB1
    obtain ⟨f,rfl⟩:∃ f',f=f'+1:=⟨f - 1,by omega⟩
    have hm2:R[(i+j) / 2]?=some m:=by rw [hhe];exact HMM.out
    by_cases hc:cmpT m t < 0
    · have e1:=binF_lt (f:=f) hlt hm2 hc
      rw [hhe,HBI.out] at e1
      have E1:=hide e1
      have hcc:decide (cmpT m t < 0)=true:=by simp [hc]
      generalize cmpT m t=c at *
      clear e1 hm2
      go_wp2
      go_roundw
      case rel=>exact ⟨h+1,j,f,by omega,hj,by go_num,rfl,by omega,E1.out.symm,HB1.out⟩
      case measure=>simp [intOf];omega
    · have e1:=binF_ge (f:=f) hlt hm2 hc
      rw [hhe,HBI.out] at e1
      have E1:=hide e1
      generalize cmpT m t=c at *
      clear e1 hm2
      go_wp2
      go_roundw
      case rel=>exact ⟨i,h,f,by omega,by omega,rfl,by go_num,by omega,E1.out.symm,HB1.out⟩
      case measure=>simp [intOf];omega
  · have hbi:i=binS R t:=by rw [← HBI.out,binF_end hlt]
    have HBS:=hide hbi
    by_cases hin:i < R.length
    · obtain ⟨m,hm⟩:∃ m,R[i]?=some m:=⟨_,List.getElem?_eq_getElem hin⟩
      obtain ⟨g,rfl,hg,hkc,hcm,_⟩:=own_at HV.out (by omega)
      unfold maxLen at hcm
      have h0:wr.cell? ⟨g,i*4,none⟩=some (.string (bs m.topic)):=msg_cell (wr:=wr) HV.out (by omega) hm (HB.out.block _ hg) 0 (by omega) rfl
      have h1:wr.cell? ⟨g,i*4+1,none⟩=some (.string (bs m.payload)):=msg_cell (wr:=wr) HV.out (by omega) hm (HB.out.block _ hg) 1 (by omega) rfl
      have h2:wr.cell? ⟨g,i*4+2,none⟩=some (.int .i64 m.qos):=msg_cell (wr:=wr) HV.out (by omega) hm (HB.out.block _ hg) 2 (by omega) rfl
      have h3:wr.cell? ⟨g,i*4+3,none⟩=some (.bool m.retain):=msg_cell (wr:=wr) HV.out (by omega) hm (HB.out.block _ hg) 3 (by omega) rfl
      have HMM:=hide hm
      clear hm hbi
      go_wp2_with fail
      refine (HF.out m wr).mono ?_
      rintro e w1 ⟨rfl,hB1⟩
      have HB1:=hide (HB.out.trans (hB1.mono HB.out.size))
      clear hB1
      have hbb:binB R t=(cmpT m t == 0):=by unfold binB;rw [← HBS.out,HMM.out]
      have HBB:=hide hbb
      clear hbb
      go_wp2
      go_ret2
      rw [HBB.out,← HBS.out]
      exact ⟨rfl,HB1.out⟩
    · have hbb:binB R t=false:=by unfold binB;rw [← hbi,List.getElem?_eq_none (by omega)]
      have HBB:=hide hbb
      clear hbb hbi
      go_wp2
      go_ret2
      rw [HBB.out,← HBS.out]
      exact ⟨rfl,HB.out⟩
theorem binF_le (R:List Msg) (t:List UInt8):∀ (f i j:Nat),i≤j→binF R t f i j≤j
 | 0,i,j,h=>h
 | f+1,i,j,h=>by
   unfold binF
   by_cases hlt:i < j
   · rw [if_pos hlt]
     split
     · split
       · exact binF_le R t f _ _ (by omega)
       · exact Nat.le_trans (binF_le R t f _ _ (by omega)) (by omega)
     · exact h
   · rw [if_neg hlt];exact h
theorem binS_le (R:List Msg) (t:List UInt8):binS R t≤R.length:=binF_le R t _ _ _ (Nat.zero_le _)
theorem binB_lt {R:List Msg} {t:List UInt8} (h:binB R t=true):binS R t < R.length:=by
 unfold binB at h
 split at h
 · rename_i m hm;exact (List.getElem?_eq_some_iff.1 hm).1
 · cases h
theorem bs_isE (l:List UInt8):(bs l).toList.isEmpty=l.isEmpty:=by
 rw [ByteArray.toList_eq,data_bs]
def keepS (R:List Msg) (m:Msg):List Msg:=
 if m.payload = [] then (if binB R m.topic then R.eraseIdx (binS R m.topic) else R)
 else if binB R m.topic then R.set (binS R m.topic) m
 else if R.length < 8 then R.take (binS R m.topic) ++ [m] ++ R.drop (binS R m.topic) else R
theorem set_row (R:List Msg) (i:Nat) (m:Msg) (hi:i < R.length):(R.flatMap msgC).take (i*4) ++ msgC m ++ (R.flatMap msgC).drop (i*4+(msgC m).length)=(R.set i m).flatMap msgC:=by
 rw [List.set_eq_take_append_cons_drop,if_pos hi,fl_take msgC_len,msgC_len,show i*4+4=(i+1)*4 by omega,fl_drop msgC_len]
 simp [List.flatMap_append]
structure KeepPost (B:Nat) (BV:BrV) (ov:Value) (R':List Msg) (w w':World) (v':Value):Prop where
 blk:w'.heap[B]?=some (.cells (brC { BV with rv:=v' } ov) 131)
 but:But (fun b=>b=B∨BV.rv.ownBlock=some b) w w'
 own:w'.ownsRow 0 206 4 v' R'.length (R'.flatMap msgC)
 loc:v'.ownBlock=BV.rv.ownBlock∨∃ b,v'.ownBlock=some b∧w.heap.size≤b
set_option maxHeartbeats 1600000 in
set_option maxRecDepth 100000 in
theorem keep_del (B:Nat) (BV:BrV) (ov:Value) (R:List Msg) (m:Msg) (w:World) (hB:w.heap[B]?=some (.cells (brC BV ov) 131)) (hv:w.ownsRow 0 206 4 BV.rv R.length (R.flatMap msgC)) (hl:R.length≤1000) (hp:m.payload = []) :
 Calls Tryz.prog 141 #[.pointer (some ⟨B,11,none⟩),msgV m] w fun e w'=>e=.returned (.tuple #[])∧∃ v',KeepPost B BV ov (keepS R m) w w' v':=by
 obtain ⟨t,pl,qs,rt⟩:=m
 simp only at hp
 subst hp
 have hc:w.cell? ⟨B,11,none⟩=some BV.rv:=blk_cell hB rfl
 have hlt:=blk_lt hB
 obtain ⟨q,kap,hq⟩:=own_form hv
 have hn0:=heap_alloc_new w (.cells #[.string (bs t),.string (bs []),.int .i64 qs,.bool rt] 206)
 have hA0:=(Below.refl w.heap.size w).alloc (Nat.le_refl _) (.cells #[.string (bs t),.string (bs []),.int .i64 qs,.bool rt] 206)
 unfold msgV
 go_enter Tryz.func141,Tryz.ntmps141
 go_wp2_with fail
 generalize w.alloc (.cells #[.string (bs t),.string (bs []),.int .i64 qs,.bool rt] 206)=W0 at *
 have hcW:=(hA0.cell (p:=⟨B,11,none⟩) hlt).trans hc
 have d0:W0.cell? ⟨w.heap.size,0,none⟩=some (.string (bs t)):=blk_cell hn0 rfl
 have hB0:=(hA0.block _ hlt).trans hB
 have hlt0:=blk_lt hB0
 have hn0l:=blk_lt hn0
 have hvW:=own_below4 hv hA0
 have cS:=hide (bsMsg_any BV.rv R t W0.drew hvW hl)
 rw [hq] at hcW
 have HQ:=hide hq
 rw [hq] at cS
 have HN0:=hide hn0
 have HA0:=hide hA0
 have HV:=hide hv
 have HB:=hide hB
 clear hc hn0 hA0 hB0 hvW hv hB hq
 go_region_with (
  refine cS.out.mono ?_
  rintro e w1 ⟨rfl,hB1⟩
  have HB1:=hide hB1
  clear hB1)
 all_goals
  have hB9:Below w.heap.size w w1:=HA0.out.drew.trans (HB1.out.mono HA0.out.size)
  have hBk:=(hB9.block _ hlt).trans HB.out
  have hNk:=(HB1.out.block _ hn0l).trans HN0.out
  have d1:w1.cell? ⟨w.heap.size,1,none⟩=some (.string (bs [])):=blk_cell hNk rfl
  have c1:w1.cell? ⟨B,11,none⟩=some BV.rv:=blk_cell hBk rfl
  have f1:w1.frozen? ⟨B,11,none⟩=false:=blk_frozen hBk
  have hl1:=blk_lt hBk
  have hl2:=blk_lt hNk
  have hbe:(bs []).toList.isEmpty=true:=bs_isE []
  have hO1:=own_below4 HV.out hB9
  have HB9:=hide hB9
  have HBK:=hide hBk
  have HO1:=hide hO1
  rw [HQ.out] at c1
  clear hBk hNk hO1 hB9 d0 hcW cS HB1
  cases hF:binB R t with
  | false =>
    have hks:keepS R ⟨t,[],qs,rt⟩=R:=by simp [keepS,hF]
    have HKS:=hide hks
    clear hks hF
    go_wp2
    go_end0
    rw [HKS.out]
    exact ⟨rfl,BV.rv,HBK.out,But.of_below HB9.out,HO1.out,Or.inl rfl⟩
  | true =>
    have hks:keepS R ⟨t,[],qs,rt⟩=R.eraseIdx (binS R t):=by simp [keepS,hF]
    have hil:=binB_lt hF
    have HKS:=hide hks
    clear hks hF
    generalize binS R t=i at *
    have cD:=hide (delMsg_any BV.rv R i (i+1) w1 HO1.out hil rfl)
    have hcast:((i+1:Nat):Int)=(i:Int)+1:=by omega
    rw [hcast,HQ.out] at cD
    go_wp2_with fail
    refine cD.out.mono ?_
    rintro e w2 ⟨v',rfl,hbut,hloc,how⟩
    rw [← HQ.out] at hbut hloc
    have hnB:¬ (BV.rv.ownBlock=some B):=fun e=>by obtain ⟨cur,hcur⟩:=own_blk HO1.out e;have:=HBK.out;rw [hcur] at this;simp at this
    have hB2:=hbut.blk hnB HBK.out
    have c2:w2.cell? ⟨B,11,none⟩=some BV.rv:=blk_cell hB2 rfl
    have f2:w2.frozen? ⟨B,11,none⟩=false:=blk_frozen hB2
    have hl3:=blk_lt hB2
    obtain ⟨q2,k2,hq2⟩:=own_form how
    rw [HQ.out] at c2
    have HOW:=hide how
    have HLO:=hide hloc
    have HBU:=hide hbut
    have HB2:=hide hB2
    have HQ2:=hide hq2
    have HNB:=hide hnB
    clear how hloc hbut hB2 cD c1 f1 hnB
    subst hq2
    go_wp2
    go_end0
    rw [HKS.out]
    refine ⟨rfl,_,blk_set _ HB2.out,((But.of_below HB9.out).trans HBU.out (fun _ _ e=>Or.inr e)).trans (But.set (F:=fun b=>b=B∨BV.rv.ownBlock=some b) w2 ⟨B,11,none⟩ _ (Or.inl rfl)) (fun _ _ e=>e),own_keep HOW.out (fun b hb=>?_),Or.inl HLO.out⟩
    exact Below.heap_setCell _ _ _ _ (fun e=>HNB.out (by rw [← HLO.out,hb];exact congrArg some e))
set_option maxHeartbeats 1600000 in
set_option maxRecDepth 100000 in
theorem keep_put (B:Nat) (BV:BrV) (ov:Value) (R:List Msg) (m:Msg) (w:World) (hB:w.heap[B]?=some (.cells (brC BV ov) 131)) (hv:w.ownsRow 0 206 4 BV.rv R.length (R.flatMap msgC)) (hl:R.length≤1000) (hp:m.payload≠[]) :
 Calls Tryz.prog 141 #[.pointer (some ⟨B,11,none⟩),msgV m] w fun e w'=>e=.returned (.tuple #[])∧∃ v',KeepPost B BV ov (keepS R m) w w' v':=by
 obtain ⟨t,pl,qs,rt⟩:=m
 simp only at hp
 have hbe:(bs pl).toList.isEmpty=false:=by rw [bs_isE];cases pl with | nil=>exact (hp rfl).elim | cons _ _=>rfl
 have hc:w.cell? ⟨B,11,none⟩=some BV.rv:=blk_cell hB rfl
 have hlt:=blk_lt hB
 obtain ⟨q,kap,hq⟩:=own_form hv
 have hn0:=heap_alloc_new w (.cells #[.string (bs t),.string (bs pl),.int .i64 qs,.bool rt] 206)
 have hA0:=(Below.refl w.heap.size w).alloc (Nat.le_refl _) (.cells #[.string (bs t),.string (bs pl),.int .i64 qs,.bool rt] 206)
 unfold msgV
 go_enter Tryz.func141,Tryz.ntmps141
 go_wp2_with fail
 generalize w.alloc (.cells #[.string (bs t),.string (bs pl),.int .i64 qs,.bool rt] 206)=W0 at *
 have hcW:=(hA0.cell (p:=⟨B,11,none⟩) hlt).trans hc
 have d0:W0.cell? ⟨w.heap.size,0,none⟩=some (.string (bs t)):=blk_cell hn0 rfl
 have hB0:=(hA0.block _ hlt).trans hB
 have hlt0:=blk_lt hB0
 have hn0l:=blk_lt hn0
 have hvW:=own_below4 hv hA0
 have cS:=hide (bsMsg_any BV.rv R t W0.drew hvW hl)
 rw [hq] at hcW
 have HQ:=hide hq
 rw [hq] at cS
 have HN0:=hide hn0
 have HA0:=hide hA0
 have HV:=hide hv
 have HB:=hide hB
 clear hc hn0 hA0 hB0 hvW hv hB hq
 go_region_with (
  refine cS.out.mono ?_
  rintro e w1 ⟨rfl,hB1⟩
  have HB1:=hide hB1
  clear hB1)
 all_goals
  have hB9:Below w.heap.size w w1:=HA0.out.drew.trans (HB1.out.mono HA0.out.size)
  have hBk:=(hB9.block _ hlt).trans HB.out
  have hNk:=(HB1.out.block _ hn0l).trans HN0.out
  have d1:w1.cell? ⟨w.heap.size,1,none⟩=some (.string (bs pl)):=blk_cell hNk rfl
  have d2:w1.cell? ⟨w.heap.size,2,none⟩=some (.int .i64 qs):=blk_cell hNk rfl
  have d3:w1.cell? ⟨w.heap.size,3,none⟩=some (.bool rt):=blk_cell hNk rfl
  have d00:w1.cell? ⟨w.heap.size,0,none⟩=some (.string (bs t)):=blk_cell hNk rfl
  have c1:w1.cell? ⟨B,11,none⟩=some BV.rv:=blk_cell hBk rfl
  have f1:w1.frozen? ⟨B,11,none⟩=false:=blk_frozen hBk
  have hl1:=blk_lt hBk
  have hl2:=blk_lt hNk
  have hbe2:=hbe
  have hO1:=own_below4 HV.out hB9
  have HB9:=hide hB9
  have HBK:=hide hBk
  have HO1:=hide hO1
  rw [HQ.out] at c1
  clear hBk hNk hO1 hB9 d0 hcW cS HB1
  cases hF:binB R t with
  | true =>
    have hks:keepS R ⟨t,pl,qs,rt⟩=R.set (binS R t) ⟨t,pl,qs,rt⟩:=by simp [keepS,hF,hp]
    have hil:=binB_lt hF
    have HKS:=hide hks
    clear hks hF
    generalize binS R t=i at *
    obtain ⟨g,rfl,hg,hkc,hcm,_⟩:=own_at (by rw [← HQ.out];exact HO1.out) (show 0 < R.length by omega)
    unfold maxLen at hcm
    obtain ⟨m0,hm0⟩:∃ m0,R[i]?=some m0:=⟨_,List.getElem?_eq_getElem hil⟩
    have HO1':=HO1.out
    rw [HQ.out] at HO1'
    have e0:w1.cell? ⟨g,i*4,none⟩=some (.string (bs m0.topic)):=msg_cell (wr:=w1) HO1' (by omega) hm0 rfl 0 (by omega) rfl
    have e1:w1.cell? ⟨g,i*4+1,none⟩=some (.string (bs m0.payload)):=msg_cell (wr:=w1) HO1' (by omega) hm0 rfl 1 (by omega) rfl
    have e2:w1.cell? ⟨g,i*4+2,none⟩=some (.int .i64 m0.qos):=msg_cell (wr:=w1) HO1' (by omega) hm0 rfl 2 (by omega) rfl
    have e3:w1.cell? ⟨g,i*4+3,none⟩=some (.bool m0.retain):=msg_cell (wr:=w1) HO1' (by omega) hm0 rfl 3 (by omega) rfl
    obtain ⟨cur,hcur⟩:=own_blk HO1' (b:=g) rfl
    have q0:w1.frozen? ⟨g,i*4,none⟩=false:=blk_frozen hcur
    have q1:w1.frozen? ⟨g,i*4+1,none⟩=false:=blk_frozen hcur
    have q2:w1.frozen? ⟨g,i*4+2,none⟩=false:=blk_frozen hcur
    have q3:w1.frozen? ⟨g,i*4+3,none⟩=false:=blk_frozen hcur
    have hgB:g≠B:=fun e=>by have:=HBK.out;rw [← e,hcur] at this;simp at this
    have hgl:=blk_lt hcur
    have HO2:=hide HO1'
    clear HO1' hm0 hcur
    go_wp2_with fail
    go_region
    all_goals
     go_wp2
     go_end0
     rw [HKS.out]
     have h9:=own_patch (o:=i*4) (vs:=msgC ⟨t,pl,qs,rt⟩) (show w1.drew.ownsRow 0 206 4 _ _ _ from HO2.out) (by rw [msgC_len];omega)
     rw [set_row R i ⟨t,pl,qs,rt⟩ hil] at h9
     have hb9:But (fun b=>b=g) w1 (w1.drew.setCells g (i*4) (msgC ⟨t,pl,qs,rt⟩)):=(But.of_below (Below.refl _ _).drew).trans (But.cells (F:=fun b=>b=g) rfl _ w1.drew _) (fun _ _ e=>e)
     refine ⟨rfl,BV.rv,hb9.blk (fun e=>hgB e.symm) HBK.out,(But.of_below HB9.out).trans hb9 (fun b _ e=>Or.inr (by rw [HQ.out,e];rfl)),?_,Or.inl rfl⟩
     rw [List.length_set,HQ.out]
     exact h9
  | false =>
    by_cases h8:R.length < 8
    · have hks:keepS R ⟨t,pl,qs,rt⟩=R.take (binS R t) ++ [⟨t,pl,qs,rt⟩] ++ R.drop (binS R t):=by simp [keepS,hF,hp,h8]
      have hil:=binS_le R t
      have HKS:=hide hks
      clear hks hF
      generalize binS R t=i at *
      have hAl:=(Below.refl w1.heap.size w1).drew.alloc (Nat.le_refl _) (.cells #[.string (bs t),.string (bs pl),.int .i64 qs,.bool rt] 206)
      have hvb:=heap_alloc_new w1.drew (.cells #[.string (bs t),.string (bs pl),.int .i64 qs,.bool rt] 206)
      have cI:=hide (ins_any BV.rv R i ⟨t,pl,qs,rt⟩ w1.heap.size _ (own_below4 HO1.out hAl) hl hil hvb (fun e=>by obtain ⟨cur,hc⟩:=own_blk HO1.out e;have:=blk_lt hc;omega))
      rw [HQ.out] at cI
      have HAL:=hide hAl
      have hnB:¬ (BV.rv.ownBlock=some B):=fun e=>by obtain ⟨cur,hcur⟩:=own_blk HO1.out e;have:=HBK.out;rw [hcur] at this;simp at this
      have HNB:=hide hnB
      clear hAl hvb hnB
      go_wp2_with fail
      go_region_with (
       refine cI.out.mono ?_
       rintro e w2 ⟨v',rfl,hbut,hloc,how⟩
       rw [← HQ.out] at hbut hloc
       rw [show (R.take i ++ [(⟨t,pl,qs,rt⟩:Msg)] ++ R.drop i).length=R.length+1 by simp;omega] at how
       have hB2:=hbut.blk HNB.out ((HAL.out.block _ hl1).trans HBK.out)
       have c2:w2.cell? ⟨B,11,none⟩=some BV.rv:=blk_cell hB2 rfl
       have f2:w2.frozen? ⟨B,11,none⟩=false:=blk_frozen hB2
       have hl3:=blk_lt hB2
       obtain ⟨q2,k2,hq2⟩:=own_form how
       rw [HQ.out] at c2
       have HOW:=hide how
       have HLO:=hide hloc
       have HBU:=hide hbut
       have HB2:=hide hB2
       clear how hloc hbut hB2 cI
       subst hq2)
      all_goals
       go_wp2
       go_end0
       rw [HKS.out]
       refine ⟨rfl,_,blk_set _ HB2.out,(((But.of_below HB9.out).trans (But.of_below (F:=fun _=>False) HAL.out) (fun _ _ f=>f.elim)).trans HBU.out (fun _ _ e=>Or.inr e)).trans (But.set (F:=fun b=>b=B∨BV.rv.ownBlock=some b) w2 ⟨B,11,none⟩ _ (Or.inl rfl)) (fun _ _ e=>e),?_,HLO.out.imp id (fun ⟨b,e1,e2⟩=>⟨b,e1,Nat.le_trans HB9.out.size (Nat.le_trans HAL.out.size e2)⟩)⟩
       rw [show (R.take i ++ [(⟨t,pl,qs,rt⟩:Msg)] ++ R.drop i).length=R.length+1 by simp;omega]
       refine own_keep HOW.out (fun b hb=>Below.heap_setCell _ _ _ _ (fun e=>?_))
       rcases HLO.out with h | ⟨b',h1,h2⟩
       · rw [h] at hb;exact HNB.out (hb.trans (congrArg some e))
       · rw [h1] at hb;cases hb;simp only at e;have:=HAL.out.size;omega
    · have hks:keepS R ⟨t,pl,qs,rt⟩=R:=by simp [keepS,hF,hp,h8]
      have HKS:=hide hks
      clear hks hF
      go_wp2
      go_end0
      rw [HKS.out]
      exact ⟨rfl,BV.rv,HBK.out,But.of_below HB9.out,HO1.out,Or.inl rfl⟩
theorem keep_any (B:Nat) (BV:BrV) (ov:Value) (R:List Msg) (m:Msg) (w:World) (hB:w.heap[B]?=some (.cells (brC BV ov) 131)) (hv:w.ownsRow 0 206 4 BV.rv R.length (R.flatMap msgC)) (hl:R.length≤1000) :
 Calls Tryz.prog 141 #[.pointer (some ⟨B,11,none⟩),msgV m] w fun e w'=>e=.returned (.tuple #[])∧∃ v',KeepPost B BV ov (keepS R m) w w' v':=by
 by_cases hp:m.payload = []
 · exact keep_del B BV ov R m w hB hv hl hp
 · exact keep_put B BV ov R m w hB hv hl hp
end br
end Go.Proofs.YtnmfmoimjkoieaaGreatDoor
