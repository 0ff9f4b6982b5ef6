import Derived.Test.YtnmfmoimjkoieaaGreatDoorF12
namespace Go.Proofs.YtnmfmoimjkoieaaGreatDoor
namespace rd
open Go.RowKit topPlain topWalks decPlain
set_option maxHeartbeats 6400000 in
set_option maxRecDepth 100000 in
theorem decode_ok1b (ash aw:Addr) (w:World) (x:UInt8) (r:List UInt8) (v:Value) (p:Pkt) (n k:Nat) (q:Pkt) (fs:List (List UInt8×Int)) (cs:List Int) (hl:r.length≤1099511627776) (hv:BytesV w.heap.size w v (x :: r)) (hE:Errs ash aw w) (hF:firstL (x.toNat / 16) (x.toNat % 16)=some p) (hL:lenL r=some (some (n,k))) (hn:k+n≤r.length) (hk:k=1) (hEnv:Env aw w.heap.size w) (hB:bodyS p ((r.drop k).take n)=some (q,fs,cs)) (hcc:∀ b off cap,v=.slice (some ⟨b,off,none⟩) (r.length+1) cap→¬cap=2) :
 Calls Tryz.prog 55 #[v] w (DecPost ash aw w (.inr ((q,fs,cs),1+k+n))):=by
 have HV:=hide hv
 obtain ⟨b,off,cap,rfl,hc1,hc2,hb,hcell⟩:=hv
 have HC:=hide (hcc b off cap (by simp))
 clear hcc
 have cx:=hcell 0 x rfl
 rw [Nat.add_zero] at cx
 have hxl:=x.toNat_lt
 have lt:∀ o,(w.alloc o).cell? ⟨b,off,none⟩=some (.int .u8 (x.toNat:Int)):=fun o=>by rw [alloc_keep (topWalks.cell_lt cx)];exact cx
 have cF:=hide fun w1 h=>readFirst_any ash aw w1 x.toNat (by omega) h
 rw [hF] at cF
 have hF0:=hF
 have HE:=hide hE
 obtain ⟨hn1,hk1,hk2,hk3⟩:=lenL_le hL
 have cL:=hide fun w1 v1 hv1 h1=>readLength_any ash aw w1 r v1 hl hv1 h1
 have hT:BytesV w.heap.size w (.slice (if cap=1 then some ⟨b,off,none⟩ else some ⟨b,off+1,none⟩) r.length (cap - 1)) r:=by
  have:=BytesV.tail (n:=1) (by simp) hc1 hc2 hb hcell
  simpa using this
 have HT:=hide hT
 have hP:BytesV w.heap.size w (.slice (if cap=k+1 then some ⟨b,off,none⟩ else some ⟨b,off+(k+1),none⟩) n (cap - (k+1))) ((r.drop k).take n):=by
  have:=BytesV.part (m:=k+1) (n:=n) (l:=x :: r) (by simp;omega) hc1 hc2 hb hcell
  simpa using this
 have HP:=hide hP
 have hfc:=firstL_kind hF0
 have cB:=hide fun W v hv hE=>readBody_any aw W p ((r.drop k).take n) v (by rw [List.length_take];omega) hv hE hfc.2.2.1 hfc.2.2.2 hfc.1 hfc.2.1
 rw [hB] at cB
 have HEN:=hide hEnv
 clear hB hEnv hP
 simp only [List.length_cons] at hc1 ⊢
 unfold maxLen at hc2
 clear hE hF hcell hT
 obtain ⟨kind,clean,will,keep,client,present,code,dup,qos,retain,topic,payload,id,fv,cv⟩:=p
 obtain ⟨_,_,rfl,rfl⟩:=hfc
 clear hF0
 have hcap:¬cap=1:=by omega
 go_enter Tryz.func55,Tryz.ntmps55
 go_wp2_with fail
 have HE1:=hide (HE.out.below ((Below.refl _ _).alloc (Nat.le_refl _) (.cells (pkCells zeroP) 36)))
 refine (unhide cF _ HE1.out).mono ?_
 rintro e w2 ⟨hb2,rfl⟩
 have hz2:w2.heap[w.heap.size]?=some (.cells (pkCells zeroP) 36):=by rw [hb2.block _ (by simp)];exact heap1 _ _
 have hsz2:w.heap.size < w2.heap.size:=Nat.lt_of_lt_of_le (by simp) hb2.size
 have HB2:=hide (((Below.refl _ _).alloc (Nat.le_refl _) _).trans (hb2.mono (by simp)))
 have HE2:=hide (HE1.out.below hb2)
 have HZ2:=hide hz2
 clear hb2 hz2
 simp only [pkCells]
 go_wp2_with fail
 have HB3:∀ o,Below w.heap.size w (w2.alloc o):=fun o=>HB2.out.alloc (by omega) o
 refine (unhide cL _ _ ?_ (HE2.out.below ((Below.refl _ _).alloc (Nat.le_refl _) _))).mono ?_
 · have h:=HT.out
   rw [if_neg hcap] at h
   exact (h.below (Nat.le_refl _) (HB3 _)).more (by simp;omega)
 rintro e w4 ⟨hb4,hR4⟩
 rw [hL] at hR4
 obtain rfl:=hR4
 have hz4:w4.heap[w.heap.size]?=some (.cells (pkCells zeroP) 36):=by rw [hb4.block _ (by simp;omega),Below.heap_alloc _ _ _ hsz2];exact HZ2.out
 have HB4:=hide ((HB3 _).trans (hb4.mono (by simp;omega)))
 have hs4:=(HE2.out.below ((Below.refl _ _).alloc (Nat.le_refl _) _) |>.below hb4).short
 obtain ⟨z0,z1,z2,z3,z4,z5,z6,z7,z8,z9,z10,z11,z12,z13,z14⟩:=zero_cells hz4
 obtain ⟨y0,y1,y2,y3,y4,y5,y6,y7,y8,y9,y10,y11,y12,y13,y14⟩:=zero_thawed hz4
 have hsz4:w.heap.size < w4.heap.size:=topWalks.cell_lt z0
 have hp4:w4.heap[w2.heap.size]?=some (.cells (pkCells ⟨kind,clean,will,keep,client,present,code,dup,qos,retain,topic,payload,id,.slice none 0 0,.slice none 0 0⟩) 36):=by rw [hb4.block _ (by simp)];exact heap1 _ _
 obtain ⟨p0,p1,p2,p3,p4,p5,p6,p7,p8,p9,p10,p11,p12,p13,p14⟩:=pk_cells hp4
 simp only at p0 p1 p2 p3 p4 p5 p6 p7 p8 p9 p10 p11 p12 p13 p14
 have HZ4:=hide hz4
 have HP4:=hide hp4
 have hps4:w2.heap.size < w4.heap.size:=topWalks.cell_lt p0
 clear hb4 hz4 HB3 hp4
 clear z0 z1 z2 z3 z4 z5 z6 z7 z8 z9 z10 z11 z12 z13 z14 y0 y1 y2 y3 y4 y5 y6 y7 y8 y9 y10 y11 y12 y13 y14
 have HBB:=hide (HP.out.below (Nat.le_refl _) HB4.out.drew)
 have HENB:=hide (HEN.out.below HB4.out.drew)
 go_wp2
 clear cL cF HV HT HP HEN HE HE1 HE2 hL lt cx
 subst hk
 have hc:=HC.out
 clear HC
 go_region_with (
  refine (unhide cB _ _ ?b1 ?b2).mono ?_
  case b1 =>
   have h:=HBB.out
   rw [if_neg hc] at h
   exact h.more (by show _≤w4.heap.size;omega)
  case b2 =>
   have h:=HENB.out
   exact ⟨by have:=h.low;show _≤w4.heap.size;omega,Nat.le_refl _,h.err,h.inv⟩
  rintro e w5 ⟨hb5,fv,cv,rfl,hO1,hO2⟩
  have HB5:=hide (HB4.out.drew.trans (hb5.mono (by show _≤w4.heap.size;omega)))
  have hz5:w5.heap[w.heap.size]?=some (.cells (pkCells zeroP) 36):=by rw [hb5.block _ (by show _ < w4.heap.size;omega)];exact HZ4.out
  have hp5:=hb5.block w2.heap.size (by show _ < w4.heap.size;omega)
  rw [show w4.drew.heap[w2.heap.size]?=_ from HP4.out] at hp5
  obtain ⟨q0,q1,q2,q3,q4,q5,q6,q7,q8,q9,q10,q11,q12,q13,q14⟩:=pk_cells hp5
  obtain ⟨y0,y1,y2,y3,y4,y5,y6,y7,y8,y9,y10,y11,y12,y13,y14⟩:=pk_thawed hp5
  simp only at q0 q1 q2 q3 q4 q5 q6 q7 q8 q9 q10 q11 q12 q13 q14
  have HI5:=hide (pk_some hp5)
  have HO1:=hide hO1
  have HZ5:=hide hz5
  have hs5:w.heap.size < w5.heap.size:=Nat.lt_of_lt_of_le hsz4 hb5.size
  have HO2:=hide hO2
  obtain ⟨pf,nf,cf,rfl⟩:=own_slice HO1.out
  obtain ⟨pc,nc,cc,rfl⟩:=own_slice HO2.out
  simp only [pkCells]
  clear hb5 hz5 hp5 hO1 hO2)
 all_goals
  clear cB HBB HENB HZ4 HP4 p0 p1 p2 p3 p4 p5 p6 p7 p8 p9 p10 p11 p12 p13 p14
  refine gen_world2 (w:=w5) (o:=some w2.heap.size) (F:=fun W=>∀ j (hj:j < 15),W.cell? ⟨w2.heap.size,0+j,none⟩=some (([.int .i64 q.kind,.bool q.clean,.bool q.will,.int .i64 q.keep,.string (bs q.client),.bool q.present,.int .i64 q.code,.bool q.dup,.int .i64 q.qos,.bool q.retain,.string (bs q.topic),.string (bs q.payload),.int .i64 q.id,.slice pf nf cf,.slice pc nc cc]:List Value)[j]'hj)) (P:=Exit.then _ _ _ _) ?_ ?_ ?_
  · repeat refine grown_trans ?_ (grown_set _ _ _ _)
    exact grown_refl _ _
  · exact World.cell?_setCells_in w2.heap.size [.int .i64 q.kind,.bool q.clean,.bool q.will,.int .i64 q.keep,.string (bs q.client),.bool q.present,.int .i64 q.code,.bool q.dup,.int .i64 q.qos,.bool q.retain,.string (bs q.topic),.string (bs q.payload),.int .i64 q.id,.slice pf nf cf,.slice pc nc cc] 0 w5 HI5.out
  intro w6 hg6 hF6
  have k0:w6.cell? ⟨w2.heap.size,0,none⟩=some (.int .i64 q.kind):=hF6 0 (by decide)
  have k1:w6.cell? ⟨w2.heap.size,1,none⟩=some (.bool q.clean):=hF6 1 (by decide)
  have k2:w6.cell? ⟨w2.heap.size,2,none⟩=some (.bool q.will):=hF6 2 (by decide)
  have k3:w6.cell? ⟨w2.heap.size,3,none⟩=some (.int .i64 q.keep):=hF6 3 (by decide)
  have k4:w6.cell? ⟨w2.heap.size,4,none⟩=some (.string (bs q.client)):=hF6 4 (by decide)
  have k5:w6.cell? ⟨w2.heap.size,5,none⟩=some (.bool q.present):=hF6 5 (by decide)
  have k6:w6.cell? ⟨w2.heap.size,6,none⟩=some (.int .i64 q.code):=hF6 6 (by decide)
  have k7:w6.cell? ⟨w2.heap.size,7,none⟩=some (.bool q.dup):=hF6 7 (by decide)
  have k8:w6.cell? ⟨w2.heap.size,8,none⟩=some (.int .i64 q.qos):=hF6 8 (by decide)
  have k9:w6.cell? ⟨w2.heap.size,9,none⟩=some (.bool q.retain):=hF6 9 (by decide)
  have k10:w6.cell? ⟨w2.heap.size,10,none⟩=some (.string (bs q.topic)):=hF6 10 (by decide)
  have k11:w6.cell? ⟨w2.heap.size,11,none⟩=some (.string (bs q.payload)):=hF6 11 (by decide)
  have k12:w6.cell? ⟨w2.heap.size,12,none⟩=some (.int .i64 q.id):=hF6 12 (by decide)
  have k13:w6.cell? ⟨w2.heap.size,13,none⟩=some (.slice pf nf cf):=hF6 13 (by decide)
  have k14:w6.cell? ⟨w2.heap.size,14,none⟩=some (.slice pc nc cc):=hF6 14 (by decide)
  clear hF6
  clear q0 q1 q2 q3 q4 q5 q6 q7 q8 q9 q10 q11 q12 q13 q14 y0 y1 y2 y3 y4 y5 y6 y7 y8 y9 y10 y11 y12 y13 y14
  have hz6:w6.heap[w.heap.size]?=some (.cells (pkCells zeroP) 36):=by rw [hg6.block _ hs5 (by simp;omega)];exact HZ5.out
  have HB6:=hide (HB5.out.trans (below_grown hg6 (by omega) (by omega)))
  have HO3:=hide (own_keep HO1.out (show _ < w4.heap.size by omega) hg6)
  have HO4:=hide (own_keep HO2.out (show _ < w4.heap.size by omega) hg6)
  obtain ⟨z0,z1,z2,z3,z4,z5,z6,z7,z8,z9,z10,z11,z12,z13,z14⟩:=zero_cells hz6
  obtain ⟨y0,y1,y2,y3,y4,y5,y6,y7,y8,y9,y10,y11,y12,y13,y14⟩:=zero_thawed hz6
  have hsz6:w.heap.size < w6.heap.size:=topWalks.cell_lt z0
  have HZ:=hide (World.cell?_setCells_in w.heap.size [.int .i64 q.kind,.bool q.clean,.bool q.will,.int .i64 q.keep,.string (bs q.client),.bool q.present,.int .i64 q.code,.bool q.dup,.int .i64 q.qos,.bool q.retain,.string (bs q.topic),.string (bs q.payload),.int .i64 q.id,.slice pf nf cf,.slice pc nc cc] 0 w6 (fun j hj=>zero_some hz6 j hj))
  clear hg6 hz6
  generalize Value.agg #[.int .i64 kind,.bool clean,.bool will,.int .i64 keep,.string (bs client),.bool present,.int .i64 code,.bool dup,.int .i64 qos,.bool retain,.string (bs topic),.string (bs payload),.int .i64 id,.slice none 0 0,.slice none 0 0]=A0
  generalize Value.slice (some ⟨b,off,none⟩) (r.length+1) cap=S0
  generalize Value.slice (some ⟨b,off+1,none⟩) r.length (cap - 1)=S1
  generalize Value.slice (some ⟨b,off+2,none⟩) n (cap - 2)=S2
  generalize hE0:Value.int .i64 (2+(n:Int))=E0
  have HE0:=hide hE0
  clear hE0
  generalize Value.int .i64 (n:Int)=N0
  generalize Value.int .i64 ((r.length:Int)+1)=L0
  generalize Value.int .u8 (x.toNat:Int)=X0
  go_wp2_with fail
  refine bodyPost_ret (results_dec _ _ w.heap.size _ _ _ _ _ _ _ _ _ _ _ _ _ _ _ rfl (HZ.out 0 (show 0 < 15 by decide)) (HZ.out 1 (show 1 < 15 by decide)) (HZ.out 2 (show 2 < 15 by decide)) (HZ.out 3 (show 3 < 15 by decide)) (HZ.out 4 (show 4 < 15 by decide)) (HZ.out 5 (show 5 < 15 by decide)) (HZ.out 6 (show 6 < 15 by decide)) (HZ.out 7 (show 7 < 15 by decide)) (HZ.out 8 (show 8 < 15 by decide)) (HZ.out 9 (show 9 < 15 by decide)) (HZ.out 10 (show 10 < 15 by decide)) (HZ.out 11 (show 11 < 15 by decide)) (HZ.out 12 (show 12 < 15 by decide)) (HZ.out 13 (show 13 < 15 by decide)) (HZ.out 14 (show 14 < 15 by decide))) rfl ?_
  have hgf:∀ V:Value,V=.int .i64 ((1+1+n:Nat):Int)→∀ w7,w6.grownBy w7 (some w.heap.size)→DecPost ash aw w (.inr ((q,fs,cs),1+1+n)) (.returned (.tuple #[.agg (pkCells { q with fv:=.slice pf nf cf,cv:=.slice pc nc cc }),V,.nilIface])) w7:=fun V hm w7 hg=>by
   subst hm
   exact ⟨HB6.out.trans (below_grown hg (Nat.le_refl _) (by omega)),_,_,rfl,own_less (own_keep HO3.out (show _ < w4.heap.size by omega) hg) (show _≤w4.heap.size by omega),own_less (own_keep HO4.out (show _ < w4.heap.size by omega) hg) (show _≤w4.heap.size by omega)⟩
  refine hgf _ (HE0.out.symm.trans (congrArg (Value.int .i64) (by omega))) _ ?_
  repeat refine grown_trans ?_ (grown_set _ _ _ _)
  exact grown_refl _ _
set_option maxHeartbeats 6400000 in
set_option maxRecDepth 100000 in
theorem decode_ok2b (ash aw:Addr) (w:World) (x:UInt8) (r:List UInt8) (v:Value) (p:Pkt) (n k:Nat) (q:Pkt) (fs:List (List UInt8×Int)) (cs:List Int) (hl:r.length≤1099511627776) (hv:BytesV w.heap.size w v (x :: r)) (hE:Errs ash aw w) (hF:firstL (x.toNat / 16) (x.toNat % 16)=some p) (hL:lenL r=some (some (n,k))) (hn:k+n≤r.length) (hk:k=2) (hEnv:Env aw w.heap.size w) (hB:bodyS p ((r.drop k).take n)=some (q,fs,cs)) (hcc:∀ b off cap,v=.slice (some ⟨b,off,none⟩) (r.length+1) cap→¬cap=3) :
 Calls Tryz.prog 55 #[v] w (DecPost ash aw w (.inr ((q,fs,cs),1+k+n))):=by
 have HV:=hide hv
 obtain ⟨b,off,cap,rfl,hc1,hc2,hb,hcell⟩:=hv
 have HC:=hide (hcc b off cap (by simp))
 clear hcc
 have cx:=hcell 0 x rfl
 rw [Nat.add_zero] at cx
 have hxl:=x.toNat_lt
 have lt:∀ o,(w.alloc o).cell? ⟨b,off,none⟩=some (.int .u8 (x.toNat:Int)):=fun o=>by rw [alloc_keep (topWalks.cell_lt cx)];exact cx
 have cF:=hide fun w1 h=>readFirst_any ash aw w1 x.toNat (by omega) h
 rw [hF] at cF
 have hF0:=hF
 have HE:=hide hE
 obtain ⟨hn1,hk1,hk2,hk3⟩:=lenL_le hL
 have cL:=hide fun w1 v1 hv1 h1=>readLength_any ash aw w1 r v1 hl hv1 h1
 have hT:BytesV w.heap.size w (.slice (if cap=1 then some ⟨b,off,none⟩ else some ⟨b,off+1,none⟩) r.length (cap - 1)) r:=by
  have:=BytesV.tail (n:=1) (by simp) hc1 hc2 hb hcell
  simpa using this
 have HT:=hide hT
 have hP:BytesV w.heap.size w (.slice (if cap=k+1 then some ⟨b,off,none⟩ else some ⟨b,off+(k+1),none⟩) n (cap - (k+1))) ((r.drop k).take n):=by
  have:=BytesV.part (m:=k+1) (n:=n) (l:=x :: r) (by simp;omega) hc1 hc2 hb hcell
  simpa using this
 have HP:=hide hP
 have hfc:=firstL_kind hF0
 have cB:=hide fun W v hv hE=>readBody_any aw W p ((r.drop k).take n) v (by rw [List.length_take];omega) hv hE hfc.2.2.1 hfc.2.2.2 hfc.1 hfc.2.1
 rw [hB] at cB
 have HEN:=hide hEnv
 clear hB hEnv hP
 simp only [List.length_cons] at hc1 ⊢
 unfold maxLen at hc2
 clear hE hF hcell hT
 obtain ⟨kind,clean,will,keep,client,present,code,dup,qos,retain,topic,payload,id,fv,cv⟩:=p
 obtain ⟨_,_,rfl,rfl⟩:=hfc
 clear hF0
 have hcap:¬cap=1:=by omega
 go_enter Tryz.func55,Tryz.ntmps55
 go_wp2_with fail
 have HE1:=hide (HE.out.below ((Below.refl _ _).alloc (Nat.le_refl _) (.cells (pkCells zeroP) 36)))
 refine (unhide cF _ HE1.out).mono ?_
 rintro e w2 ⟨hb2,rfl⟩
 have hz2:w2.heap[w.heap.size]?=some (.cells (pkCells zeroP) 36):=by rw [hb2.block _ (by simp)];exact heap1 _ _
 have hsz2:w.heap.size < w2.heap.size:=Nat.lt_of_lt_of_le (by simp) hb2.size
 have HB2:=hide (((Below.refl _ _).alloc (Nat.le_refl _) _).trans (hb2.mono (by simp)))
 have HE2:=hide (HE1.out.below hb2)
 have HZ2:=hide hz2
 clear hb2 hz2
 simp only [pkCells]
 go_wp2_with fail
 have HB3:∀ o,Below w.heap.size w (w2.alloc o):=fun o=>HB2.out.alloc (by omega) o
 refine (unhide cL _ _ ?_ (HE2.out.below ((Below.refl _ _).alloc (Nat.le_refl _) _))).mono ?_
 · have h:=HT.out
   rw [if_neg hcap] at h
   exact (h.below (Nat.le_refl _) (HB3 _)).more (by simp;omega)
 rintro e w4 ⟨hb4,hR4⟩
 rw [hL] at hR4
 obtain rfl:=hR4
 have hz4:w4.heap[w.heap.size]?=some (.cells (pkCells zeroP) 36):=by rw [hb4.block _ (by simp;omega),Below.heap_alloc _ _ _ hsz2];exact HZ2.out
 have HB4:=hide ((HB3 _).trans (hb4.mono (by simp;omega)))
 have hs4:=(HE2.out.below ((Below.refl _ _).alloc (Nat.le_refl _) _) |>.below hb4).short
 obtain ⟨z0,z1,z2,z3,z4,z5,z6,z7,z8,z9,z10,z11,z12,z13,z14⟩:=zero_cells hz4
 obtain ⟨y0,y1,y2,y3,y4,y5,y6,y7,y8,y9,y10,y11,y12,y13,y14⟩:=zero_thawed hz4
 have hsz4:w.heap.size < w4.heap.size:=topWalks.cell_lt z0
 have hp4:w4.heap[w2.heap.size]?=some (.cells (pkCells ⟨kind,clean,will,keep,client,present,code,dup,qos,retain,topic,payload,id,.slice none 0 0,.slice none 0 0⟩) 36):=by rw [hb4.block _ (by simp)];exact heap1 _ _
 obtain ⟨p0,p1,p2,p3,p4,p5,p6,p7,p8,p9,p10,p11,p12,p13,p14⟩:=pk_cells hp4
 simp only at p0 p1 p2 p3 p4 p5 p6 p7 p8 p9 p10 p11 p12 p13 p14
 have HZ4:=hide hz4
 have HP4:=hide hp4
 have hps4:w2.heap.size < w4.heap.size:=topWalks.cell_lt p0
 clear hb4 hz4 HB3 hp4
 clear z0 z1 z2 z3 z4 z5 z6 z7 z8 z9 z10 z11 z12 z13 z14 y0 y1 y2 y3 y4 y5 y6 y7 y8 y9 y10 y11 y12 y13 y14
 have HBB:=hide (HP.out.below (Nat.le_refl _) HB4.out.drew)
 have HENB:=hide (HEN.out.below HB4.out.drew)
 go_wp2
 clear cL cF HV HT HP HEN HE HE1 HE2 hL lt cx
 subst hk
 have hc:=HC.out
 clear HC
 go_region_with (
  refine (unhide cB _ _ ?b1 ?b2).mono ?_
  case b1 =>
   have h:=HBB.out
   rw [if_neg hc] at h
   exact h.more (by show _≤w4.heap.size;omega)
  case b2 =>
   have h:=HENB.out
   exact ⟨by have:=h.low;show _≤w4.heap.size;omega,Nat.le_refl _,h.err,h.inv⟩
  rintro e w5 ⟨hb5,fv,cv,rfl,hO1,hO2⟩
  have HB5:=hide (HB4.out.drew.trans (hb5.mono (by show _≤w4.heap.size;omega)))
  have hz5:w5.heap[w.heap.size]?=some (.cells (pkCells zeroP) 36):=by rw [hb5.block _ (by show _ < w4.heap.size;omega)];exact HZ4.out
  have hp5:=hb5.block w2.heap.size (by show _ < w4.heap.size;omega)
  rw [show w4.drew.heap[w2.heap.size]?=_ from HP4.out] at hp5
  obtain ⟨q0,q1,q2,q3,q4,q5,q6,q7,q8,q9,q10,q11,q12,q13,q14⟩:=pk_cells hp5
  obtain ⟨y0,y1,y2,y3,y4,y5,y6,y7,y8,y9,y10,y11,y12,y13,y14⟩:=pk_thawed hp5
  simp only at q0 q1 q2 q3 q4 q5 q6 q7 q8 q9 q10 q11 q12 q13 q14
  have HI5:=hide (pk_some hp5)
  have HO1:=hide hO1
  have HZ5:=hide hz5
  have hs5:w.heap.size < w5.heap.size:=Nat.lt_of_lt_of_le hsz4 hb5.size
  have HO2:=hide hO2
  obtain ⟨pf,nf,cf,rfl⟩:=own_slice HO1.out
  obtain ⟨pc,nc,cc,rfl⟩:=own_slice HO2.out
  simp only [pkCells]
  clear hb5 hz5 hp5 hO1 hO2)
 all_goals
  clear cB HBB HENB HZ4 HP4 p0 p1 p2 p3 p4 p5 p6 p7 p8 p9 p10 p11 p12 p13 p14
  refine gen_world2 (w:=w5) (o:=some w2.heap.size) (F:=fun W=>∀ j (hj:j < 15),W.cell? ⟨w2.heap.size,0+j,none⟩=some (([.int .i64 q.kind,.bool q.clean,.bool q.will,.int .i64 q.keep,.string (bs q.client),.bool q.present,.int .i64 q.code,.bool q.dup,.int .i64 q.qos,.bool q.retain,.string (bs q.topic),.string (bs q.payload),.int .i64 q.id,.slice pf nf cf,.slice pc nc cc]:List Value)[j]'hj)) (P:=Exit.then _ _ _ _) ?_ ?_ ?_
  · repeat refine grown_trans ?_ (grown_set _ _ _ _)
    exact grown_refl _ _
  · exact World.cell?_setCells_in w2.heap.size [.int .i64 q.kind,.bool q.clean,.bool q.will,.int .i64 q.keep,.string (bs q.client),.bool q.present,.int .i64 q.code,.bool q.dup,.int .i64 q.qos,.bool q.retain,.string (bs q.topic),.string (bs q.payload),.int .i64 q.id,.slice pf nf cf,.slice pc nc cc] 0 w5 HI5.out
  intro w6 hg6 hF6
  have k0:w6.cell? ⟨w2.heap.size,0,none⟩=some (.int .i64 q.kind):=hF6 0 (by decide)
  have k1:w6.cell? ⟨w2.heap.size,1,none⟩=some (.bool q.clean):=hF6 1 (by decide)
  have k2:w6.cell? ⟨w2.heap.size,2,none⟩=some (.bool q.will):=hF6 2 (by decide)
  have k3:w6.cell? ⟨w2.heap.size,3,none⟩=some (.int .i64 q.keep):=hF6 3 (by decide)
  have k4:w6.cell? ⟨w2.heap.size,4,none⟩=some (.string (bs q.client)):=hF6 4 (by decide)
  have k5:w6.cell? ⟨w2.heap.size,5,none⟩=some (.bool q.present):=hF6 5 (by decide)
  have k6:w6.cell? ⟨w2.heap.size,6,none⟩=some (.int .i64 q.code):=hF6 6 (by decide)
  have k7:w6.cell? ⟨w2.heap.size,7,none⟩=some (.bool q.dup):=hF6 7 (by decide)
  have k8:w6.cell? ⟨w2.heap.size,8,none⟩=some (.int .i64 q.qos):=hF6 8 (by decide)
  have k9:w6.cell? ⟨w2.heap.size,9,none⟩=some (.bool q.retain):=hF6 9 (by decide)
  have k10:w6.cell? ⟨w2.heap.size,10,none⟩=some (.string (bs q.topic)):=hF6 10 (by decide)
  have k11:w6.cell? ⟨w2.heap.size,11,none⟩=some (.string (bs q.payload)):=hF6 11 (by decide)
  have k12:w6.cell? ⟨w2.heap.size,12,none⟩=some (.int .i64 q.id):=hF6 12 (by decide)
  have k13:w6.cell? ⟨w2.heap.size,13,none⟩=some (.slice pf nf cf):=hF6 13 (by decide)
  have k14:w6.cell? ⟨w2.heap.size,14,none⟩=some (.slice pc nc cc):=hF6 14 (by decide)
  clear hF6
  clear q0 q1 q2 q3 q4 q5 q6 q7 q8 q9 q10 q11 q12 q13 q14 y0 y1 y2 y3 y4 y5 y6 y7 y8 y9 y10 y11 y12 y13 y14
  have hz6:w6.heap[w.heap.size]?=some (.cells (pkCells zeroP) 36):=by rw [hg6.block _ hs5 (by simp;omega)];exact HZ5.out
  have HB6:=hide (HB5.out.trans (below_grown hg6 (by omega) (by omega)))
  have HO3:=hide (own_keep HO1.out (show _ < w4.heap.size by omega) hg6)
  have HO4:=hide (own_keep HO2.out (show _ < w4.heap.size by omega) hg6)
  obtain ⟨z0,z1,z2,z3,z4,z5,z6,z7,z8,z9,z10,z11,z12,z13,z14⟩:=zero_cells hz6
  obtain ⟨y0,y1,y2,y3,y4,y5,y6,y7,y8,y9,y10,y11,y12,y13,y14⟩:=zero_thawed hz6
  have hsz6:w.heap.size < w6.heap.size:=topWalks.cell_lt z0
  have HZ:=hide (World.cell?_setCells_in w.heap.size [.int .i64 q.kind,.bool q.clean,.bool q.will,.int .i64 q.keep,.string (bs q.client),.bool q.present,.int .i64 q.code,.bool q.dup,.int .i64 q.qos,.bool q.retain,.string (bs q.topic),.string (bs q.payload),.int .i64 q.id,.slice pf nf cf,.slice pc nc cc] 0 w6 (fun j hj=>zero_some hz6 j hj))
  clear hg6 hz6
  generalize Value.agg #[.int .i64 kind,.bool clean,.bool will,.int .i64 keep,.string (bs client),.bool present,.int .i64 code,.bool dup,.int .i64 qos,.bool retain,.string (bs topic),.string (bs payload),.int .i64 id,.slice none 0 0,.slice none 0 0]=A0
  generalize Value.slice (some ⟨b,off,none⟩) (r.length+1) cap=S0
  generalize Value.slice (some ⟨b,off+1,none⟩) r.length (cap - 1)=S1
  generalize Value.slice (some ⟨b,off+3,none⟩) n (cap - 3)=S2
  generalize hE0:Value.int .i64 (3+(n:Int))=E0
  have HE0:=hide hE0
  clear hE0
  generalize Value.int .i64 (n:Int)=N0
  generalize Value.int .i64 ((r.length:Int)+1)=L0
  generalize Value.int .u8 (x.toNat:Int)=X0
  go_wp2_with fail
  refine bodyPost_ret (results_dec _ _ w.heap.size _ _ _ _ _ _ _ _ _ _ _ _ _ _ _ rfl (HZ.out 0 (show 0 < 15 by decide)) (HZ.out 1 (show 1 < 15 by decide)) (HZ.out 2 (show 2 < 15 by decide)) (HZ.out 3 (show 3 < 15 by decide)) (HZ.out 4 (show 4 < 15 by decide)) (HZ.out 5 (show 5 < 15 by decide)) (HZ.out 6 (show 6 < 15 by decide)) (HZ.out 7 (show 7 < 15 by decide)) (HZ.out 8 (show 8 < 15 by decide)) (HZ.out 9 (show 9 < 15 by decide)) (HZ.out 10 (show 10 < 15 by decide)) (HZ.out 11 (show 11 < 15 by decide)) (HZ.out 12 (show 12 < 15 by decide)) (HZ.out 13 (show 13 < 15 by decide)) (HZ.out 14 (show 14 < 15 by decide))) rfl ?_
  have hgf:∀ V:Value,V=.int .i64 ((1+2+n:Nat):Int)→∀ w7,w6.grownBy w7 (some w.heap.size)→DecPost ash aw w (.inr ((q,fs,cs),1+2+n)) (.returned (.tuple #[.agg (pkCells { q with fv:=.slice pf nf cf,cv:=.slice pc nc cc }),V,.nilIface])) w7:=fun V hm w7 hg=>by
   subst hm
   exact ⟨HB6.out.trans (below_grown hg (Nat.le_refl _) (by omega)),_,_,rfl,own_less (own_keep HO3.out (show _ < w4.heap.size by omega) hg) (show _≤w4.heap.size by omega),own_less (own_keep HO4.out (show _ < w4.heap.size by omega) hg) (show _≤w4.heap.size by omega)⟩
  refine hgf _ (HE0.out.symm.trans (congrArg (Value.int .i64) (by omega))) _ ?_
  repeat refine grown_trans ?_ (grown_set _ _ _ _)
  exact grown_refl _ _
end rd
end Go.Proofs.YtnmfmoimjkoieaaGreatDoor
