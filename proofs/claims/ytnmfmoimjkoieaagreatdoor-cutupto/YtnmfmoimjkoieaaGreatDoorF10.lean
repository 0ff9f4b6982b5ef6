import Derived.Test.YtnmfmoimjkoieaaGreatDoorF09
namespace Go.Proofs.YtnmfmoimjkoieaaGreatDoor
namespace rd
open Go.RowKit topPlain topWalks decPlain
def decL (l:List UInt8):Bool ⊕ ((Pkt×List (List UInt8×Int)×List Int)×Nat):=
 match l with
 | []=>.inl true
 | x :: r=>match firstL (x.toNat / 16) (x.toNat % 16) with
   | none=>.inl false
   | some p=>match lenL r with
     | none=>.inl true
     | some none=>.inl false
     | some (some (n,k))=>if r.length < k+n then .inl true else match bodyS p ((r.drop k).take n) with
       | none=>.inl false
       | some q=>.inr (q,1+k+n)
def DecPost (ash aw:Addr) (w:World) (R:Bool ⊕ ((Pkt×List (List UInt8×Int)×List Int)×Nat)) (e:Ending) (w':World):Prop:=
 Below w.heap.size w w'∧match R with
  | .inl s=>∃ v n,e=.returned (.tuple #[.agg (pkCells zeroP),.int .i64 0,v])∧Nest (if s then ash else aw) (n+1) v
  | .inr r=>∃ fv cv,e=.returned (.tuple #[.agg (pkCells { r.1.1 with fv:=fv,cv:=cv }),.int .i64 (r.2:Int),.nilIface])∧w'.ownsRow w.heap.size 95 2 fv r.1.2.1.length (filC r.1.2.1)∧w'.ownsRow w.heap.size 3 1 cv r.1.2.2.length (ints r.1.2.2)
theorem firstL_kind {k f:Nat} {p:Pkt} (h:firstL k f=some p):1≤p.kind∧p.kind≤14∧p.fv=.slice none 0 0∧p.cv=.slice none 0 0:=by
 unfold firstL at h
 split at h
 · cases h
 · split at h
   · split at h
     · cases h;exact ⟨by simp only;omega,by simp only;omega,rfl,rfl⟩
     · cases h
   · split at h
     · cases h
     · cases h;exact ⟨by simp only;omega,by simp only;omega,rfl,rfl⟩
theorem lenL_le {l:List UInt8} {n k:Nat} (h:lenL l=some (some (n,k))):n≤300∧1≤k∧k≤2∧k≤l.length:=by
 unfold lenL at h
 split at h
 · cases h
 · split at h
   · cases h;exact ⟨by omega,by omega,by omega,by simp⟩
   · split at h
     · cases h
     · split at h
       · cases h
       · cases h;exact ⟨by omega,by omega,by omega,by simp⟩
theorem BytesV.below {B:Nat} {w w':World} {v:Value} {l:List UInt8} (h:BytesV B w v l) (hB:B≤w.heap.size) (hb:Below w.heap.size w w'):BytesV B w' v l:=by
 obtain ⟨b,off,cap,h1,h2,h3,h4,h5⟩:=h
 exact ⟨b,off,cap,h1,h2,h3,h4,fun j x hx=>by rw [hb.cell (show (⟨b,off+j,none⟩:Addr).block < w.heap.size by simp;omega)];exact h5 j x hx⟩
theorem BytesV.more {B C:Nat} {w:World} {v:Value} {l:List UInt8} (h:BytesV B w v l) (hB:B≤C):BytesV C w v l:=by
 obtain ⟨b,off,cap,h1,h2,h3,h4,h5⟩:=h
 exact ⟨b,off,cap,h1,h2,h3,by omega,h5⟩
theorem heap1 (w:World) (o:Obj):(w.alloc o).heap[w.heap.size]?=some o:=by
 show (w.heap.push o)[w.heap.size]?=some o
 simp
set_option maxHeartbeats 3200000 in
set_option maxRecDepth 100000 in
theorem decode_nil (ash aw:Addr) (w:World) (q:Option Addr) (c:Nat) (hE:Errs ash aw w) :
 Calls Tryz.prog 55 #[.slice q 0 c] w (DecPost ash aw w (.inl true)):=by
 have hs:=hE.short
 have lt:∀ o,(w.alloc o).cell? ⟨1,0,none⟩=some (.iface 331 (.pointer (some ash))):=fun o=>by rw [alloc_keep (topWalks.cell_lt hs)];exact hs
 clear hE
 go_enter Tryz.func55,Tryz.ntmps55
 go_wp2
 go_region
 go_wp2
 refine bodyPost_ret (v:=.tuple #[.agg (pkCells zeroP),.int .i64 0,.iface 171 (.agg #[.string ⟨#[102,105,114,115,116,32,98,121,116,101]⟩,.iface 331 (.pointer (some ash))])]) (by simp [results,Tryz.results55,go_sem,pkCells,zeroP,bs]) rfl ?_
 exact ⟨((Below.refl _ _).alloc (Nat.le_refl _) _).drew,_,0,rfl,_,_,rfl,rfl⟩
set_option maxHeartbeats 800000 in
/-- packets.Decode's results, read off memory -/
theorem results_dec (X:World) (tmps:Array Value) (N:Nat) (v0 v1 v2 v3 v4 v5 v6 v7 v8 v9 v10 v11 v12 v13 v14:Value) (ht:tmps[2]?.getD undef=.pointer (some ⟨N,0,none⟩)) (h0:X.cell? ⟨N,0,none⟩=some v0) (h1:X.cell? ⟨N,1,none⟩=some v1) (h2:X.cell? ⟨N,2,none⟩=some v2) (h3:X.cell? ⟨N,3,none⟩=some v3) (h4:X.cell? ⟨N,4,none⟩=some v4) (h5:X.cell? ⟨N,5,none⟩=some v5) (h6:X.cell? ⟨N,6,none⟩=some v6) (h7:X.cell? ⟨N,7,none⟩=some v7) (h8:X.cell? ⟨N,8,none⟩=some v8) (h9:X.cell? ⟨N,9,none⟩=some v9) (h10:X.cell? ⟨N,10,none⟩=some v10) (h11:X.cell? ⟨N,11,none⟩=some v11) (h12:X.cell? ⟨N,12,none⟩=some v12) (h13:X.cell? ⟨N,13,none⟩=some v13) (h14:X.cell? ⟨N,14,none⟩=some v14) :
 (results Tryz.f55 tmps).run Tryz.prog X=.ok (.tuple #[.agg #[v0,v1,v2,v3,v4,v5,v6,v7,v8,v9,v10,v11,v12,v13,v14],tmps.getD 3 undef,tmps.getD 4 undef]) X:=by
 simp [results,Tryz.results55,go_sem,ht,h0,h1,h2,h3,h4,h5,h6,h7,h8,h9,h10,h11,h12,h13,h14]
def zeros:List Value:=[.int .i64 0,.bool false,.bool false,.int .i64 0,.string (bs []),.bool false,.int .i64 0,.bool false,.int .i64 0,.bool false,.string (bs []),.string (bs []),.int .i64 0,.slice none 0 0,.slice none 0 0]
theorem zero_some {w:World} {N:Nat} (h:w.heap[N]?=some (.cells (pkCells zeroP) 36)):∀ j,j < 15→(w.cell? ⟨N,0+j,none⟩).isSome=true:=by
 obtain ⟨z0,z1,z2,z3,z4,z5,z6,z7,z8,z9,z10,z11,z12,z13,z14⟩:=zero_cells h
 intro j hj
 rcases (by omega:j=0∨j=1∨j=2∨j=3∨j=4∨j=5∨j=6∨j=7∨j=8∨j=9∨j=10∨j=11∨j=12∨j=13∨j=14) with rfl | rfl | rfl | rfl | rfl | rfl | rfl | rfl | rfl | rfl | rfl | rfl | rfl | rfl | rfl
 · simp [z0]
 · simp [z1]
 · simp [z2]
 · simp [z3]
 · simp [z4]
 · simp [z5]
 · simp [z6]
 · simp [z7]
 · simp [z8]
 · simp [z9]
 · simp [z10]
 · simp [z11]
 · simp [z12]
 · simp [z13]
 · simp [z14]
theorem setCells_size (b:Nat):∀ (vs:List Value) (o:Nat) (w:World),(w.setCells b o vs).heap.size=w.heap.size
 | [],_,_=>rfl
 | v :: r,o,w=>by
   show ((w.setCell ⟨b,o,none⟩ v).setCells b (o+1) r).heap.size=_
   rw [setCells_size b r (o+1) _]
   simp [World.setCell]
theorem set_alloc {W:World} {N:Nat} (hN:N < W.heap.size) (hz:∀ j,j < 15→(W.cell? ⟨N,0+j,none⟩).isSome=true) (o:Obj) (vs:List Value) (hv:vs.length=15):∀ j (hj:j < vs.length),((W.setCells N 0 vs).alloc o).cell? ⟨N,0+j,none⟩=some (vs[j]'hj):=by
 intro j hj
 rw [alloc_keep (by rw [setCells_size];exact hN)]
 exact World.cell?_setCells_in N vs 0 W (fun j hj=>hz j (by omega)) j hj
set_option maxHeartbeats 3200000 in
set_option maxRecDepth 100000 in
theorem decode_first (ash aw:Addr) (w:World) (x:UInt8) (r:List UInt8) (v:Value) (hv:BytesV w.heap.size w v (x :: r)) (hE:Errs ash aw w) (hF:firstL (x.toNat / 16) (x.toNat % 16)=none) :
 Calls Tryz.prog 55 #[v] w (DecPost ash aw w (.inl false)):=by
 obtain ⟨b,off,cap,rfl,hc1,hc2,hb,hcell⟩:=hv
 have cx:=hcell 0 x rfl
 rw [Nat.add_zero] at cx
 have hxl:=x.toNat_lt
 have lt:∀ o,(w.alloc o).cell? ⟨b,off,none⟩=some (.int .u8 (x.toNat:Int)):=fun o=>by rw [alloc_keep (topWalks.cell_lt cx)];exact cx
 have cF:=hide fun w1 h=>readFirst_any ash aw w1 x.toNat (by omega) h
 rw [hF] at cF
 have HE:=hide hE
 simp only [List.length_cons] at hc1 ⊢
 clear hE hF hcell
 go_enter Tryz.func55,Tryz.ntmps55
 go_wp2_with fail
 have HE1:=hide (HE.out.below ((Below.refl _ _).alloc (Nat.le_refl _) (.cells (pkCells zeroP) 36)))
 refine (unhide cF _ HE1.out).mono ?_
 rintro e w2 ⟨hb2,v2,rfl,hn2⟩
 have hz2:w2.heap[w.heap.size]?=some (.cells (pkCells zeroP) 36):=by rw [hb2.block _ (by simp)];exact heap1 _ _
 have hsz2:w.heap.size < w2.heap.size:=Nat.lt_of_lt_of_le (by simp) hb2.size
 have HB2:=hide (((Below.refl _ _).alloc (Nat.le_refl _) _).trans (hb2.mono (by simp)))
 have HN2:=hide hn2
 obtain ⟨wh2,c2,rfl,_⟩:=hn2
 obtain ⟨z0,z1,z2,z3,z4,z5,z6,z7,z8,z9,z10,z11,z12,z13,z14⟩:=zero_cells hz2
 obtain ⟨y0,y1,y2,y3,y4,y5,y6,y7,y8,y9,y10,y11,y12,y13,y14⟩:=zero_thawed hz2
 have HZ:=hide fun o=>set_alloc hsz2 (zero_some hz2) o zeros rfl
 clear hb2 hz2
 simp only [pkCells,zeroP]
 go_wp2_with fail
 refine bodyPost_ret (results_dec _ _ w.heap.size _ _ _ _ _ _ _ _ _ _ _ _ _ _ _ rfl (HZ.out _ 0 (by decide)) (HZ.out _ 1 (by decide)) (HZ.out _ 2 (by decide)) (HZ.out _ 3 (by decide)) (HZ.out _ 4 (by decide)) (HZ.out _ 5 (by decide)) (HZ.out _ 6 (by decide)) (HZ.out _ 7 (by decide)) (HZ.out _ 8 (by decide)) (HZ.out _ 9 (by decide)) (HZ.out _ 10 (by decide)) (HZ.out _ 11 (by decide)) (HZ.out _ 12 (by decide)) (HZ.out _ 13 (by decide)) (HZ.out _ 14 (by decide))) rfl ?_
 have hgf:∀ w6,w2.grownBy w6 (some w.heap.size)→∀ o,DecPost ash aw w (.inl false) (.returned (.tuple #[.agg (pkCells zeroP),.int .i64 0,.iface 171 (.agg #[.string ⟨#[102,105,114,115,116,32,98,121,116,101]⟩,.iface 171 (.agg #[.string wh2,c2])])])) (w6.alloc o):=fun w6 hg o =>
  ⟨(HB2.out.trans (below_grown hg (Nat.le_refl _) (by omega))).alloc (by have:=hg.size;omega) o,_,1,rfl,_,_,rfl,HN2.out⟩
 refine hgf _ ?_ _
 repeat refine grown_trans ?_ (grown_set _ _ _ _)
 exact grown_refl _ _
set_option maxHeartbeats 3200000 in
set_option maxRecDepth 100000 in
theorem decode_len (ash aw:Addr) (w:World) (x:UInt8) (r:List UInt8) (v:Value) (s:Bool) (p:Pkt) (hl:r.length≤1099511627776) (hv:BytesV w.heap.size w v (x :: r)) (hE:Errs ash aw w) (hF:firstL (x.toNat / 16) (x.toNat % 16)=some p) (hL:lenL r=if s then none else some none) :
 Calls Tryz.prog 55 #[v] w (DecPost ash aw w (.inl s)):=by
 have HV:=hide hv
 obtain ⟨b,off,cap,rfl,hc1,hc2,hb,hcell⟩:=hv
 have cx:=hcell 0 x rfl
 rw [Nat.add_zero] at cx
 have hxl:=x.toNat_lt
 have lt:∀ o,(w.alloc o).cell? ⟨b,off,none⟩=some (.int .u8 (x.toNat:Int)):=fun o=>by rw [alloc_keep (topWalks.cell_lt cx)];exact cx
 have cF:=hide fun w1 h=>readFirst_any ash aw w1 x.toNat (by omega) h
 rw [hF] at cF
 have hF0:=hF
 have HE:=hide hE
 have cL:=hide fun w1 v1 hv1 h1=>readLength_any ash aw w1 r v1 hl hv1 h1
 have hT:BytesV w.heap.size w (.slice (if cap=1 then some ⟨b,off,none⟩ else some ⟨b,off+1,none⟩) r.length (cap - 1)) r:=by
  have:=BytesV.tail (n:=1) (by simp) hc1 hc2 hb hcell
  simpa using this
 have HT:=hide hT
 simp only [List.length_cons] at hc1 ⊢
 unfold maxLen at hc2
 clear hE hF hcell hT
 have hfc:=firstL_kind hF0
 obtain ⟨kind,clean,will,keep,client,present,code,dup,qos,retain,topic,payload,id,fv,cv⟩:=p
 obtain ⟨_,_,rfl,rfl⟩:=hfc
 clear hF0
 by_cases hcap:cap=1
 all_goals
  go_enter Tryz.func55,Tryz.ntmps55
  go_wp2_with fail
  have HE1:=hide (HE.out.below ((Below.refl _ _).alloc (Nat.le_refl _) (.cells (pkCells zeroP) 36)))
  refine (unhide cF _ HE1.out).mono ?_
  rintro e w2 ⟨hb2,rfl⟩
  have hz2:w2.heap[w.heap.size]?=some (.cells (pkCells zeroP) 36):=by rw [hb2.block _ (by simp)];exact heap1 _ _
  have hsz2:w.heap.size < w2.heap.size:=Nat.lt_of_lt_of_le (by simp) hb2.size
  have HB2:=hide (((Below.refl _ _).alloc (Nat.le_refl _) _).trans (hb2.mono (by simp)))
  have HE2:=hide (HE1.out.below hb2)
  have HZ2:=hide hz2
  clear hb2 hz2
  simp only [pkCells]
  go_wp2_with fail
  have HB3:∀ o,Below w.heap.size w (w2.alloc o):=fun o=>HB2.out.alloc (by omega) o
  refine (unhide cL _ _ ?_ (HE2.out.below ((Below.refl _ _).alloc (Nat.le_refl _) _))).mono ?_
  · have h:=HT.out
    first
     | rw [if_pos hcap,hcap] at h
     | rw [if_neg hcap] at h
    exact (h.below (Nat.le_refl _) (HB3 _)).more (by simp;omega)
  rintro e w4 ⟨hb4,hR4⟩
  rw [hL] at hR4
  have hex:∃ v4,e=.returned (.tuple #[.int .i64 0,.int .i64 0,v4])∧Nest (if s then ash else aw) 1 v4:=by
   cases s
   · exact hR4
   · exact hR4
  obtain ⟨v4,rfl,hn4⟩:=hex
  clear hR4
  have hz4:w4.heap[w.heap.size]?=some (.cells (pkCells zeroP) 36):=by rw [hb4.block _ (by simp;omega),Below.heap_alloc _ _ _ hsz2];exact HZ2.out
  have HB4:=hide ((HB3 _).trans (hb4.mono (by simp;omega)))
  have HN4:=hide hn4
  obtain ⟨wh2,c2,rfl,_⟩:=hn4
  obtain ⟨z0,z1,z2,z3,z4,z5,z6,z7,z8,z9,z10,z11,z12,z13,z14⟩:=zero_cells hz4
  obtain ⟨y0,y1,y2,y3,y4,y5,y6,y7,y8,y9,y10,y11,y12,y13,y14⟩:=zero_thawed hz4
  have hsz4:w.heap.size < w4.heap.size:=topWalks.cell_lt z0
  have HZ:=hide (World.cell?_setCells_in w.heap.size zeros 0 w4 (fun j hj=>zero_some hz4 j hj))
  clear hb4 hz4 HB3
  go_wp2_with fail
  refine bodyPost_ret (results_dec _ _ w.heap.size _ _ _ _ _ _ _ _ _ _ _ _ _ _ _ rfl (HZ.out 0 (by decide)) (HZ.out 1 (by decide)) (HZ.out 2 (by decide)) (HZ.out 3 (by decide)) (HZ.out 4 (by decide)) (HZ.out 5 (by decide)) (HZ.out 6 (by decide)) (HZ.out 7 (by decide)) (HZ.out 8 (by decide)) (HZ.out 9 (by decide)) (HZ.out 10 (by decide)) (HZ.out 11 (by decide)) (HZ.out 12 (by decide)) (HZ.out 13 (by decide)) (HZ.out 14 (by decide))) rfl ?_
  have hgf:∀ w6,w4.grownBy w6 (some w.heap.size)→DecPost ash aw w (.inl s) (.returned (.tuple #[.agg (pkCells zeroP),.int .i64 0,.iface 171 (.agg #[.string ⟨#[108,101,110,103,116,104]⟩,.iface 171 (.agg #[.string wh2,c2])])])) w6:=fun w6 hg =>
   ⟨HB4.out.trans (below_grown hg (Nat.le_refl _) (by omega)),_,1,rfl,_,_,rfl,HN4.out⟩
  refine hgf _ ?_
  repeat refine grown_trans ?_ (grown_set _ _ _ _)
  exact grown_refl _ _
theorem set_drew {W:World} {N:Nat} (vs:List Value) (hz:∀ j,j < vs.length→(W.cell? ⟨N,0+j,none⟩).isSome=true):∀ j (hj:j < vs.length),((W.setCells N 0 vs).drew).cell? ⟨N,0+j,none⟩=some (vs[j]'hj):=
 fun j hj=>(show ((W.setCells N 0 vs).drew).cell? ⟨N,0+j,none⟩=(W.setCells N 0 vs).cell? ⟨N,0+j,none⟩ from rfl).trans (World.cell?_setCells_in N vs 0 W hz j hj)
set_option maxHeartbeats 3200000 in
set_option maxRecDepth 100000 in
theorem decode_short (ash aw:Addr) (w:World) (x:UInt8) (r:List UInt8) (v:Value) (p:Pkt) (n k:Nat) (hl:r.length≤1099511627776) (hv:BytesV w.heap.size w v (x :: r)) (hE:Errs ash aw w) (hF:firstL (x.toNat / 16) (x.toNat % 16)=some p) (hL:lenL r=some (some (n,k))) (hn:r.length < k+n) :
 Calls Tryz.prog 55 #[v] w (DecPost ash aw w (.inl true)):=by
 have HV:=hide hv
 obtain ⟨b,off,cap,rfl,hc1,hc2,hb,hcell⟩:=hv
 have cx:=hcell 0 x rfl
 rw [Nat.add_zero] at cx
 have hxl:=x.toNat_lt
 have lt:∀ o,(w.alloc o).cell? ⟨b,off,none⟩=some (.int .u8 (x.toNat:Int)):=fun o=>by rw [alloc_keep (topWalks.cell_lt cx)];exact cx
 have cF:=hide fun w1 h=>readFirst_any ash aw w1 x.toNat (by omega) h
 rw [hF] at cF
 have hF0:=hF
 have HE:=hide hE
 obtain ⟨hn1,hk1,hk2,hk3⟩:=lenL_le hL
 have cL:=hide fun w1 v1 hv1 h1=>readLength_any ash aw w1 r v1 hl hv1 h1
 have hT:BytesV w.heap.size w (.slice (if cap=1 then some ⟨b,off,none⟩ else some ⟨b,off+1,none⟩) r.length (cap - 1)) r:=by
  have:=BytesV.tail (n:=1) (by simp) hc1 hc2 hb hcell
  simpa using this
 have HT:=hide hT
 simp only [List.length_cons] at hc1 ⊢
 unfold maxLen at hc2
 clear hE hF hcell hT
 have hfc:=firstL_kind hF0
 obtain ⟨kind,clean,will,keep,client,present,code,dup,qos,retain,topic,payload,id,fv,cv⟩:=p
 obtain ⟨_,_,rfl,rfl⟩:=hfc
 clear hF0
 have hcap:¬cap=1:=by omega
 go_enter Tryz.func55,Tryz.ntmps55
 go_wp2_with fail
 have HE1:=hide (HE.out.below ((Below.refl _ _).alloc (Nat.le_refl _) (.cells (pkCells zeroP) 36)))
 refine (unhide cF _ HE1.out).mono ?_
 rintro e w2 ⟨hb2,rfl⟩
 have hz2:w2.heap[w.heap.size]?=some (.cells (pkCells zeroP) 36):=by rw [hb2.block _ (by simp)];exact heap1 _ _
 have hsz2:w.heap.size < w2.heap.size:=Nat.lt_of_lt_of_le (by simp) hb2.size
 have HB2:=hide (((Below.refl _ _).alloc (Nat.le_refl _) _).trans (hb2.mono (by simp)))
 have HE2:=hide (HE1.out.below hb2)
 have HZ2:=hide hz2
 clear hb2 hz2
 simp only [pkCells]
 go_wp2_with fail
 have HB3:∀ o,Below w.heap.size w (w2.alloc o):=fun o=>HB2.out.alloc (by omega) o
 refine (unhide cL _ _ ?_ (HE2.out.below ((Below.refl _ _).alloc (Nat.le_refl _) _))).mono ?_
 · have h:=HT.out
   rw [if_neg hcap] at h
   exact (h.below (Nat.le_refl _) (HB3 _)).more (by simp;omega)
 rintro e w4 ⟨hb4,hR4⟩
 rw [hL] at hR4
 obtain rfl:=hR4
 have hz4:w4.heap[w.heap.size]?=some (.cells (pkCells zeroP) 36):=by rw [hb4.block _ (by simp;omega),Below.heap_alloc _ _ _ hsz2];exact HZ2.out
 have HB4:=hide ((HB3 _).trans (hb4.mono (by simp;omega)))
 have hs4:=(HE2.out.below ((Below.refl _ _).alloc (Nat.le_refl _) _) |>.below hb4).short
 obtain ⟨z0,z1,z2,z3,z4,z5,z6,z7,z8,z9,z10,z11,z12,z13,z14⟩:=zero_cells hz4
 obtain ⟨y0,y1,y2,y3,y4,y5,y6,y7,y8,y9,y10,y11,y12,y13,y14⟩:=zero_thawed hz4
 have hsz4:w.heap.size < w4.heap.size:=topWalks.cell_lt z0
 have HZ:=hide (set_drew (W:=w4) (N:=w.heap.size) zeros (fun j hj=>zero_some hz4 j hj))
 have hlt0:1 < w.heap.size:=topWalks.cell_lt HE.out.short
 have hne0:¬ (1=w.heap.size):=by omega
 have hne1:¬ (w.heap.size=1):=by omega
 clear hlt0 hb4 hz4 HB3
 go_wp2
 go_region
 go_wp2
 refine bodyPost_ret (results_dec _ _ w.heap.size _ _ _ _ _ _ _ _ _ _ _ _ _ _ _ rfl (HZ.out 0 (by decide)) (HZ.out 1 (by decide)) (HZ.out 2 (by decide)) (HZ.out 3 (by decide)) (HZ.out 4 (by decide)) (HZ.out 5 (by decide)) (HZ.out 6 (by decide)) (HZ.out 7 (by decide)) (HZ.out 8 (by decide)) (HZ.out 9 (by decide)) (HZ.out 10 (by decide)) (HZ.out 11 (by decide)) (HZ.out 12 (by decide)) (HZ.out 13 (by decide)) (HZ.out 14 (by decide))) rfl ?_
 have hgf:∀ w6,w4.grownBy w6 (some w.heap.size)→DecPost ash aw w (.inl true) (.returned (.tuple #[.agg (pkCells zeroP),.int .i64 0,.iface 171 (.agg #[.string ⟨#[98,111,100,121]⟩,.iface 331 (.pointer (some ash))])])) w6.drew:=fun w6 hg =>
  ⟨(HB4.out.trans (below_grown hg (Nat.le_refl _) (by omega))).drew,_,0,rfl,_,_,rfl,rfl⟩
 refine hgf _ ?_
 repeat refine grown_trans ?_ (grown_set _ _ _ _)
 exact grown_refl _ _
theorem pk_cells {w:World} {b:Nat} {p:Pkt} (h:w.heap[b]?=some (.cells (pkCells p) 36)):w.cell? ⟨b,0,none⟩=some (.int .i64 p.kind)∧w.cell? ⟨b,1,none⟩=some (.bool p.clean)∧w.cell? ⟨b,2,none⟩=some (.bool p.will)∧w.cell? ⟨b,3,none⟩=some (.int .i64 p.keep)∧w.cell? ⟨b,4,none⟩=some (.string (bs p.client))∧w.cell? ⟨b,5,none⟩=some (.bool p.present)∧w.cell? ⟨b,6,none⟩=some (.int .i64 p.code)∧w.cell? ⟨b,7,none⟩=some (.bool p.dup)∧w.cell? ⟨b,8,none⟩=some (.int .i64 p.qos)∧w.cell? ⟨b,9,none⟩=some (.bool p.retain)∧w.cell? ⟨b,10,none⟩=some (.string (bs p.topic))∧w.cell? ⟨b,11,none⟩=some (.string (bs p.payload))∧w.cell? ⟨b,12,none⟩=some (.int .i64 p.id)∧w.cell? ⟨b,13,none⟩=some p.fv∧w.cell? ⟨b,14,none⟩=some p.cv:=by
 refine ⟨?_,?_,?_,?_,?_,?_,?_,?_,?_,?_,?_,?_,?_,?_,?_⟩
 all_goals simp [World.cell?,h,pkCells]
theorem pk_thawed {w:World} {b:Nat} {p:Pkt} (h:w.heap[b]?=some (.cells (pkCells p) 36)):w.frozen? ⟨b,0,none⟩=false∧w.frozen? ⟨b,1,none⟩=false∧w.frozen? ⟨b,2,none⟩=false∧w.frozen? ⟨b,3,none⟩=false∧w.frozen? ⟨b,4,none⟩=false∧w.frozen? ⟨b,5,none⟩=false∧w.frozen? ⟨b,6,none⟩=false∧w.frozen? ⟨b,7,none⟩=false∧w.frozen? ⟨b,8,none⟩=false∧w.frozen? ⟨b,9,none⟩=false∧w.frozen? ⟨b,10,none⟩=false∧w.frozen? ⟨b,11,none⟩=false∧w.frozen? ⟨b,12,none⟩=false∧w.frozen? ⟨b,13,none⟩=false∧w.frozen? ⟨b,14,none⟩=false:=by
 refine ⟨?_,?_,?_,?_,?_,?_,?_,?_,?_,?_,?_,?_,?_,?_,?_⟩
 all_goals simp [World.frozen?,h]
theorem gen_world {P:World→Prop} {w w':World} {o:Option Nat} (h:w.grownBy w' o) (k:∀ w6,w.grownBy w6 o→P w6):P w':=k _ h
theorem BytesV.part {B:Nat} {w:World} {b off cap m n:Nat} {l:List UInt8} (hn:m+n≤l.length) (h2:l.length≤cap) (h3:cap≤maxLen) (h4:b < B) (h5:∀ (j:Nat) x,l[j]?=some x→w.cell? ⟨b,off+j,none⟩=some (.int .u8 (x.toNat:Int))) :
 BytesV B w (.slice (if cap=m then some ⟨b,off,none⟩ else some ⟨b,off+m,none⟩) n (cap - m)) ((l.drop m).take n):=by
 have hlen:((l.drop m).take n).length=n:=by rw [List.length_take,List.length_drop];omega
 by_cases e:cap=m
 · refine ⟨b,off,cap - m,by rw [if_pos e,hlen],by rw [hlen];omega,by omega,h4,fun j x hx=>?_⟩
   have:((l.drop m).take n).length≤j:=by rw [hlen];omega
   rw [List.getElem?_eq_none this] at hx
   cases hx
 · refine ⟨b,off+m,cap - m,by rw [if_neg e,hlen],by rw [hlen];omega,by omega,h4,fun j x hx=>?_⟩
   have hj:j < n:=by
    have:=(List.getElem?_eq_some_iff.1 hx).1
    rw [hlen] at this;exact this
   rw [List.getElem?_take_of_lt hj,List.getElem?_drop] at hx
   rw [show off+m+j=off+(m+j) by omega]
   exact h5 _ _ hx
end rd
end Go.Proofs.YtnmfmoimjkoieaaGreatDoor
