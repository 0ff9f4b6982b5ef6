import Derived.Test.YtnmfmoimjkoieaaGreatDoorF11
import Derived.Test.YtnmfmoimjkoieaaGreatDoorF12
import Derived.Test.YtnmfmoimjkoieaaGreatDoorF13
import Derived.Test.YtnmfmoimjkoieaaGreatDoorF01
import Derived.Lib.BufferWrite
import Derived.Deep.OwnRows
import Derived.Deep.WholeRow
import Derived.Deep.QuietTactic
import Derived.BigQuiet
import Derived.OwnWalk
import Derived.Maps.AppendAt
import Derived.Deep.RegionLawGrows
import Derived.Below
namespace Go.Proofs.YtnmfmoimjkoieaaGreatDoor
namespace rd
open Go.RowKit topPlain topWalks decPlain
theorem decode_any (ash aw:Addr) (w:World) (l:List UInt8) (v:Value) (hl:l.length≤1099511627776) (hv:(l = []∧v=.slice none 0 0)∨BytesV w.heap.size w v l) (hE:Errs ash aw w) (hEnv:Env aw w.heap.size w) :
 Calls Tryz.prog 55 #[v] w (DecPost ash aw w (decL l)):=by
 cases l with
 | nil =>
   rcases hv with ⟨_,rfl⟩ | ⟨b,off,cap,rfl,_⟩
   · exact decode_nil ash aw w none 0 hE
   · exact decode_nil ash aw w _ cap hE
 | cons x r =>
   have hv:BytesV w.heap.size w v (x :: r):=by
    rcases hv with ⟨h,_⟩ | h
    · cases h
    · exact h
   have hr:r.length≤1099511627776:=by simp at hl;omega
   unfold decL
   simp only
   cases hF:firstL (x.toNat / 16) (x.toNat % 16) with
   | none=>exact decode_first ash aw w x r v hv hE hF
   | some p =>
     simp only
     cases hL:lenL r with
     | none=>exact decode_len ash aw w x r v true p hr hv hE hF (by rw [hL];rfl)
     | some o =>
       cases o with
       | none=>exact decode_len ash aw w x r v false p hr hv hE hF (by rw [hL];rfl)
       | some nk =>
         obtain ⟨n,k⟩:=nk
         simp only
         by_cases hn:r.length < k+n
         · rw [if_pos hn]
           exact decode_short ash aw w x r v p n k hr hv hE hF hL hn
         · rw [if_neg hn]
           have hk:=lenL_le hL
           have hn':k+n≤r.length:=by omega
           have hk12:k=1∨k=2:=by omega
           cases hB:bodyS p ((r.drop k).take n) with
           | none =>
             rcases hk12 with h | h
             · exact decode_body1 ash aw w x r v p n k hr hv hE hF hL hn' h hEnv hB
             · exact decode_body2 ash aw w x r v p n k hr hv hE hF hL hn' h hEnv hB
           | some q =>
             obtain ⟨q,fs,cs⟩:=q
             have hv0:=hv
             obtain ⟨b,off,cap,hve,_⟩:=hv0
             have hve':v=.slice (some ⟨b,off,none⟩) (r.length+1) cap:=by rw [hve];rfl
             have hcap:∀ c:Nat,(cap=c→∀ b off cap,v=.slice (some ⟨b,off,none⟩) (r.length+1) cap→cap=c)∧(¬cap=c→∀ b off cap,v=.slice (some ⟨b,off,none⟩) (r.length+1) cap→¬cap=c):=fun c=>by
              refine ⟨fun h b' off' cap' e=>?_,fun h b' off' cap' e=>?_⟩
              · rw [hve'] at e
                simp only [Value.slice.injEq] at e
                omega
              · rw [hve'] at e
                simp only [Value.slice.injEq] at e
                omega
             rcases hk12 with h | h
             · by_cases hc:cap=2
               · exact decode_ok1a ash aw w x r v p n k q fs cs hr hv hE hF hL hn' h hEnv hB ((hcap 2).1 hc)
               · exact decode_ok1b ash aw w x r v p n k q fs cs hr hv hE hF hL hn' h hEnv hB ((hcap 2).2 hc)
             · by_cases hc:cap=3
               · exact decode_ok2a ash aw w x r v p n k q fs cs hr hv hE hF hL hn' h hEnv hB ((hcap 3).1 hc)
               · exact decode_ok2b ash aw w x r v p n k q fs cs hr hv hE hF hL hn' h hEnv hB ((hcap 3).2 hc)
def CdPost (w:World) (R:Bool ⊕ ((Pkt×List (List UInt8×Int)×List Int)×Nat)) (e:Ending) (w':World):Prop:=
 Below w.heap.size w w'∧match R with
  | .inl s=>e=.returned (.tuple #[.agg (pkCells zeroP),.int .i64 0,.int .i64 (if s then 3 else 2)])
  | .inr r=>∃ fv cv,e=.returned (.tuple #[.agg (pkCells { r.1.1 with fv:=fv,cv:=cv }),.int .i64 (r.2:Int),.int .i64 0])∧w'.ownsRow w.heap.size 95 2 fv r.1.2.1.length (filC r.1.2.1)∧w'.ownsRow w.heap.size 3 1 cv r.1.2.2.length (ints r.1.2.2)
theorem zero_some_cd {w:World} {N:Nat} (h:w.heap[N]?=some (.cells (pkCells zeroP) 36)):∀ j,j < 15→(w.cell? ⟨N,0+j,none⟩).isSome=true:=zero_some h
set_option maxHeartbeats 800000 in
theorem results_cd (X:World) (tmps:Array Value) (N:Nat) (v0 v1 v2 v3 v4 v5 v6 v7 v8 v9 v10 v11 v12 v13 v14:Value) (ht:tmps[2]?.getD undef=.pointer (some ⟨N,0,none⟩)) (h0:X.cell? ⟨N,0,none⟩=some v0) (h1:X.cell? ⟨N,1,none⟩=some v1) (h2:X.cell? ⟨N,2,none⟩=some v2) (h3:X.cell? ⟨N,3,none⟩=some v3) (h4:X.cell? ⟨N,4,none⟩=some v4) (h5:X.cell? ⟨N,5,none⟩=some v5) (h6:X.cell? ⟨N,6,none⟩=some v6) (h7:X.cell? ⟨N,7,none⟩=some v7) (h8:X.cell? ⟨N,8,none⟩=some v8) (h9:X.cell? ⟨N,9,none⟩=some v9) (h10:X.cell? ⟨N,10,none⟩=some v10) (h11:X.cell? ⟨N,11,none⟩=some v11) (h12:X.cell? ⟨N,12,none⟩=some v12) (h13:X.cell? ⟨N,13,none⟩=some v13) (h14:X.cell? ⟨N,14,none⟩=some v14) :
 (results Tryz.f20 tmps).run Tryz.prog X=.ok (.tuple #[.agg #[v0,v1,v2,v3,v4,v5,v6,v7,v8,v9,v10,v11,v12,v13,v14],tmps.getD 3 undef,tmps.getD 4 undef]) X:=by
 simp [results,Tryz.results20,go_sem,ht,h0,h1,h2,h3,h4,h5,h6,h7,h8,h9,h10,h11,h12,h13,h14]
set_option maxHeartbeats 3200000 in
set_option maxRecDepth 100000 in
theorem cDecode_any (ash aw:Addr) (w:World) (l:List UInt8) (v:Value) (hl:l.length≤1099511627776) (hv:(l = []∧v=.slice none 0 0)∨BytesV w.heap.size w v l) (hE:Errs ash aw w) (hEnv:Env aw w.heap.size w) :
 Calls Tryz.prog 20 #[v] w (CdPost w (decL l)):=by
 have cD:=hide fun w hv hE hEnv=>decode_any ash aw w l v hl hv hE hEnv
 have HE:=hide hE
 have HE0:=hide hE
 have HV:=hide hv
 have HN:=hide hEnv
 have hsl:∃ q n c,v=.slice q n c:=by
  rcases hv with ⟨_,rfl⟩ | ⟨b,off,cap,rfl,_⟩
  · exact ⟨_,_,_,rfl⟩
  · exact ⟨_,_,_,rfl⟩
 obtain ⟨q,n,c,rfl⟩:=hsl
 clear hv hE hEnv hl
 generalize decL l=R at *
 go_enter Tryz.func20,Tryz.ntmps20
 go_wp2_with fail
 have hA:Below w.heap.size w (w.alloc (.cells (pkCells zeroP) 36)):=(Below.refl _ _).alloc (Nat.le_refl _) _
 have HA:=hide hA
 have hv1:(l = []∧Value.slice q n c=.slice none 0 0)∨BytesV (w.alloc (.cells (pkCells zeroP) 36)).heap.size (w.alloc (.cells (pkCells zeroP) 36)) (.slice q n c) l:=by
  rcases HV.out with h | h
  · exact Or.inl h
  · exact Or.inr ((h.below (Nat.le_refl _) hA).more hA.size)
 have hN1:Env aw (w.alloc (.cells (pkCells zeroP) 36)).heap.size (w.alloc (.cells (pkCells zeroP) 36)):=by
  have h:=HN.out.below hA
  exact ⟨Nat.le_trans h.low hA.size,Nat.le_refl _,h.err,h.inv⟩
 have HE1:=hide (HE.out.below hA)
 refine (unhide cD (w.alloc (.cells (pkCells zeroP) 36)) hv1 HE1.out hN1).mono ?_
 clear hv1 hN1 cD HV HN hA
 rintro e w2 ⟨hb2,h2⟩
 have hz2:w2.heap[w.heap.size]?=some (.cells (pkCells zeroP) 36):=by rw [hb2.block _ (by simp)];exact heap1 _ _
 have HB2:=hide (HA.out.trans (hb2.mono (by simp)))
 have HE2:=hide (HE1.out.below hb2)
 have hs2:=hb2.size
 have hls:w.heap.size < w2.heap.size:=Nat.lt_of_lt_of_le (by simp) hs2
 have HZ2:=hide hz2
 clear hb2 hz2 HE HE1 HA hs2
 cases R with
 | inl s =>
   obtain ⟨v2,n2,rfl,hn2⟩:=h2
   have hn2':=hn2
   obtain ⟨wh,c2,rfl,_⟩:=hn2'
   have HNN:=hide hn2
   clear hn2
   simp only [pkCells,zeroP]
   go_wp2_with fail
   obtain ⟨ar,har,cE⟩:∃ ar:Int,ar=(if s then 3 else 2)∧∀ W,Below w.heap.size w W→Calls Tryz.prog 54 #[.iface 171 (.agg #[.string wh,c2])] W fun e w'=>e=.returned (.int .i64 ar)∧Below W.heap.size W w':=by
    cases s
    · exact ⟨2,rfl,fun W hW=>errno_wrong ash aw (n2+1) _ W (HE0.out.below hW) HNN.out⟩
    · exact ⟨3,rfl,fun W hW=>errno_short ash aw (n2+1) _ W (HE0.out.below hW) HNN.out⟩
   have CE:=hide cE
   have HAR:=hide har
   clear cE har HNN
   go_region_with (
    refine (CE.out _ ?e1).mono ?_
    case e1 =>
     repeat first | refine Below.setCell ?_ (Nat.le_refl _) _ | refine Below.drew ?_
     exact HB2.out.alloc (by omega) _
    rintro e w5 ⟨rfl,hb5⟩
    have hz5:w5.heap[w.heap.size]?=some (.cells (pkCells zeroP) 36):=by
     rw [hb5.block _ (by show _ < (w2.alloc _).heap.size;simp;omega)]
     show (w2.alloc _).heap[w.heap.size]?=_
     rw [Below.heap_alloc _ _ _ hls]
     exact HZ2.out
    obtain ⟨z0,z1,z2,z3,z4,z5,z6,z7,z8,z9,z10,z11,z12,z13,z14⟩:=zero_cells hz5
    obtain ⟨y0,y1,y2,y3,y4,y5,y6,y7,y8,y9,y10,y11,y12,y13,y14⟩:=zero_thawed hz5
    have kP:∀ i,w5.cell? ⟨w2.heap.size,i,none⟩=_:=fun i=>hb5.cell (show (⟨w2.heap.size,i,none⟩:Addr).block < (w2.alloc _).heap.size by simp)
    have HB5:=hide (((HB2.out.alloc (by omega) (.cells #[.int .i64 0,.bool false,.bool false,.int .i64 0,.string (bs []),.bool false,.int .i64 0,.bool false,.int .i64 0,.bool false,.string (bs []),.string (bs []),.int .i64 0,.slice none 0 0,.slice none 0 0] 36)).drew.trans (hb5.mono (by show _≤(w2.alloc _).heap.size;simp;omega))))
    have hs5:w.heap.size < w5.heap.size:=topWalks.cell_lt z0
    have HZ5:=hide (zero_some_cd hz5)
    clear hb5 hz5)
   all_goals
    go_wp2
    have HZ:=hide (World.cell?_setCells_in w.heap.size [.int .i64 0,.bool false,.bool false,.int .i64 0,.string (bs []),.bool false,.int .i64 0,.bool false,.int .i64 0,.bool false,.string (bs []),.string (bs []),.int .i64 0,.slice none 0 0,.slice none 0 0] 0 w5 (fun j hj=>HZ5.out j hj))
    refine bodyPost_ret (results_cd _ _ w.heap.size _ _ _ _ _ _ _ _ _ _ _ _ _ _ _ rfl (HZ.out 0 (show 0 < 15 by decide)) (HZ.out 1 (show 1 < 15 by decide)) (HZ.out 2 (show 2 < 15 by decide)) (HZ.out 3 (show 3 < 15 by decide)) (HZ.out 4 (show 4 < 15 by decide)) (HZ.out 5 (show 5 < 15 by decide)) (HZ.out 6 (show 6 < 15 by decide)) (HZ.out 7 (show 7 < 15 by decide)) (HZ.out 8 (show 8 < 15 by decide)) (HZ.out 9 (show 9 < 15 by decide)) (HZ.out 10 (show 10 < 15 by decide)) (HZ.out 11 (show 11 < 15 by decide)) (HZ.out 12 (show 12 < 15 by decide)) (HZ.out 13 (show 13 < 15 by decide)) (HZ.out 14 (show 14 < 15 by decide))) rfl ?_
    have hgf:∀ w7,w5.grownBy w7 (some w.heap.size)→CdPost w (.inl s) (.returned (.tuple #[.agg (pkCells zeroP),.int .i64 0,.int .i64 ar])) w7:=fun w7 hg =>
     ⟨HB5.out.trans (below_grown hg (Nat.le_refl _) (by omega)),by rw [HAR.out]⟩
    refine hgf _ ?_
    repeat first | refine grown_trans ?_ (grown_set _ _ _ _)
    exact grown_refl _ _
 | inr r =>
   obtain ⟨⟨pk,fs,cs⟩,m⟩:=r
   obtain ⟨fv,cv,rfl,hO1,hO2⟩:=h2
   have HO1:=hide hO1
   have HO2:=hide hO2
   obtain ⟨pf,nf,cf,rfl⟩:=own_slice hO1
   obtain ⟨pc,nc,cc,rfl⟩:=own_slice hO2
   clear hO1 hO2
   simp only [pkCells]
   go_wp2_with fail
   have CE:Hid (∀ W,Calls Tryz.prog 54 #[.nilIface] W fun e w'=>e=.returned (.int .i64 0)∧Below W.heap.size W w'):=hide fun W=>(errno_nil W).mono fun e w' h=>⟨h.1,by rw [h.2];exact Below.refl _ _⟩
   go_region_with (
    refine (CE.out _).mono ?_
    rintro e w5 ⟨rfl,hb5⟩
    have hz5:w5.heap[w.heap.size]?=some (.cells (pkCells zeroP) 36):=by
     rw [hb5.block _ (by show _ < (w2.alloc _).heap.size;simp;omega)]
     show (w2.alloc _).heap[w.heap.size]?=_
     rw [Below.heap_alloc _ _ _ hls]
     exact HZ2.out
    obtain ⟨z0,z1,z2,z3,z4,z5,z6,z7,z8,z9,z10,z11,z12,z13,z14⟩:=zero_cells hz5
    obtain ⟨y0,y1,y2,y3,y4,y5,y6,y7,y8,y9,y10,y11,y12,y13,y14⟩:=zero_thawed hz5
    have kP:∀ i,w5.cell? ⟨w2.heap.size,i,none⟩=_:=fun i=>hb5.cell (show (⟨w2.heap.size,i,none⟩:Addr).block < (w2.alloc _).heap.size by simp)
    have HB5:=hide (((HB2.out.alloc (by omega) (.cells #[.int .i64 pk.kind,.bool pk.clean,.bool pk.will,.int .i64 pk.keep,.string (bs pk.client),.bool pk.present,.int .i64 pk.code,.bool pk.dup,.int .i64 pk.qos,.bool pk.retain,.string (bs pk.topic),.string (bs pk.payload),.int .i64 pk.id,.slice pf nf cf,.slice pc nc cc] 36)).drew.trans (hb5.mono (by show _≤(w2.alloc _).heap.size;simp;omega))))
    have hs5:w.heap.size < w5.heap.size:=topWalks.cell_lt z0
    have HZ5:=hide (zero_some_cd hz5)
    have hg5:w2.grownBy w5 (some w2.heap.size):=⟨hb5.os,hb5.tape,hb5.output,Nat.le_trans (by show _≤(w2.alloc _).heap.size;simp) hb5.size,fun k hk _=>(hb5.block k (by show _ < (w2.alloc _).heap.size;simp;omega)).trans (Below.heap_alloc _ _ _ hk)⟩
    have HO3:=hide (HO1.out.kept hg5 (by
     cases hv:(Value.slice pf nf cf).ownBlock with
     | none=>exact Or.inl rfl
     | some k=>exact Or.inr (by have:=(HO1.out.lt k hv).2;simp;omega)))
    have HO4:=hide (HO2.out.kept hg5 (by
     cases hv:(Value.slice pc nc cc).ownBlock with
     | none=>exact Or.inl rfl
     | some k=>exact Or.inr (by have:=(HO2.out.lt k hv).2;simp;omega)))
    clear hg5
    clear hb5 hz5)
   all_goals
    go_wp2
    have HZ:=hide (World.cell?_setCells_in w.heap.size [.int .i64 pk.kind,.bool pk.clean,.bool pk.will,.int .i64 pk.keep,.string (bs pk.client),.bool pk.present,.int .i64 pk.code,.bool pk.dup,.int .i64 pk.qos,.bool pk.retain,.string (bs pk.topic),.string (bs pk.payload),.int .i64 pk.id,.slice pf nf cf,.slice pc nc cc] 0 w5 (fun j hj=>HZ5.out j hj))
    refine bodyPost_ret (results_cd _ _ w.heap.size _ _ _ _ _ _ _ _ _ _ _ _ _ _ _ rfl (HZ.out 0 (show 0 < 15 by decide)) (HZ.out 1 (show 1 < 15 by decide)) (HZ.out 2 (show 2 < 15 by decide)) (HZ.out 3 (show 3 < 15 by decide)) (HZ.out 4 (show 4 < 15 by decide)) (HZ.out 5 (show 5 < 15 by decide)) (HZ.out 6 (show 6 < 15 by decide)) (HZ.out 7 (show 7 < 15 by decide)) (HZ.out 8 (show 8 < 15 by decide)) (HZ.out 9 (show 9 < 15 by decide)) (HZ.out 10 (show 10 < 15 by decide)) (HZ.out 11 (show 11 < 15 by decide)) (HZ.out 12 (show 12 < 15 by decide)) (HZ.out 13 (show 13 < 15 by decide)) (HZ.out 14 (show 14 < 15 by decide))) rfl ?_
    have hgf:∀ w7,w5.grownBy w7 (some w.heap.size)→CdPost w (.inr ((pk,fs,cs),m)) (.returned (.tuple #[.agg (pkCells { pk with fv:=.slice pf nf cf,cv:=.slice pc nc cc }),.int .i64 (m:Int),.int .i64 0])) w7:=fun w7 hg =>
     ⟨HB5.out.trans (below_grown hg (Nat.le_refl _) (by omega)),_,_,rfl,own_less (own_keep HO3.out (by simp) hg) (by simp),own_less (own_keep HO4.out (by simp) hg) (by simp)⟩
    refine hgf _ ?_
    repeat first | refine grown_trans ?_ (grown_set _ _ _ _)
    exact grown_refl _ _
end rd
namespace lw
open Go.RowKit topPlain topWalks
theorem ret_int {k:IntKind} {a b:Int} (h:a=b):Ending.returned (.int k a)=.returned (.int k b):=by rw [h]
theorem infoU8:(Tryz.prog.info? 5).map (fun i=>(i.zero,i.size,i.bytes))=some (some (.int .u8 0),1,1):=by kernel_rfl
end lw
namespace lw
open Go.RowKit topPlain topWalks decPlain rd
def Held (w:World) (sz:Nat) (f:Nat→Nat→Value) (xs:List Value) (out:Nat→Prop):Prop:=
 ∀ (i:Nat) u,xs[i]?=some u→∃ ad n c,u=.slice ad n c∧n≤1099511627780∧(n=0∨∃ g,ad=some ⟨g,0,none⟩∧out g∧g < w.heap.size∧∀ j,j < n*sz→w.cell? ⟨g,j,none⟩=some (f i j))
def subF (i j:Nat):Value:=if j % 2=0 then .string ⟨#[]⟩ else .int .i64 (-1 - ((i / 4*4:Nat):Int))
def codF (i _j:Nat):Value:=.int .i64 (-1 - ((i / 4*4:Nat):Int))
def turF (_i _j:Nat):Value:=.int .u8 251
def OutB (bw:Nat) (vs vc vt:Value) (g:Nat):Prop:=g≠bw∧vs.ownBlock≠some g∧vc.ownBlock≠some g∧vt.ownBlock≠some g
structure Wd (w:World) (bw:Nat) (vs vc vt:Value) (ss cc tt:List Value):Prop where
 blk:w.heap[bw]?=some (.cells #[.slice none 0 0,.slice none 0 0,.slice none 0 0,vs,vc,vt,.slice none 0 0,.slice none 0 0] 29)
 os:w.ownsRow (bw+1) 33 1 vs ss.length ss
 oc:w.ownsRow (bw+1) 34 1 vc cc.length cc
 ot:w.ownsRow (bw+1) 45 1 vt tt.length tt
 n1:∀ b,vs.ownBlock=some b→vc.ownBlock≠some b
 n2:∀ b,vs.ownBlock=some b→vt.ownBlock≠some b
 n3:∀ b,vc.ownBlock=some b→vt.ownBlock≠some b
 hs:Held w 2 subF ss (OutB bw vs vc vt)
 hc:Held w 1 codF cc (OutB bw vs vc vt)
 ht:Held w 1 turF tt (OutB bw vs vc vt)
 ls:ss.length≤1000
 lc:cc.length≤1000
 lt:tt.length≤1000
 hd:∀ u,u∈ss∨u∈cc∨u∈tt→∀ b,u.ownBlock=some b→b < w.heap.size
def Free (bw:Nat) (vs vc vt:Value) (ss cc tt:List Value) (b:Nat):Prop:=OutB bw vs vc vt b∧∀ u,u∈ss∨u∈cc∨u∈tt→u.ownBlock≠some b
theorem Held.keep {w w':World} {sz:Nat} {f:Nat→Nat→Value} {xs:List Value} {out out':Nat→Prop} (h:Held w sz f xs out) (hs:w.heap.size≤w'.heap.size) (ho:∀ u g,u∈xs→u.ownBlock=some g→out g→g < w.heap.size→out' g∧w'.heap[g]?=w.heap[g]?):Held w' sz f xs out':=by
 intro i u hu
 obtain ⟨ad,n,c,e,hn,hh⟩:=h i u hu
 refine ⟨ad,n,c,e,hn,?_⟩
 rcases hh with h0 | ⟨g,e1,hog,hl,hc⟩
 · exact Or.inl h0
 · obtain ⟨k1,k2⟩:=ho u g (List.mem_of_getElem? hu) (by rw [e,e1];rfl) hog hl
   exact Or.inr ⟨g,e1,k1,by omega,fun j hj=>by rw [World.cell?_of_block (w:=w) k2];exact hc j hj⟩
theorem Wd.below {w w':World} {bw:Nat} {vs vc vt:Value} {ss cc tt:List Value} (h:Wd w bw vs vc vt ss cc tt) (hb:Below w.heap.size w w'):Wd w' bw vs vc vt ss cc tt:=
 ⟨(hb.block _ (Array.getElem?_eq_some_iff.1 h.blk).1).trans h.blk,own_below h.os hb,own_below h.oc hb,own_below h.ot hb,h.n1,h.n2,h.n3,h.hs.keep hb.size (fun _ g _ _ o hl=>⟨o,hb.block g hl⟩),h.hc.keep hb.size (fun _ g _ _ o hl=>⟨o,hb.block g hl⟩),h.ht.keep hb.size (fun _ g _ _ o hl=>⟨o,hb.block g hl⟩),h.ls,h.lc,h.lt,fun u hu b e=>Nat.lt_of_lt_of_le (h.hd u hu b e) hb.size⟩
theorem Wd.lt' {w:World} {bw:Nat} {vs vc vt:Value} {ss cc tt:List Value} (h:Wd w bw vs vc vt ss cc tt):bw < w.heap.size:=(Array.getElem?_eq_some_iff.1 h.blk).1
theorem Wd.free {w:World} {bw:Nat} {vs vc vt:Value} {ss cc tt:List Value} (h:Wd w bw vs vc vt ss cc tt) {b:Nat} (hb:w.heap.size≤b):Free bw vs vc vt ss cc tt b:=
 ⟨⟨by have:=h.lt';omega,fun e=>by have:=(h.os.lt b e).2;omega,fun e=>by have:=(h.oc.lt b e).2;omega,fun e=>by have:=(h.ot.lt b e).2;omega⟩,fun u hu e=>by have:=h.hd u hu b e;omega⟩
theorem drewN_drewN (w:World) (a b:Nat):(w.drewN a).drewN b=w.drewN (a+b):=by
 simp [World.drewN,Nat.add_assoc]
end lw
namespace lw
open Go
end lw
end Go.Proofs.YtnmfmoimjkoieaaGreatDoor
