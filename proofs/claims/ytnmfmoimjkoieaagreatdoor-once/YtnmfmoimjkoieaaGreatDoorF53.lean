import Derived.Test.YtnmfmoimjkoieaaGreatDoorCards
import Derived.Test.YtnmfmoimjkoieaaGreatDoorTie
import Derived.Test.YtnmfmoimjkoieaaGreatDoorF52
import Derived.Deep.Slices
import Derived.ChangeSlices
import Derived.ChangeArms
import Derived.ChangeReads
import Derived.DataShut
import Derived.Stop.LaidTwo
import Derived.Stop.LaidErr
import Derived.ChangeBears2
import Derived.ChangeOld
import Derived.Carry
import Derived.Lib.LaidIn
import Derived.Lib.LaidU8T
import Derived.Deep.DeepHandedRow
import Derived.Deep.DeepWitnessRowRef
import Derived.ProofKit
import Derived.SizedLaws
namespace Go.Proofs.YtnmfmoimjkoieaaGreatDoor
namespace once
open Go.Shelf Go.ChangeShapes Go.WideShapes Go.ChangeAt Go.RowKit Go.Lib topPlain topWalks
open br (Gd)
theorem own:ownKnob Tryz.prog.godebug=none:=by kernel_rfl
abbrev shortS:ByteArray:={ data:=#[110,111,116,32,97,32,119,104,111,108,101,32,112,97,99,107,101,116] }
abbrev wrongS:ByteArray:={ data:=#[110,111,32,112,97,99,107,101,116] }
noncomputable def low:Nat:=(World.holding Tryz.prog default ⟨#[],#[],[]⟩).heap.size
theorem gS:Tryz.prog.globalNamed "courant/packets.ErrShort" = some 1:=by kernel_rfl
theorem gW:Tryz.prog.globalNamed "courant/packets.ErrWrong" = some 0:=by kernel_rfl
theorem gSType:(Tryz.prog.globals[1]?).map (·.type)=some 118:=by kernel_rfl
theorem gWType:(Tryz.prog.globals[0]?).map (·.type)=some 118:=by kernel_rfl
theorem cellsE:Tryz.prog.cellsOf 354=1:=by kernel_rfl
theorem cellsS:Tryz.prog.cellsOf 9=1:=by kernel_rfl
theorem star: "*" ++ "errors.errorString" = "*errors.errorString":=by decide
theorem rowE (u:TypeId) (h:Tryz.prog.typeName? 3 u=some "*errors.errorString"):u=331:=
 typeName_ptr_named (nm:= "errors.errorString") (by rw [star];kernel_rfl) (by kernel_rfl) (by decide) u (by rw [star];exact h)
noncomputable def laidIn (os:Os):World:=
 let w0:=World.holding Tryz.prog os ⟨#[.cells #[.string shortS] 354,.cells #[.string wrongS] 354],#[],[]⟩
 let put (h:Array Obj) (g:Nat) (cs:Array Value):Array Obj:=h.modify g fun
  | .cells _ t frozen=>.cells cs t frozen
  | o=>o
 let h1:=put w0.heap (Tryz.lays196_ren.g 3) (Lib.firstTab.map fun z=>Value.int .u8 z).toArray
 let h2:=put h1 (Tryz.lays196_ren.g 4) ((List.range 16).flatMap fun i=>[Value.int .u8 (Lib.accLo i),Value.int .u8 (Lib.accHi i)]).toArray
 let h3:=put h2 1 #[.iface 331 (.pointer (some ⟨low,0,none⟩))]
 let h4:=put h3 0 #[.iface 331 (.pointer (some ⟨low+1,0,none⟩))]
 { w0 with heap:=h4 }
theorem laid_is:Rows.onceRow.laid = [("unicode/utf8.acceptRanges",Lib.acceptData),("courant/packets.ErrShort",Rows.laid_courant_packets_ErrShort),("courant/packets.ErrWrong",Rows.laid_courant_packets_ErrWrong),("unicode/utf8.first",Lib.firstData)]:=by kernel_rfl
theorem laid_met (os:Os) (args:Array Value):laidMet Tryz.prog Rows.onceRow.laid ((laidIn os).forCall (fun _ _=>0) ⟨#[],args,[]⟩).memory:=by
 rw [laid_is]
 exact (LaidIn.of_run (l:=[("unicode/utf8.acceptRanges",Lib.acceptData),("courant/packets.ErrShort",Rows.laid_courant_packets_ErrShort),("courant/packets.ErrWrong",Rows.laid_courant_packets_ErrWrong),("unicode/utf8.first",Lib.firstData)]) [Tryz.lays196_ren.g 4,Tryz.lays196_ren.g 3,1,0,low,low+1] 8 (by kernel_rfl) (by kernel_rfl) (by kernel_rfl) (by kernel_rfl)).met
abbrev zeroI:Value:=.int .i64 0
abbrev zeroL:Value:=.slice none 0 0
theorem witness_row (os:Os) {H:Type} (enc:TypeId×Value→H) :
 (OpenSpec.ofChange Rows.onceSpec).preRow enc Tryz.prog Tryz.f8 Rows.onceRow.domain false Rows.onceRow.laid ((laidIn os).forCall (fun _ _=>0) ⟨#[],#[zeroI,zeroI,zeroI,zeroL],[]⟩).memory #[zeroI,zeroI,zeroI,zeroL]:=by
 have hw:(DataW.whole enc Tryz.prog ((laidIn os).forCall (fun _ _=>0) ⟨#[],#[zeroI,zeroI,zeroI,zeroL],[]⟩).memory Tryz.f8.params.toList (OpenSpec.ofChange Rows.onceSpec).vars false #[zeroI,zeroI,zeroI,zeroL].toList 8).map (fun x=>(x.1,x.2.1)) =
  some ([.lit (.int .i64 0),.lit (.int .i64 0),.lit (.int .i64 0),.nil],[]):=by kernel_rfl
 obtain ⟨⟨x1,x2,x3⟩,hx,hx1⟩:=Option.map_eq_some_iff.1 hw
 simp only [Prod.mk.injEq] at hx1
 obtain ⟨rfl,rfl⟩:=hx1
 exact OpenSpec.preRow_of_cond 8 hx (by kernel_rfl) (fun k hk=>by cases hk) (by kernel_rfl) (laid_met os _)
theorem reads {W:World} (hL:laidMetH Tryz.prog Rows.onceRow.laid W):laidMet Tryz.prog [("unicode/utf8.acceptRanges",Lib.acceptData),("courant/packets.ErrShort",Rows.laid_courant_packets_ErrShort),("courant/packets.ErrWrong",Rows.laid_courant_packets_ErrWrong),("unicode/utf8.first",Lib.firstData)] W:=by
 rw [laid_is] at hL
 exact hL
theorem i64_wf {n:Int} (h:(Lit.int .i64 n).wf=true):-9223372036854775808≤n∧n≤9223372036854775807:=by
 have:=(Lit.wf_int_iff .i64 n).1 h
 simpa [IntKind.min,IntKind.max,IntKind.signed,IntKind.bits] using this
def numO:Option Value→Int
 | some (.int _ n)=>n
 | _=>0
theorem adr (g o j:Nat):(⟨g,o,none⟩:Addr).add j=⟨g,o+j,none⟩:=by simp [Addr.add]
theorem c3:Tryz.prog.cellsOf 3=1:=by kernel_rfl
theorem cM:Tryz.prog.cellsOf 73=3:=by kernel_rfl
set_option maxHeartbeats 1600000 in
set_option maxRecDepth 100000 in
theorem open_moves {H:Type} {enc:TypeId×Value→H} {W:World} {fuel:Nat} {p:Option Addr} {len cap:Nat} {x:DataW H×List MemPlace} (h:DataW.trod enc Tryz.prog W 0 (fun _=>true) true fuel 68 [.slice p len cap]=some x) :
 ∃ Ms:List (Int×Int×Int),Ms.length=len∧kp.MovesAt W p Ms∧len≤9223372036854775807∧∀ (i:Nat) m,Ms[i]?=some m→(-9223372036854775808≤m.1∧m.1≤9223372036854775807)∧(-9223372036854775808≤m.2.1∧m.2.1≤9223372036854775807)∧(-9223372036854775808≤m.2.2∧m.2.2≤9223372036854775807):=by
 rcases Deep.open_slice Tryz.underlying68 h with ⟨h0,_⟩ | ⟨a,len',cap',m,n,D,Pl,h0,_,hl,hm,hmm,_,hx⟩
 · injection h0 with h0 _
   cases h0
   exact ⟨[],rfl,fun i m hi=>by simp at hi,Nat.zero_le _,fun i m hi=>by simp at hi⟩
 · injection h0 with h0 _
   cases h0
   simp only [if_true] at hmm
   subst hmm
   have key:∀ i,i < len→∃ z0 z1 z2,W.cell? (a.add (i*3))=some (.int .i64 z0)∧W.cell? ((a.add (i*3)).add 1)=some (.int .i64 z1)∧W.cell? ((a.add (i*3)).add 2)=some (.int .i64 z2)∧(Lit.int .i64 z0).wf=true∧(Lit.int .i64 z1).wf=true∧(Lit.int .i64 z2).wf=true:=fun i hi=>by
    obtain ⟨cs',h1,h2⟩:=hx i (by omega)
    rw [cM] at h1
    obtain ⟨_,hlen,hcell⟩:=World.cells?_some h1
    obtain ⟨xs,k,_,_,_,hxl,hf⟩:=DataW.trod_struct Tryz.underlying73 h2
    match xs,hxl,cs',hlen with
    | [y0,y1,y2],_,[v0,v1,v2],_ =>
      have g0:=hf 0 _ rfl
      have g1:=hf 1 _ rfl
      have g2:=hf 2 _ rfl
      simp [c3] at g0 g1 g2
      obtain ⟨n0,e0,_,w0⟩:=DataW.trod_int Tryz.underlying3 g0
      obtain ⟨n1,e1,_,w1⟩:=DataW.trod_int Tryz.underlying3 g1
      obtain ⟨n2,e2,_,w2⟩:=DataW.trod_int Tryz.underlying3 g2
      injection e0 with e0 _
      injection e1 with e1 _
      injection e2 with e2 _
      subst e0 e1 e2
      have k0:=hcell 0 (by omega)
      have k1:=hcell 1 (by omega)
      have k2:=hcell 2 (by omega)
      exact ⟨n0,n1,n2,by simpa [Addr.add] using k0,by simpa using k1,by simpa using k2,w0,w1,w2⟩
   unfold maxLen at hm
   refine ⟨(List.range len).map fun i=>(numO (W.cell? (a.add (i*3))),numO (W.cell? ((a.add (i*3)).add 1)),numO (W.cell? ((a.add (i*3)).add 2))),by simp,fun i m hi=>?_,by omega,fun i m hi=>?_⟩
   · have hil:i < len:=by have:=(List.getElem?_eq_some_iff.1 hi).1;simpa using this
     obtain ⟨z0,z1,z2,e0,e1,e2,_⟩:=key i hil
     have hme:m=(z0,z1,z2):=by
      simp [hil,e0,e1,e2,numO] at hi
      exact hi.symm
     subst hme
     obtain ⟨g,o,spot⟩:=a
     have hspot:spot=none:=by
      obtain ⟨y0,_,_,f0,_⟩:=key 0 (by omega)
      simpa [Addr.add] using World.cell?_spot f0
     subst hspot
     rw [adr] at e0 e1 e2
     rw [adr] at e1 e2
     exact ⟨g,o,rfl,topWalks.cell_lt e0,e0,e1,e2⟩
   · have hil:i < len:=by have:=(List.getElem?_eq_some_iff.1 hi).1;simpa using this
     obtain ⟨z0,z1,z2,e0,e1,e2,f0,f1,f2⟩:=key i hil
     have hme:m=(z0,z1,z2):=by
      simp [hil,e0,e1,e2,numO] at hi
      exact hi.symm
     subst hme
     exact ⟨i64_wf f0,i64_wf f1,i64_wf f2⟩
theorem laidOut:laidOutB Tryz.prog=true:=by kernel_rfl
theorem readM:Tryz.prog.readableRec 68=true:=by kernel_rfl
theorem rowM:68 < Tryz.prog.types.size:=of_decide_eq_true (by kernel_rfl)
open Go.WideElems in
theorem carry {H:Type} {enc:TypeId×Value→H} {W W':World} {v:Value} {d:DataW H} {ps:List MemPlace} (hb:Below W.heap.size W W') (h:DataW.Trod enc Tryz.prog W 0 (fun _=>true) true 68 v d ps):DataW.Trod enc Tryz.prog W' 0 (fun b=>decide (b < W.heap.size)) true 68 v d ps:=by
 obtain ⟨n,hn⟩:=h
 have hp:=DataW.trod_lt n _ _ _ hn
 exact ⟨n,DataW.trod_stays (kids_book laidOut readM) (book_sized readM) (fun h=>by cases h) ⟨rowM,book_self 68⟩ hn (fun x hx=>hb.same (hp x hx)) (fun x hx=>by simpa using hp x hx)⟩
set_option maxRecDepth 100000 in
set_option maxHeartbeats 2000000 in
theorem lifted (os:Os) (started:os.Started) (H:Type) (enc:TypeId×Value→H) (F:Stop.Interp) :
 ReturnsInHanded {} Tryz.checked os 8 .any ((OpenSpec.ofChange Rows.onceSpec).preRow enc Tryz.prog Tryz.f8 Rows.onceRow.domain false Rows.onceRow.laid) (((OpenSpec.ofChange Rows.onceSpec).at F).post enc Tryz.prog Tryz.f8 false true false false):=by
 refine returnsInHanded_of_row (C:=Tryz.checked) (s:=OpenSpec.ofChange Rows.onceSpec) own started (by kernel_rfl) Tryz.func8
  (witness_row_atRef (enc:=enc) (C:=Tryz.checked) false (laidIn os) #[zeroI,zeroI,zeroI,zeroL] rfl (by kernel_rfl) (by kernel_rfl) (by kernel_rfl) (witness_row os enc)) ?_
 intro W base args ds gs before hval0 hW _ _ _ hL hsh _
 have hval:∀ (j:Nat) t v,Tryz.f8.params[j]?=some t→args[j]?=some v→Value.okWide Tryz.prog W .any base t v:=hval0
 have hW':=hW
 obtain ⟨p,q,hA0,hV0,rfl,_,_⟩:=hW
 have hA:DataW.TrodAll enc Tryz.prog W 0 (fun _=>true) true Tryz.f8.params.toList args.toList ds p:=hA0
 rw [Tryz.params8] at hA hval
 obtain ⟨v0,v1,v2,v3,d0,d1,d2,d3,p0,p1,p2,p3,rfl,rfl,rfl,h0,h1,h2,h3⟩:=trodAll_four hA
 obtain ⟨rfl,rfl⟩:=trodVars_none hV0
 obtain ⟨z0,rfl,rfl,rfl,wz0⟩:=Go.ChangeShapes.open_int Tryz.underlying3 (hval 0 3 v0 rfl rfl) h0
 obtain ⟨z1,rfl,rfl,rfl,wz1⟩:=Go.ChangeShapes.open_int Tryz.underlying3 (hval 1 3 v1 rfl rfl) h1
 obtain ⟨z2,rfl,rfl,rfl,wz2⟩:=Go.ChangeShapes.open_int Tryz.underlying3 (hval 2 3 v2 rfl rfl) h2
 obtain ⟨q3,len,cap,rfl⟩:=okWide_slice Tryz.underlying68 (hval 3 68 v3 rfl rfl)
 have k3:=h3
 obtain ⟨m3,g3⟩:=h3
 obtain ⟨Ms,rfl,hMs,hMl,hMr⟩:=open_moves g3
 clear hA0 hV0 hval0
 have hI:topWalks.Inv W:=
  ⟨utf8Tabs_of_readsT (U8Types.of196 Tryz.lays196) ⟨by kernel_rfl,by kernel_rfl,by kernel_rfl,by kernel_rfl,by kernel_rfl,by kernel_rfl,by kernel_rfl⟩ (Lib.laidMet.reads (reads hL) (.tail _ (.tail _ (.tail _ (.head _))))) (Lib.laidMet.reads (reads hL) (.head _)),
   Tryz.laysM144.s1_3 W hsh⟩
 obtain ⟨a0,a1,s0,s1,c0,c1,t0,t1,hv0,hv1,hc0,hs0,hz0,hc1,hs1,hz1,hne,hb0,hb1⟩:=laid_sentinels2 (laidMet.tail (reads hL)) gS gSType gW gWType Tryz.underlying118 rowE Tryz.underlying331 Tryz.underlying354 rfl rfl Tryz.underlying9 cellsE cellsS
 have hE:rd.Errs a0 a1 W:=⟨var?_cell gS hv0 0,var?_cell gW hv1 0,hne,⟨c0,t0,hb0⟩,⟨c1,t1,hb1⟩⟩
 have hG:Gd W.heap.size a0 a1 W:=by
  refine ⟨hE,⟨?_,Nat.le_refl _,hE.wrong,hI⟩,(Array.getElem?_eq_some_iff.1 hb0).1,(Array.getElem?_eq_some_iff.1 hb1).1⟩
  obtain ⟨m,hm⟩:=hI.2
  have h1:Tryz.laysM144_ren.g 1 < W.heap.size:=topWalks.cell_lt hm
  have e:Tryz.laysM144_ren.g 1+1=5:=rfl
  omega
 refine (on.once_on z0 z1 z2 q3 cap Ms (i64_wf wz0).1 (i64_wf wz0).2 (i64_wf wz1).1 (i64_wf wz1).2 (i64_wf wz2).1 (i64_wf wz2).2 W a0 a1 hG hMs hMl hMr).mono ?_
 rintro e W' ⟨rfl,bel⟩
 refine ⟨_,rfl,_,_,_,[],[] ++ ([] ++ ([] ++ p3)),[],hW',?_,?_,?_,bel.frame _,fun h=>by cases h⟩
 · exact trodAll_mk1 (shut_bool Tryz.underlying4 _)
 · exact trodAll_mk4 (shut_int Tryz.underlying3 wz0) (shut_int Tryz.underlying3 wz1) (shut_int Tryz.underlying3 wz2) (carry bel k3)
 · rfl
end once
end Go.Proofs.YtnmfmoimjkoieaaGreatDoor
