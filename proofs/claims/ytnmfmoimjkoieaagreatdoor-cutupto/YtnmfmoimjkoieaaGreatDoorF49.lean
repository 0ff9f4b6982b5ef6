import Derived.Test.YtnmfmoimjkoieaaGreatDoorCards
import Derived.Test.YtnmfmoimjkoieaaGreatDoorTie
import Derived.Test.YtnmfmoimjkoieaaGreatDoorF48
import Derived.ChangeSlices
import Derived.ChangeArms
import Derived.ChangeReads
import Derived.DataShut
import Derived.Stop.LaidTwo
import Derived.Stop.LaidErr
import Derived.ChangeBears2
import Derived.ChangeOld
import Derived.Carry
import Derived.Lib.LaidIn
import Derived.Lib.LaidU8T
import Derived.Deep.DeepHandedRow
import Derived.Deep.DeepWitnessRowRef
import Derived.ProofKit
import Derived.SizedLaws
namespace Go.Proofs.YtnmfmoimjkoieaaGreatDoor
namespace cut
open Go.Shelf Go.ChangeShapes Go.WideShapes Go.ChangeAt Go.RowKit Go.Lib topPlain topWalks
open Go.ChangeMaps (open_string shut_string)
open br (Gd cut_all)
theorem own:ownKnob Tryz.prog.godebug=none:=by kernel_rfl
abbrev shortS:ByteArray:={ data:=#[110,111,116,32,97,32,119,104,111,108,101,32,112,97,99,107,101,116] }
abbrev wrongS:ByteArray:={ data:=#[110,111,32,112,97,99,107,101,116] }
noncomputable def low:Nat:=(World.holding Tryz.prog default ⟨#[],#[],[]⟩).heap.size
theorem gS:Tryz.prog.globalNamed "courant/packets.ErrShort" = some 1:=by kernel_rfl
theorem gW:Tryz.prog.globalNamed "courant/packets.ErrWrong" = some 0:=by kernel_rfl
theorem gSType:(Tryz.prog.globals[1]?).map (·.type)=some 118:=by kernel_rfl
theorem gWType:(Tryz.prog.globals[0]?).map (·.type)=some 118:=by kernel_rfl
theorem cellsE:Tryz.prog.cellsOf 354=1:=by kernel_rfl
theorem cellsS:Tryz.prog.cellsOf 9=1:=by kernel_rfl
theorem star: "*" ++ "errors.errorString" = "*errors.errorString":=by decide
theorem rowE (u:TypeId) (h:Tryz.prog.typeName? 3 u=some "*errors.errorString"):u=331:=
 typeName_ptr_named (nm:= "errors.errorString") (by rw [star];kernel_rfl) (by kernel_rfl) (by decide) u (by rw [star];exact h)
noncomputable def laidIn (os:Os):World:=
 let w0:=World.holding Tryz.prog os ⟨#[.cells #[.string shortS] 354,.cells #[.string wrongS] 354],#[],[]⟩
 let put (h:Array Obj) (g:Nat) (cs:Array Value):Array Obj:=h.modify g fun
  | .cells _ t frozen=>.cells cs t frozen
  | o=>o
 let h1:=put w0.heap (Tryz.lays196_ren.g 3) (Lib.firstTab.map fun z=>Value.int .u8 z).toArray
 let h2:=put h1 (Tryz.lays196_ren.g 4) ((List.range 16).flatMap fun i=>[Value.int .u8 (Lib.accLo i),Value.int .u8 (Lib.accHi i)]).toArray
 let h3:=put h2 1 #[.iface 331 (.pointer (some ⟨low,0,none⟩))]
 let h4:=put h3 0 #[.iface 331 (.pointer (some ⟨low+1,0,none⟩))]
 { w0 with heap:=h4 }
theorem laid_is:Rows.cutUptoRow.laid = [("unicode/utf8.acceptRanges",Lib.acceptData),("courant/packets.ErrShort",Rows.laid_courant_packets_ErrShort),("courant/packets.ErrWrong",Rows.laid_courant_packets_ErrWrong),("unicode/utf8.first",Lib.firstData)]:=by kernel_rfl
theorem laid_met (os:Os) (args:Array Value):laidMet Tryz.prog Rows.cutUptoRow.laid ((laidIn os).forCall (fun _ _=>0) ⟨#[],args,[]⟩).memory:=by
 rw [laid_is]
 exact (LaidIn.of_run (l:=[("unicode/utf8.acceptRanges",Lib.acceptData),("courant/packets.ErrShort",Rows.laid_courant_packets_ErrShort),("courant/packets.ErrWrong",Rows.laid_courant_packets_ErrWrong),("unicode/utf8.first",Lib.firstData)]) [Tryz.lays196_ren.g 4,Tryz.lays196_ren.g 3,1,0,low,low+1] 8 (by kernel_rfl) (by kernel_rfl) (by kernel_rfl) (by kernel_rfl)).met
abbrev zeroI:Value:=.int .i64 0
abbrev zeroS:Value:=.string ⟨#[]⟩
abbrev nilS:Value:=.slice none 0 0
theorem witness_row (os:Os) {H:Type} (enc:TypeId×Value→H) :
 (Rows.OpenSpec.upto Rows.cutSpec).preRow enc Tryz.prog Tryz.f7 Rows.cutUptoRow.domain false Rows.cutUptoRow.laid ((laidIn os).forCall (fun _ _=>0) ⟨#[],#[zeroI,zeroI,zeroS,nilS],[]⟩).memory #[zeroI,zeroI,zeroS,nilS]:=by
 have hw:(DataW.whole enc Tryz.prog ((laidIn os).forCall (fun _ _=>0) ⟨#[],#[zeroI,zeroI,zeroS,nilS],[]⟩).memory Tryz.f7.params.toList (Rows.OpenSpec.upto Rows.cutSpec).vars false #[zeroI,zeroI,zeroS,nilS].toList 8).map (fun x=>(x.1,x.2.1)) =
  some ([.lit (.int .i64 0),.lit (.int .i64 0),.lit (.string []),.nil],[]):=by kernel_rfl
 obtain ⟨⟨x1,x2,x3⟩,hx,hx1⟩:=Option.map_eq_some_iff.1 hw
 simp only [Prod.mk.injEq] at hx1
 obtain ⟨rfl,rfl⟩:=hx1
 exact OpenSpec.preRow_of_cond 8 hx (by kernel_rfl) (fun k hk=>by cases hk;kernel_rfl) (by kernel_rfl) (laid_met os _)
theorem reads {W:World} (hL:laidMetH Tryz.prog Rows.cutUptoRow.laid W):laidMet Tryz.prog [("unicode/utf8.acceptRanges",Lib.acceptData),("courant/packets.ErrShort",Rows.laid_courant_packets_ErrShort),("courant/packets.ErrWrong",Rows.laid_courant_packets_ErrWrong),("unicode/utf8.first",Lib.firstData)] W:=by
 rw [laid_is] at hL
 exact hL
theorem i64_wf {n:Int} (h:(Lit.int .i64 n).wf=true):-9223372036854775808≤n∧n≤9223372036854775807:=by
 have:=(Lit.wf_int_iff .i64 n).1 h
 simpa [IntKind.min,IntKind.max,IntKind.signed,IntKind.bits] using this
theorem adr (g o j:Nat):(⟨g,o,none⟩:Addr).add j=⟨g,o+j,none⟩:=by simp [Addr.add]
theorem bulk_pos {H:Type} (d:DataW H):1≤Rows.uptoBulk d:=by
 cases d with
 | lit l=>cases l<;>simp [Rows.uptoBulk]
 | _=>simp [Rows.uptoBulk]
theorem bulk_len {H:Type}:∀ l:List (DataW H),l.length≤Rows.uptoBulkAll l
 | []=>Nat.zero_le _
 | d :: r=>by
   have:=bulk_pos d
   have:=bulk_len r
   simp only [Rows.uptoBulkAll,List.length_cons]
   omega
theorem open_cuts {H:Type} {enc:TypeId×Value→H} {W:World} {fuel:Nat} {p:Option Addr} {len cap:Nat} {x:DataW H×List MemPlace} (h:DataW.trod enc Tryz.prog W 0 (fun _=>true) true fuel 34 [.slice p len cap]=some x) :
 ∃ cs:List Int,cs.length=len∧(∀ (j:Nat) c,cs[j]?=some c→∃ g o,p=some ⟨g,o,none⟩∧g < W.heap.size∧cs.length≤cap∧cap≤maxLen∧W.cell? ⟨g,o+j,none⟩=some (.int .i64 c))∧(∀ (j:Nat) c,cs[j]?=some c→-9223372036854775808≤c∧c≤9223372036854775807)∧(Rows.uptoBulk x.1≤1048576→cs.length≤1048576):=by
 rcases open_ints Tryz.underlying34 Tryz.underlying3 (by kernel_rfl) h with ⟨h0,_⟩ | ⟨a,len',cap',zs,h0,_,hl,hm,hz,hx,hat,hwf⟩
 · injection h0 with h0 _
   cases h0
   exact ⟨[],rfl,(fun j c hj=>by simp at hj),(fun j c hj=>by simp at hj),fun _=>Nat.zero_le _⟩
 · injection h0 with h0 _
   cases h0
   simp only [if_true] at hz
   have hlz:(zs.take len).length=len:=by rw [List.length_take];omega
   refine ⟨zs.take len,hlz,fun j c hj=>?_,fun j c hj=>?_,fun hb=>?_⟩
   · have hjl:j < len:=by have:=(List.getElem?_eq_some_iff.1 hj).1;omega
     have c0:=hat j (by omega)
     have hfe:zs.getD j 0=c:=by
      rw [List.getElem?_take_of_lt hjl] at hj
      rw [List.getD_eq_getElem?_getD,hj]
      rfl
     rw [hfe] at c0
     obtain ⟨g,o,spot⟩:=a
     have hspot:spot=none:=by simpa [Addr.add] using World.cell?_spot (hat 0 (by omega))
     subst hspot
     rw [adr] at c0
     exact ⟨g,o,rfl,topWalks.cell_lt c0,by omega,hm,c0⟩
   · exact i64_wf (hwf c (List.mem_of_mem_take (List.mem_of_getElem? hj)))
   · rw [hx] at hb
     simp only [Rows.uptoBulk] at hb
     have h1:=bulk_len (lits (H:=H) .i64 (zs.take len))
     rw [show (lits (H:=H) .i64 (zs.take len)).length=(zs.take len).length by simp [lits]] at h1
     omega
theorem laidOut:laidOutB Tryz.prog=true:=by kernel_rfl
theorem readM:Tryz.prog.readableRec 34=true:=by kernel_rfl
theorem rowM:34 < Tryz.prog.types.size:=of_decide_eq_true (by kernel_rfl)
open Go.WideElems in
theorem carry {H:Type} {enc:TypeId×Value→H} {W W':World} {v:Value} {d:DataW H} {ps:List MemPlace} (hb:Below W.heap.size W W') (h:DataW.Trod enc Tryz.prog W 0 (fun _=>true) true 34 v d ps):DataW.Trod enc Tryz.prog W' 0 (fun b=>decide (b < W.heap.size)) true 34 v d ps:=by
 obtain ⟨n,hn⟩:=h
 have hp:=DataW.trod_lt n _ _ _ hn
 exact ⟨n,DataW.trod_stays (kids_book laidOut readM) (book_sized readM) (fun h=>by cases h) ⟨rowM,book_self 34⟩ hn (fun x hx=>hb.same (hp x hx)) (fun x hx=>by simpa using hp x hx)⟩
set_option maxRecDepth 100000 in
set_option maxHeartbeats 2000000 in
theorem lifted (os:Os) (started:os.Started) (H:Type) (enc:TypeId×Value→H) (F:Stop.Interp) :
 ReturnsInHanded {} Tryz.checked os 7 .any ((Rows.OpenSpec.upto Rows.cutSpec).preRow enc Tryz.prog Tryz.f7 Rows.cutUptoRow.domain false Rows.cutUptoRow.laid) (((Rows.OpenSpec.upto Rows.cutSpec).at F).post enc Tryz.prog Tryz.f7 false true false false):=by
 refine returnsInHanded_of_row (C:=Tryz.checked) (s:=Rows.OpenSpec.upto Rows.cutSpec) own started (by kernel_rfl) Tryz.func7
  (witness_row_atRef (enc:=enc) (C:=Tryz.checked) false (laidIn os) #[zeroI,zeroI,zeroS,nilS] rfl (by kernel_rfl) (by kernel_rfl) (by kernel_rfl) (witness_row os enc)) ?_
 intro W base args ds gs before hval0 hW _ hcond0 _ hL hsh _
 have hcond:Rows.uptoSmall H (ds ++ gs)=true:=hcond0 _ rfl
 clear hcond0
 have hval:∀ (j:Nat) t v,Tryz.f7.params[j]?=some t→args[j]?=some v→Value.okWide Tryz.prog W .any base t v:=hval0
 have hW':=hW
 obtain ⟨p,q,hA0,hV0,rfl,_,_⟩:=hW
 have hA:DataW.TrodAll enc Tryz.prog W 0 (fun _=>true) true Tryz.f7.params.toList args.toList ds p:=hA0
 rw [Tryz.params7] at hA hval
 obtain ⟨v0,v1,v2,v3,d0,d1,d2,d3,p0,p1,p2,p3,rfl,rfl,rfl,h0,h1,h2,h3⟩:=trodAll_four hA
 obtain ⟨rfl,rfl⟩:=trodVars_none hV0
 obtain ⟨z0,rfl,rfl,rfl,wz0⟩:=Go.ChangeShapes.open_int Tryz.underlying3 (hval 0 3 v0 rfl rfl) h0
 obtain ⟨z1,rfl,rfl,rfl,wz1⟩:=Go.ChangeShapes.open_int Tryz.underlying3 (hval 1 3 v1 rfl rfl) h1
 obtain ⟨t,rfl,rfl,rfl,wt⟩:=open_string Tryz.underlying9 (hval 2 9 v2 rfl rfl) h2
 obtain ⟨q3,len,cap,rfl⟩:=okWide_slice Tryz.underlying34 (hval 3 34 v3 rfl rfl)
 have k3:=h3
 obtain ⟨m3,g3⟩:=h3
 obtain ⟨cs,rfl,kc1,kc2,kc3⟩:=open_cuts g3
 have hk:=of_decide_eq_true hcond
 simp only [List.append_nil,Rows.uptoBulkAll,Rows.uptoBulk] at hk
 have zt:=Lib.size_eq t
 have hb3:Rows.uptoBulk d3≤1048576:=by omega
 clear hA0 hV0 hval0
 have hI:topWalks.Inv W:=
  ⟨utf8Tabs_of_readsT (U8Types.of196 Tryz.lays196) ⟨by kernel_rfl,by kernel_rfl,by kernel_rfl,by kernel_rfl,by kernel_rfl,by kernel_rfl,by kernel_rfl⟩ (Lib.laidMet.reads (reads hL) (.tail _ (.tail _ (.tail _ (.head _))))) (Lib.laidMet.reads (reads hL) (.head _)),
   Tryz.laysM144.s1_3 W hsh⟩
 obtain ⟨a0,a1,s0,s1,c0,c1,t0,t1,hv0,hv1,hc0,hs0,hz0,hc1,hs1,hz1,hne,hb0,hb1⟩:=laid_sentinels2 (laidMet.tail (reads hL)) gS gSType gW gWType Tryz.underlying118 rowE Tryz.underlying331 Tryz.underlying354 rfl rfl Tryz.underlying9 cellsE cellsS
 have hE:rd.Errs a0 a1 W:=⟨var?_cell gS hv0 0,var?_cell gW hv1 0,hne,⟨c0,t0,hb0⟩,⟨c1,t1,hb1⟩⟩
 have hG:Gd W.heap.size a0 a1 W:=by
  refine ⟨hE,⟨?_,Nat.le_refl _,hE.wrong,hI⟩,(Array.getElem?_eq_some_iff.1 hb0).1,(Array.getElem?_eq_some_iff.1 hb1).1⟩
  obtain ⟨m,hm⟩:=hI.2
  have h1:Tryz.laysM144_ren.g 1 < W.heap.size:=topWalks.cell_lt hm
  have e:Tryz.laysM144_ren.g 1+1=5:=rfl
  omega
 refine (cut_all a0 a1 z0 z1 t q3 cap cs W hG (by omega) (kc3 hb3) kc2 (i64_wf wz0).1 (i64_wf wz0).2 (i64_wf wz1).1 (i64_wf wz1).2 kc1).mono ?_
 rintro e W' ⟨rfl,bel⟩
 refine ⟨_,rfl,_,_,_,[],[] ++ ([] ++ ([] ++ p3)),[],hW',?_,?_,?_,bel.frame _,fun h=>by cases h⟩
 · exact trodAll_mk1 (shut_bool Tryz.underlying4 _)
 · exact trodAll_mk4 (shut_int Tryz.underlying3 wz0) (shut_int Tryz.underlying3 wz1) (shut_string Tryz.underlying9 wt) (carry bel k3)
 · rfl
end cut
end Go.Proofs.YtnmfmoimjkoieaaGreatDoor
