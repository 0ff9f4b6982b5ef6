import Derived.Test.YtnmfmoimjkoieaaGreatDoorF45
import Derived.Deep.DeepWitnessRowRef
import Derived.Lib.LaidIn
import Derived.Lib.LaidU8T
import Derived.ProofKit
import Derived.Stop.LaidTwo
import Derived.Test.YtnmfmoimjkoieaaGreatDoorTie
set_option maxHeartbeats 25600000
set_option maxRecDepth 100000
set_option linter.all false
namespace Go.Proofs.YtnmfmoimjkoieaaGreatDoor
open Go.Proofs.Tryz Tryz
variable{H:Type}{W W':World}
namespace told
open Go.Shelf Go.ChangeShapes Go.WideShapes Go.ChangeAt Go.RowKit Go.Lib aD av
open Go.ChangeMaps (open_string shut_string)
open br (kE)
theorem own:ownKnob prog.godebug=none:=by kernel_rfl
abbrev amJ:ByteArray:={data:=#[110,111,116,32,97,32,119,104,111,108,101,32,112,97,99,107,101,116]}
abbrev apO:ByteArray:={data:=#[110,111,32,112,97,99,107,101,116]}
noncomputable def low:Nat:=(World.holding prog default ⟨#[],#[],[]⟩).heap.size
theorem Vb:prog.globalNamed "courant/packets.ErrShort" =some 1:=by kernel_rfl
theorem Vc:prog.globalNamed "courant/packets.ErrWrong" =some 0:=by kernel_rfl
theorem agw:(prog.globals[1]?).map (·.type)=some 118:=by kernel_rfl
theorem agx:(prog.globals[0]?).map (·.type)=some 118:=by kernel_rfl
theorem cellsE:prog.cellsOf 354=1:=by kernel_rfl
theorem adZ:prog.cellsOf 9=1:=by kernel_rfl
theorem star: "*" ++ "errors.errorString" = "*errors.errorString" :=by decide
theorem ami(u:TypeId)(h:prog.typeName? 3 u=some "*errors.errorString"):u=331:=typeName_ptr_named (nm:= "errors.errorString") (by rw[star];kernel_rfl) (by kernel_rfl) (by decide) u (by rw[star];exact h)
noncomputable def KD(os:Os):World:=let w0:=World.holding prog os ⟨#[.cells #[.string amJ] 354,.cells #[.string apO] 354],#[],[]⟩;let put(h:Array Obj)(g:Nat)(cs:Array Value):Array Obj:=h.modify g λ| .cells _ t frozen=>.cells cs t frozen|o=>o;let h1:=put w0.heap (vO.g 3) (Lib.firstTab.map λz=>Value.int .u8 z).toArray;let h2:=put h1 (vO.g 4) ((List.range 16).flatMap λi=>[Value.int .u8 (Lib.accLo i),Value.int .u8 (Lib.accHi i)]).toArray;let h3:=put h2 1 #[.iface 331 (.pointer (some ⟨low,0,none⟩))];let h4:=put h3 0 #[.iface 331 (.pointer (some ⟨low+1,0,none⟩))];{w0 with heap:=h4}
theorem Yy:Rows.toldUptoRow.laid=[("unicode/utf8.acceptRanges",Lib.acceptData),("courant/packets.ErrShort",Rows.laid_courant_packets_ErrShort),("courant/packets.ErrWrong",Rows.laid_courant_packets_ErrWrong),("unicode/utf8.first",Lib.firstData)]:=by kernel_rfl
theorem ajL(os:Os)(args:Array Value):laidMet prog Rows.toldUptoRow.laid ((KD os).forCall (λ_ _=>0) ⟨#[],args,[]⟩).memory:=by rw[Yy];exact(LaidIn.of_run (l:=[("unicode/utf8.acceptRanges",Lib.acceptData),("courant/packets.ErrShort",Rows.laid_courant_packets_ErrShort),("courant/packets.ErrWrong",Rows.laid_courant_packets_ErrWrong),("unicode/utf8.first",Lib.firstData)]) [vO.g 4,vO.g 3,1,0,low,low+1] 8 (by kernel_rfl) (by kernel_rfl) (by kernel_rfl) (by kernel_rfl)).met
abbrev HT:Value:=.agg #[.int .i64 0,.int .i64 0]
abbrev HV:Value:=.slice none 0 0
theorem apC(os:Os)(enc:TypeId×Value->H):(Rows.OpenSpec.upto Rows.toldSpec).preRow enc prog f5 Rows.toldUptoRow.domain false Rows.toldUptoRow.laid ((KD os).forCall (λ_ _=>0) ⟨#[],#[HT,HV],[]⟩).memory #[HT,HV]:=by
 have hw:(DataW.whole enc prog ((KD os).forCall (λ_ _=>0) ⟨#[],#[HT,HV],[]⟩).memory f5.params.toList (Rows.OpenSpec.upto Rows.toldSpec).vars false #[HT,HV].toList 8).map (λx=>(x.1,x.2.1))=some ([.agg [.lit (.int .i64 0),.lit (.int .i64 0)],.nil],[]):=by kernel_rfl
 obtain⟨⟨x1,x2,x3⟩,hx,hx1⟩:=iz.1 hw;simp only[Prod.mk.injEq]at hx1;obtain⟨rfl,rfl⟩:=hx1;exact OpenSpec.preRow_of_cond 8 hx (by kernel_rfl) (λk hk=>by cases hk;kernel_rfl) (by kernel_rfl) (ajL os _)
theorem reads(hL:laidMetH prog Rows.toldUptoRow.laid W):laidMet prog [("unicode/utf8.acceptRanges",Lib.acceptData),("courant/packets.ErrShort",Rows.laid_courant_packets_ErrShort),("courant/packets.ErrWrong",Rows.laid_courant_packets_ErrWrong),("unicode/utf8.first",Lib.firstData)] W:=by rw[Yy]at hL;exact hL
theorem laidOut:laidOutB prog=true:=by kernel_rfl
theorem alW:prog.readableRec 40=true:=by kernel_rfl
theorem amh:40<prog.types.size:=vS (by kernel_rfl)
theorem alZ:prog.readableRec 41=true:=by kernel_rfl
theorem amk:41<prog.types.size:=vS (by kernel_rfl)
theorem amu(hk:lt.wP W.heap.size W W'){p:MemPlace}(hp:p.block<W.heap.size):W.sameAt W' p:=by cases p with|cell b o=>exact eo (w:=W) (hk.2 b hp)|map b=>exact hk.2 b hp
open Go.WideElems in theorem carry{enc:TypeId×Value->H}{t:TypeId}(hr:prog.readableRec t=true)(ht:t<prog.types.size){v:Value}{d:DataW H}{ps:List MemPlace}(hb:lt.wP W.heap.size W W')(h:DataW.Trod enc prog W 0 (λ_=>true) true t v d ps):DataW.Trod enc prog W' 0 (λb=>decide (b<W.heap.size)) true t v d ps:=by obtain⟨n,hn⟩:=h;have hp:=DataW.trod_lt n _ _ _ hn;exact⟨n,DataW.trod_stays (kids_book laidOut hr) (book_sized hr) (λh=>by cases h) ⟨ht,book_self t⟩ hn (λx hx=>amu hb (hp x hx)) (λx hx=>by simpa using hp x hx)⟩
theorem iK:prog.cellsOf 40=2:=by kernel_rfl
theorem ak7{enc:TypeId×Value->H}{fuel:Nat}{vs:List Value}{x:DataW H×List MemPlace}(h:DataW.trod enc prog W 0 (λ_=>true) true fuel 40 vs=some x):∃a b,vs=[.int .i64 a,.int .i64 b]:=by obtain⟨xs,n,_,rfl,hlen,hxl,hf⟩:=DataW.trod_struct underlying40 h;rw[iK]at hlen;match xs,hxl,vs,hlen with|[y0,y1],_,[v0,v1],_=>have g0:=hf 0 _ rfl;have g1:=hf 1 _ rfl;simp[c3]at g0 g1;obtain⟨n0,e0,_⟩:=u5 underlying3 g0;obtain⟨n1,e1,_⟩:=u5 underlying3 g1;injection e0 with e0 _;injection e1 with e1 _;exact⟨n0,n1,by rw[e0,e1]⟩
theorem lifted(os:Os)(started:os.Started)(H:Type)(enc:TypeId×Value->H)(F:Stop.Interp):ReturnsInHanded {} checked os 5 .any ((Rows.OpenSpec.upto Rows.toldSpec).preRow enc prog f5 Rows.toldUptoRow.domain false Rows.toldUptoRow.laid) (((Rows.OpenSpec.upto Rows.toldSpec).at F).post enc prog f5 false true false false):=by
 refine returnsInHanded_of_row (C:=checked) (s:=Rows.OpenSpec.upto Rows.toldSpec) own started (by kernel_rfl) func5 (witness_row_atRef (enc:=enc) (C:=checked) false (KD os) #[HT,HV] rfl (by kernel_rfl) (by kernel_rfl) (by kernel_rfl) (apC os enc)) ?_;intro W base args ds gs before XT hW _ Wu _ hL hsh _;have hcond:Rows.uptoSmall H (ds++gs)=true:=Wu _ rfl;clear Wu;have hval:∀(j:Nat) t v,f5.params[j]?=some t->args[j]?=some v->Value.okWide prog W .any base t v:=XT;have hW':=hW;obtain⟨p,q,ju,V5,rfl,_,_⟩:=hW;have hA:DataW.TrodAll enc prog W 0 (λ_=>true) true f5.params.toList args.toList ds p:=ju;rw[params5]at hA hval;obtain⟨v0,v1,d0,d1,p0,p1,rfl,rfl,rfl,h0,h1⟩:=trodAll_two hA;obtain⟨rfl,rfl⟩:=trodVars_none V5;obtain⟨SV,rfl,hz0'⟩:=okWide_struct underlying40 (hval 0 40 v0 rfl rfl);obtain⟨q1,len,cap,rfl⟩:=okWide_slice underlying41 (hval 1 41 v1 rfl rfl);have k0:=h0;have k1:=h1;obtain⟨m0,g0⟩:=h0;obtain⟨m1,g1⟩:=h1;obtain⟨win,bf,e0⟩:=ak7 g0;obtain⟨q,k,os',e1,b1⟩:=ald g1;cases e1;clear ju V5 XT;have hk:=vS hcond;simp only[ek,Rows.uptoBulkAll]at hk;have ok1:=b1 (show Rows.uptoBulk d1<=_ by omega);have q0:(Value.agg SV).cells=#[.int .i64 win,.int .i64 bf]:=by rw[<-Array.toList_inj];exact e0
 have alQ:SV=#[.int .i64 win,.int .i64 bf]:=by simpa[Value.cells]using q0
 subst alQ;have hI:av.Inv W:=⟨utf8Tabs_of_readsT (U8Types.of196 Yz) ⟨by kernel_rfl,by kernel_rfl,by kernel_rfl,by kernel_rfl,by kernel_rfl,by kernel_rfl,by kernel_rfl⟩ (Lib.laidMet.reads (reads hL) (.tail _ (.tail _ (.tail _ (.head _))))) (Lib.laidMet.reads (reads hL) (.head _)),aj0.s1_3 W hsh⟩;obtain⟨a0,a1,s0,s1,c0,c1,t0,t1,hv0,hv1,hc0,hs0,hz0,hc1,hs1,hz1,hne,hb0,hb1⟩:=laid_sentinels2 (laidMet.tail (reads hL)) Vb agw Vc agx underlying118 ami underlying331 underlying354 rfl rfl underlying9 cellsE adZ;have hE:rd.qj a0 a1 W:=⟨var?_cell Vb hv0 0,var?_cell Vc hv1 0,hne,⟨c0,t0,hb0⟩,⟨c1,t1,hb1⟩⟩;have hG:kE W.heap.size a0 a1 W:=by refine⟨hE,⟨?_,aC _,hE.wrong,hI⟩,(jT.1 hb0).1,(jT.1 hb1).1⟩;obtain⟨m,hm⟩:=hI.2;have h1:Ep.g 1<W.heap.size:=av.eU hm;have e:Ep.g 1+1=5:=rfl;omega
 refine(lt.Le hG win bf q1 cap os' ok1.1 ok1.2).mono ?_;rintro e W' ⟨rfl,eN,hos,hout⟩;refine⟨_,rfl,_,_,_,[],p0++p1,[],hW',?_,?_,?_,⟨hos,hout,λi hi=>?_⟩,λh=>by cases h⟩;·exact trodAll_mk1 (shut_bool underlying4 _)
 ·exact trodAll_mk2 (carry alW amh eN k0) (carry alZ amk eN k1)
 ·rfl
 ·rw[eN.2 i hi];split<;>simp_all
end told
end Go.Proofs.YtnmfmoimjkoieaaGreatDoor
