import Derived.Test.YtnmfmoimjkoieaaGreatDoorF10
import Derived.Test.YtnmfmoimjkoieaaGreatDoorF15
import Derived.Test.YtnmfmoimjkoieaaGreatDoorF17
import Derived.Deep.AppendLies
import Derived.Laws.AppendOwnNone
set_option maxHeartbeats 25600000
set_option maxRecDepth 100000
set_option linter.all false
namespace Go.Proofs.YtnmfmoimjkoieaaGreatDoor
open Go.Proofs.Tryz
variable{w w' wx w3:World}{b B C sz n g cap N c k af m:Nat}{t e:TypeId}{v1 sv u' ej u x:Value}{v f:Nat->Value}{fs:List (List UInt8×Int)}{cs:List Int}{o:Obj}{xs:Nat->List Value}{bW bc:Addr}{α:Type}{L cc:List Value}
namespace ew
open Go.RowKit aD av aM b7 rd
open bJ (wC rC)
theorem lD{v0 v2 v3 v4 v5 v6 v7 v8 v9 v10 v11 v12 v13 v14:Value}(h:w.heap[b]?=some (.cells #[v0,v1,v2,v3,v4,v5,v6,v7,v8,v9,v10,v11,v12,v13,v14] t)):w.cell? ⟨b,0,none⟩=some v0/\w.cell? ⟨b,1,none⟩=some v1/\w.cell? ⟨b,2,none⟩=some v2/\w.cell? ⟨b,3,none⟩=some v3/\w.cell? ⟨b,4,none⟩=some v4/\w.cell? ⟨b,5,none⟩=some v5/\w.cell? ⟨b,6,none⟩=some v6/\w.cell? ⟨b,7,none⟩=some v7/\w.cell? ⟨b,8,none⟩=some v8/\w.cell? ⟨b,9,none⟩=some v9/\w.cell? ⟨b,10,none⟩=some v10/\w.cell? ⟨b,11,none⟩=some v11/\w.cell? ⟨b,12,none⟩=some v12/\w.cell? ⟨b,13,none⟩=some v13/\w.cell? ⟨b,14,none⟩=some v14:=by refine⟨?_,?_,?_,?_,?_,?_,?_,?_,?_,?_,?_,?_,?_,?_,?_⟩;all_goals simp[World.cell?,h]
theorem UA{v:Value}(h:ze w v fs):xz w.heap.size w v fs:=by obtain⟨q,cap,h1,h2,h3⟩:=h;exact⟨q,cap,h1,h2,λj f hf=>by obtain⟨g,o,a,b,c⟩:=h3 j f hf;exact⟨g,o,a,b,c⟩⟩
theorem Ye{v:Value}(h:zw w v cs):xZ w.heap.size w v cs:=by obtain⟨q,cap,h1,h2,h3⟩:=h;exact⟨q,cap,h1,h2,λj f hf=>by obtain⟨g,o,a,b,c⟩:=h3 j f hf;exact⟨g,o,a,b,c⟩⟩
theorem xz.more{v:Value}(h:xz B w v fs)(hB:B<=C)(hc:∀g i,g<B->w'.cell? ⟨g,i,none⟩=w.cell? ⟨g,i,none⟩):xz C w' v fs:=by obtain⟨q,cap,h1,h2,h3⟩:=h;refine⟨q,cap,h1,h2,λj f hf=>?_⟩;obtain⟨g,o,e,hg,a,b⟩:=h3 j f hf;exact⟨g,o,e,by omega,by rw[hc g _ hg];exact a,by rw[hc g _ hg];exact b⟩
theorem xZ.more{v:Value}(h:xZ B w v cs)(hB:B<=C)(hc:∀g i,g<B->w'.cell? ⟨g,i,none⟩=w.cell? ⟨g,i,none⟩):xZ C w' v cs:=by obtain⟨q,cap,h1,h2,h3⟩:=h;refine⟨q,cap,h1,h2,λj f hf=>?_⟩;obtain⟨g,o,e,hg,a⟩:=h3 j f hf;exact⟨g,o,e,by omega,by rw[hc g _ hg];exact a⟩
theorem Ze(x:Value)(hC:C<=w.heap.size):(w.alloc (.cells #[x] 5)).ownsRow C 5 1 (.slice (some ⟨w.heap.size,0,none⟩) 1 1) 1 [x]:=⟨rfl,ag ⟨w.heap.size,1,#[x],rfl,hC,cj _ _,by omega,by unfold maxLen;omega,rfl,rfl⟩⟩
theorem anU{X:World}{v0:Value}(h:X.heap[b]?=some (.cells #[v0,v1] t)):X.cell? ⟨b,0,none⟩=some v0/\X.cell? ⟨b,1,none⟩=some v1/\X.frozen? ⟨b,0,none⟩=false/\X.frozen? ⟨b,1,none⟩=false:=by
 refine⟨?_,?_,?_,?_⟩;·simp[World.cell?,h]
 ·simp[World.cell?,h]
 ·simp[World.frozen?,h]
 ·simp[World.frozen?,h]
theorem Lu(w:World)(o:Obj):eZ (w.heap.size+1) (w.heap.size+2) ((w.alloc o).alloc (.cells #[.slice none 0 0,.bool false] 169)) (some []):=by
 have hb:((w.alloc o).alloc (.cells #[.slice none 0 0,.bool false] 169)).heap[w.heap.size+1]?=some (.cells #[.slice none 0 0,.bool false] 169):=by have:=cj (w.alloc o) (.cells #[.slice none 0 0,.bool false] 169);simpa using this
 obtain⟨h1,h2,h3,h4⟩:=anU hb;exact⟨.slice none 0 0,⟨by omega,by simp,h1,h2,h3,h4,⟨rfl,ai ⟨rfl,rfl⟩⟩,by simp⟩⟩
def LF(bc:Addr)(w:World)(R:Option (List UInt8))(e:Ending)(w':World):Prop:=Below w.heap.size w w'/\match R with|none=>∃v n,e=.returned (.tuple #[.slice none 0 0,v])/\o6 bc (n+1) v|some b=>∃v,e=.returned (.tuple #[v,.nilIface])/\w'.ownsRow w.heap.size 5 1 v b.length (gS b)
def Jm(p:ay)(fs:List (List UInt8×Int))(cs:List Int)(b:List UInt8)(D:Bool⊕((ay×List (List UInt8×Int)×List Int)×Nat)):Option (List UInt8):=match D with| .inl _=>none| .inr (q,_)=>if vX p q.1/\fs=q.2.1/\cs=q.2.2 then some b else none
theorem afL(gP cb:UInt8)(p:ay)(fs:List (List UInt8×Int))(cs:List Int):rQ gP cb p fs cs=if 300<(dR cb p fs cs).length then none else Jm p fs cs (gP::(iP (dR cb p fs cs).length++dR cb p fs cs)) (cG (gP::(iP (dR cb p fs cs).length++dR cb p fs cs))):=by unfold rQ Jm;rfl
def Gc:Nat->Code->Code|0,c=>c|n+1,.seq _ c=>Gc n c|_,c=>c
theorem apG{P:Program}(w:World){ops:Array Oper}{rest:List Oper}{o:Oper}{a:Act}{Q:Exit->Act->World->Prop}(hgd:o.guard=none)(s x:Operand)(t:TypeId)(ho:o.op=.call {callee:=.builtin .append,args:=#[s,x],argTypes:=#[t,t]})(base:Nat)(e:TypeId)(i:TypeInfo)(z:Value)(size bytes:Nat)(ht:P.underlying t=some (.slice e))(hi:P.info? e=some i)(hz:i.zero=some z)(hsize:i.size=size)(hby:i.bytes=bytes)(hzs:z.cells.size=size)(hsz:0<size)(v:Value)(n:Nat)(xs:List Value)(hs:a.eval s=v)(hown:w.ownsRow base e size v n xs)(acO:Nat)(vx:Value)(m:Nat)(news:List Value)(hx:a.eval x=vx)(hown2:w.ownsRow acO e size vx m news)(h1:∀u∈news,u.oneCell'=true)(h63:n+m<=maxLen)(hbytes:(n+m)*bytes<=140737488355328)(hbase:base<=w.heap.size)(h:∀v' w',w'.ownsRow base e size v' (n+m) (xs++news)->w.grownBy w' v.ownBlock->wpList P ops Q rest (a.put o.dst v') w'):wpList P ops Q (o::rest) a w:=by
 rcases hown2.2 with⟨e1,e2⟩|⟨g,cap,cur,e1,_⟩;·(have hn:news=[]:=by have:=hown2.1;rw[e2,Nat.zero_mul]at this;exact Bi this);subst hn e2;refine wpList_append_own_none hgd s x t ho base e i size ht hi v n xs hs hown (hx.trans e1) ?_;refine h v w ?_ (xa _ _);rw[ek];exact hown
 ·refine jx w hgd s x t ho base e i z size bytes ht hi hz hsize hby hzs hsz v n xs hs hown ⟨g,0,none⟩ m cap news (hx.trans e1) hown2.1 (hown2.cells (by rw[e1];rfl)) h1 h63 hbytes hbase ?_;intro v' w' h2 h3 _ _;exact h v' w' h2 h3
theorem alo{C':Nat}{v:Value}{xs:List Value}(h:w.ownsRow C e sz v n xs)(hC:C'<=C):w.ownsRow C' e sz v n xs:=by
 refine⟨h.1,?_⟩;rcases h.2 with h0|⟨g,cap,cur,e1,h1,h2⟩;·exact ai h0
 ·exact ag ⟨g,cap,cur,e1,by omega,h2⟩
theorem akL(gP:UInt8){B:List UInt8}(h:B.length<=300):cG (gP::(iP B.length++B))≠.inl true:=by
 intro hd;unfold cG at hd;simp only[KE h]at hd;split at hd;·cases hd
 ·rw[au (by simp)]at hd;split at hd;(·cases hd);·cases hd
theorem api(l:List UInt8):∀u∈gS l,u.oneCell'=true:=λu hu=>by simp[gS]at hu;obtain⟨x,_,rfl⟩:=hu;rfl
theorem Tu{l:List UInt8}(h:w.ownsRow C 5 1 (.slice (some ⟨g,0,none⟩) l.length cap) l.length (gS l)):jp w.heap.size w (.slice (some ⟨g,0,none⟩) l.length cap) l:=by
 rcases h.2 with⟨e1,_⟩|⟨g',cap',cur,e1,h1,h2,h3,h4,h5,h6⟩;·cases e1
 ·simp only[Value.slice.injEq,lT,Addr.mk.injEq,and_true,true_and]at e1;obtain⟨rfl,rfl⟩:=e1;refine⟨g,0,cap,rfl,h3,h4,(jT.1 h2).1,λj x hx=>?_⟩;have hc:=h.cells (g:=g) rfl j (.int .u8 (x.toNat:Int)) (by simp[gS,hx]);(have e:(⟨g,0,none⟩:Addr).add j=⟨g,j,none⟩:=by cases j<;>simp[Addr.add]);rw[e]at hc;rw[iW];exact hc
theorem afM(bW bc:Addr)(w ig:World)(p:ay)(fs:List (List UInt8×Int))(cs:List Int)(gP:UInt8)(kI B:List UInt8)(q:Option Addr)(cap g7 F3 C1:Nat)(hBw:Below w.heap.size w ig)(hP:ig.heap[w.heap.size]?=some (.cells (aL p) 36))(k7:ig.cell? ⟨w.heap.size+1,0,none⟩=some (.slice q B.length cap))(hbody:ig.ownsRow (w.heap.size+2) 5 1 (.slice q B.length cap) B.length (gS B))(hO:ig.ownsRow C1 5 1 (.slice (some ⟨g7,0,none⟩) (1+kI.length) F3) (1+kI.length) (gS (gP::kI)))(Vt:w.heap.size+2<=C1)(Ob:C1<=ig.heap.size)(hB:B.length<=300)(hL:kI.length<=2)(hf:ze w p.fv fs)(hc:zw w p.ae cs)(hE:qj bW bc w)(uB:Env bc w.heap.size w)(R:Option (List UInt8))(hR:R=Jm p fs cs (gP::(kI++B)) (cG (gP::(kI++B))))(hns:cG (gP::(kI++B))≠.inl true)(u0 u2 u3 p9 CM u8 qa pC pD pE pF pG pH u16 pI pJ pK pL pM pN u23 u24 pO u26 pP u28 pQ pR pS u32 u33 pT pU pV pW pX pY pZ p4 p5 p6 u44 p7 p8:Value):Code.wp prog (Gc 5 (f53.body.getD .skip)) (bodyPost prog f53 (LF bc w R)) ⟨#[u0,.pointer (some ⟨w.heap.size,0,none⟩),u2,u3,.pointer (some ⟨w.heap.size+1,0,none⟩),.slice (some ⟨g7,0,none⟩) (1+kI.length) F3,p9,CM,u8,qa,pC,pD,pE,pF,pG,pH,u16,pI,pJ,pK,pL,pM,pN,u23,u24,pO,u26,pP,u28,pQ,pR,pS,u32,u33,pT,pU,pV,pW,pX,pY,pZ,p4,p5,p6,u44,p7,p8],[]⟩ ig:=by
 obtain⟨i0,hi,hz0,hz1,hz2⟩:=fK Hc;have aT:=ac hR;have Io:=ac hns;have cu:=ac hE;have HN:=ac uB;have ve:=ac hf;have xI:=ac hc;have eJ:=ac hBw;have qo:=ac hbody;have HO:=ac hO;have dv:=ac hP;have arR:=hBw.size;clear hR hns hE uB hf hc hBw hbody hO hP;conv=>arg 2;whnf
 go_wp2_with(first|(at_builtin;refine apG _ rfl _ _ 45 rfl C1 5 i0 (.int .u8 0) 1 1 underlying45 hi hz0 hz1 hz2 rfl (by decide) _ (1+kI.length) (gS (gP::kI)) rfl HO.aa (w.heap.size+2) (.slice q B.length cap) B.length (gS B) rfl qo.aa (api _) (by unfold maxLen;omega) (by omega) Ob ?_));intro v8 w8 Kb Am;obtain⟨g8,aqk,rfl⟩:=bI Kb (by omega);have Cg:1+kI.length+B.length=(gP::(kI++B)).length:=by simp;omega
 rw[<-Q5,Bh,Cg]at Kb;rw[Cg];have hgo:=HO.aa.lt g7 rfl;have We:Below w.heap.size w w8:=eJ.aa.trans ⟨Am.os,Am.tape,Am.output,Am.size,λk hk=>Am.block k (by omega) (λe=>by have:=iA e;simp at this;omega)⟩;have VY:w8.heap[w.heap.size]?=some (.cells (aL p) 36):=(Am.block _ (by omega) (λe=>by have:=iA e;simp at this;omega)).trans dv.aa;have arS:ig.heap.size<=w8.heap.size:=Am.size;have Fq:=ac Kb;have u7:=ac We;have abM:=ac VY;clear Kb Am We VY k7;have lX:=ac (Ub bW bc w8 (gP::(kI++B)) _ (by rw[<-Cg];omega) (ag (Tu Fq.aa)) (cu.aa.below u7.aa) (by have hn:=HN.aa.below u7.aa;exact⟨by have:=hn.low;omega,aC _,hn.err,hn.inv⟩));have JI:=aT.aa;have hnd:=Io.aa;revert JI hnd lX;clear aT Io;generalize hD:cG (gP::(kI++B))=D;clear hD;intro lX JI hnd;generalize gP::(kI++B)=b at *;have oP:=ac JI;clear JI;go_wp2_with fail;refine lX.aa.mono ?_;rintro e jo ⟨pq,h9⟩;have ki:=ac pq;have arT:=pq.size;clear pq;cases D with|inl s=>(cases s with|true=>exact absurd rfl hnd|false=>obtain⟨asK,ne,rfl,hne⟩:=h9;obtain⟨fx,c2,rfl,bY⟩:=hne;have oO:=ac bY;have agW:R=none:=oP.aa;subst agW;clear bY hnd oP lX;simp only[aL,bA];go_wp2;go_ret2;exact⟨u7.aa.trans (((ki.aa.mono (by omega)).alloc (by omega) _)),_,ne+1,rfl,_,_,rfl,_,_,rfl,oO.aa⟩)|inr r=>obtain⟨⟨aw,gs,ds⟩,m⟩:=r;obtain⟨zV,cq,rfl,ez,iN⟩:=h9;have dz:=ac ez;have jV:=ac iN;obtain⟨pf,nf,lm,rfl⟩:=jH ez;obtain⟨CA,nc,cc,rfl⟩:=jH iN;clear ez iN hnd lX;simp only[aL];have Ot:jo.heap[w.heap.size]?=some (.cells (aL p) 36):=(ki.aa.block _ (by omega)).trans abM.aa;simp only[aL]at Ot;obtain⟨x0,x1,x2,x3,kf,nR,qc,wq,wu,ww,wo,oI,oJ,nP,nQ⟩:=lD Ot;(have ahy:∃a n c,p.fv=.slice a n c:=by obtain⟨a,c,e,_⟩:=ve.aa;exact⟨a,_,c,e⟩);(have ei:∃a n c,p.ae=.slice a n c:=by obtain⟨a,c,e,_⟩:=xI.aa;exact⟨a,_,c,e⟩);obtain⟨a1,n1,c1,e1⟩:=ahy;obtain⟨a2,n2,c2,e2⟩:=ei;rw[e1]at nP;rw[e2]at nQ;have qq:=ac e1;have xK:=ac e2;(have ais:w.heap.size<=w8.heap.size:=by omega);(have arH:w.heap.size<jo.heap.size:=by omega);have xG:=ac λo=>(u7.aa.trans ((ki.aa.mono ais).alloc (by omega) o));have jY:=ac λo=>alN p {aw with fv:=.slice pf gs.length nf,ae:=.slice CA ds.length nc} fs gs cs ds (jo.alloc o) (af2 ve.aa (xG.aa o)) (UJ (lw.NQ (vU dz.aa ((aN _ _).alloc (aC _) o)))) (aja xI.aa (xG.aa o)) (Yg (lw.ai9 (vU jV.aa ((aN _ _).alloc (aC _) o))));simp only[aL,e1,e2]at jY;clear Ot e1 e2;go_wp2_with fail;refine(jY.aa _).mono ?_;rintro e Lq ⟨rfl,DM⟩;have LM:=ac ((xG.aa _).trans (DM.mono (by simp;omega)));have Fp:=ac (vU Fq.aa ((ki.aa.alloc (by omega) _).trans (DM.mono (by simp;omega))));have hge:=(cu.aa.below LM.aa).wrong;clear DM x0 x1 x2 x3 kf nR qc wq wu ww wo oI oJ nP nQ;obtain⟨A,hA⟩:∃A,decide (vX p {aw with fv:=.slice pf gs.length nf,ae:=.slice CA ds.length nc}/\fs=gs/\cs=ds)=A:=⟨_,rfl⟩;rw[hA];(have Vj:(vX p aw/\fs=gs/\cs=ds)↔A=true:=by rw[<-hA];exact decide_eq_true_iff.symm);have Ic:=ac Vj;clear hA Vj jY;cases A with|true=>have Ow:R=some b:=oP.aa.trans (ax (Ic.aa.2 rfl));subst Ow;clear oP Ic;go_wp2;go_ret2;exact⟨LM.aa,_,rfl,alo Fp.aa (by omega)⟩|false=>have Ow:R=none:=oP.aa.trans (au (λh=>Bool.noConfusion (Ic.aa.1 h)));subst Ow;clear oP Ic;go_wp2;go_quiet(fail);go_wp2;go_ret2;exact⟨below_drewN LM.aa _,_,0,rfl,_,_,rfl,rfl⟩
theorem alx(bW bc:Addr)(p:ay)(fs:List (List UInt8×Int))(cs:List Int)(w:World)(hf:ze w p.fv fs)(hc:zw w p.ae cs)(hE:qj bW bc w)(uB:Env bc w.heap.size w):Calls prog 53 #[.agg (aL p)] w (LF bc w (rQ (uA p) (ll p) p fs cs)):=by
 have ve:=ac hf;have xI:=ac hc;have LV:=ac (UA hf);have CW:=ac (Ye hc);have jb:=ac λo=>Cz (w.heap.size+1) (w.heap.size+2) p fs cs _ _ (Lu w o) ((UA hf).more (by omega) (λg i hg=>(((aN w.heap.size w).alloc (aC _) o).alloc (by simp) _).cell hg)) ((Ye hc).more (by omega) (λg i hg=>(((aN w.heap.size w).alloc (aC _) o).alloc (by simp) _).cell hg));have xG:=ac λo=>((aN w.heap.size w).alloc (aC _) o).alloc (by simp) (.cells #[.slice none 0 0,.bool false] 169);have cr:=ac λw=>NZ p w;have cu:=ac hE;have HN:=ac uB;clear hf hc hE uB;rw[afL];generalize dR (ll p) p fs cs=B at *;generalize uA p=gP at *;obtain⟨kind,aR,will,ah,aq,aS,code,dup,qos,aF,ak,az,id,fv,ae⟩:=p;simp only[aL]at ve xI LV CW jb cr⊢;by_cases hB:B.length<=300;·(have hst:wr B (some [])=some B:=by simp[wr,hB]);rw[hst]at jb;rw[au (by omega)];clear hst;obtain⟨R,hR⟩:∃R,R=Jm ⟨kind,aR,will,ah,aq,aS,code,dup,qos,aF,ak,az,id,fv,ae⟩ fs cs (gP::(iP B.length++B)) (cG (gP::(iP B.length++B))):=⟨_,rfl⟩;rw[<-hR];have jA:=ac hR;clear hR;go_enter func53,ntmps53;go_wp2_with fail;refine(jb.aa _).mono ?_;rintro e w1 ⟨rfl,⟨v,hW⟩,hK⟩;obtain⟨q,cap,rfl⟩:=jH hW.own;have k0:=hW.c0;have k1:=hW.c1;have Ou:w1.heap[w.heap.size]?=_:=(hK.ah w.heap.size (by omega) (by simp;omega) (eZ.K2 (Lu w _) (ai (by omega)))).2.trans ((cU _ _ _ (by simp)).trans (cj _ _));have Fs:=ac Ou;obtain⟨x0,x1,x2,x3,kf,nR,qc,wq,wu,ww,wo,oI,oJ,nP,nQ⟩:=lD Ou;have LN:=ac ((xG.aa _).trans (eZ.below (Lu w _) hK (by omega)));have HW:=ac hW;have ny:=ac λw=>aj6 B.length w hB;have Io:=ac (akL gP hB);(have agS:1<=(iP B.length).length/\(iP B.length).length<=2:=by rw[YA];split<;>omega);generalize iP B.length=kI at *;obtain⟨DF,hL2⟩:=agS;obtain⟨i0,hi,hz0,hz1,hz2⟩:=fK Hc;have hbl:w.heap.size+1<w1.heap.size:=cw hW.lt hW.sz;clear Ou hK hW;go_wp2_with fail;(have hs1:w.heap.size<w1.heap.size:=by omega);rename_i yg;go_region_held3(λw'=>w'.cell? ⟨w.heap.size,0,none⟩=some (.int .i64 kind)/\w'.cell? ⟨w.heap.size,1,none⟩=some (.bool aR)/\w'.cell? ⟨w.heap.size,2,none⟩=some (.bool will)/\w'.cell? ⟨w.heap.size,3,none⟩=some (.int .i64 ah)/\w'.cell? ⟨w.heap.size,4,none⟩=some (.string (bs aq))/\w'.cell? ⟨w.heap.size,5,none⟩=some (.bool aS)/\w'.cell? ⟨w.heap.size,6,none⟩=some (.int .i64 code)/\w'.cell? ⟨w.heap.size,7,none⟩=some (.bool dup)/\w'.cell? ⟨w.heap.size,8,none⟩=some (.int .i64 qos)/\w'.cell? ⟨w.heap.size,9,none⟩=some (.bool aF)/\w'.cell? ⟨w.heap.size,10,none⟩=some (.string (bs ak))/\w'.cell? ⟨w.heap.size,11,none⟩=some (.string (bs az))/\w'.cell? ⟨w.heap.size,12,none⟩=some (.int .i64 id)/\w'.cell? ⟨w.heap.size,13,none⟩=some (fv)/\w'.cell? ⟨w.heap.size,14,none⟩=some (ae)/\w'.cell? ⟨w.heap.size+1,0,none⟩=some (.slice q B.length cap)) (go_keep) (first|(go_at_call 81;refine(cr.aa _).mono ?_;rintro e w5 ⟨rfl,cH⟩;have Oq:w5.heap[w.heap.size]?=_:=(cH.block _ (by exact hs1)).trans Fs.aa;obtain⟨y0,y1,y2,y3,y4,nS,y6,uY,qh,tL,uX,qd,qf,y13,qg⟩:=lD Oq;(have k5:w5.cell? ⟨w.heap.size+1,0,none⟩=some (.slice q B.length cap):=by rw[cH.cell (by exact hbl)];exact k0);have hs5:w1.heap.size<=w5.heap.size:=cH.size;have iT:Hid (Below w1.heap.size w1 w5):=(aN w1.heap.size w1).drew.trans cH;have A8:=ac Oq;clear cH Oq)|(go_at_call 82;refine(ny.aa _).mono ?_;rintro e cQ ⟨v6,rfl,Po,nH⟩;obtain⟨g6,TC,rfl⟩:=bI Po (by omega);(have zf:Hid (Below w1.heap.size w1 cQ):=by first|exact iT.aa.trans (nH.mono hs5)|exact(iT.aa.alloc hs5 _).trans (nH.mono (by simp;omega)));have VX:cQ.heap[w.heap.size]?=_:=(zf.aa.block _ hs1).trans Fs.aa;obtain⟨z0,kA,z2,z3,z4,z5,tQ,tR,qi,z9,tM,tN,z12,tO,tP⟩:=lD VX;(have k6:cQ.cell? ⟨w.heap.size+1,0,none⟩=some (.slice q B.length cap):=by rw[zf.aa.cell (by exact hbl)];exact k0);have XF:w1.heap.size<=cQ.heap.size:=zf.aa.size;have Ip:=ac Po;have agD:=ac nH;clear Po nH VX)|(refine step_append_lies _ (by rfl) _ _ _ (by rfl) w1.heap.size 5 i0 _ 1 1 underlying45 hi hz0 hz1 hz2 rfl (by omega) (.slice (some ⟨w5.heap.size,0,none⟩) 1 1) 1 [.int .u8 (gP.toNat:Int)] (by rfl) (vU (Ze _ hs5) agD.aa) ⟨g6,0,none⟩ kI.length TC (gS kI) (by rfl) (by simp[gS]) (Ip.aa.cells rfl) (λu hu=>by simp[gS]at hu;obtain⟨x,_,rfl⟩:=hu;rfl) (by omega) (by unfold maxLen;omega) (by omega) (by omega) cQ.heap.size rfl ?_;intro g7 F3 ig G6 rS OG ah2;have xE:Hid (Below w1.heap.size w1 ig):=zf.aa.trans ⟨rS.os,rS.tape,rS.output,rS.size,λk hk=>rS.block k (by omega) (λe=>by have:=iA e;simp at this;omega)⟩;have Gy:ig.heap[w.heap.size]?=_:=(xE.aa.block _ hs1).trans Fs.aa;obtain⟨t0,t1,t2,t3,t4,t5,t6,t7,t8,t9,t10,t11,t12,t13,t14⟩:=lD Gy;(have k7:ig.cell? ⟨w.heap.size+1,0,none⟩=some (.slice q B.length cap):=by rw[xE.aa.cell (by exact hbl)];exact k0);have xP:=ac G6;clear G6 rS OG Gy)|(refine step_append_lies _ (by rfl) _ _ _ (by rfl) w1.heap.size 5 i0 _ 1 1 underlying45 hi hz0 hz1 hz2 rfl (by omega) (.slice (some ⟨cQ.heap.size,0,none⟩) 1 1) 1 [.int .u8 (gP.toNat:Int)] (by rfl) (Ze _ XF) ⟨g6,0,none⟩ kI.length TC (gS kI) (by rfl) (by simp[gS]) ((Ip.aa.alloc _).cells rfl) (λu hu=>by simp[gS]at hu;obtain⟨x,_,rfl⟩:=hu;rfl) (by omega) (by unfold maxLen;omega) (by omega) (by simp;omega) (cQ.heap.size+1) (by simp) ?_;intro g7 F3 ig G6 rS OG ah2;have xE:Hid (Below w1.heap.size w1 ig):=(zf.aa.alloc XF _).trans ⟨rS.os,rS.tape,rS.output,rS.size,λk hk=>rS.block k (by simp;omega) (λe=>by have:=iA e;simp at this;omega)⟩;have Gy:ig.heap[w.heap.size]?=_:=(xE.aa.block _ hs1).trans Fs.aa;obtain⟨t0,t1,t2,t3,t4,t5,t6,t7,t8,t9,t10,t11,t12,t13,t14⟩:=lD Gy;(have k7:ig.cell? ⟨w.heap.size+1,0,none⟩=some (.slice q B.length cap):=by rw[xE.aa.cell (by exact hbl)];exact k0);have xP:=ac G6;clear G6 rS OG Gy));all_goals refine yg _ _ ?_;refine afM bW bc w ig ⟨kind,aR,will,ah,aq,aS,code,dup,qos,aF,ak,az,id,fv,ae⟩ fs cs gP kI B q cap g7 F3 w1.heap.size (LN.aa.trans (xE.aa.mono (by omega))) ((xE.aa.block _ hs1).trans Fs.aa) k7 (vU HW.aa.own xE.aa) xP.aa (by omega) xE.aa.size hB hL2 ve.aa xI.aa cu.aa HN.aa R jA.aa Io.aa _ _ _ _ _ _ _ _ _ _ _ _ _ _ _ _ _ _ _ _ _ _ _ _ _ _ _ _ _ _ _ _ _ _ _ _ _ _ _ _ _ _ _ _
 ·(have hst:wr B (some [])=none:=by simp[wr,hB]);rw[hst]at jb;rw[ax (by omega)];clear hst;go_enter func53,ntmps53;go_wp2_with fail;refine(jb.aa _).mono ?_;rintro e w1 ⟨rfl,⟨v,l,hW⟩,hK⟩;have k1:=hW.c1;have hb1:=(xG.aa _).trans (eZ.below (Lu w _) hK (by omega));have hge:=(cu.aa.below hb1).wrong;have LN:=ac hb1;clear hW hK hb1;go_wp2;go_quiet(fail);go_wp2;go_ret2;exact⟨below_drewN LN.aa _,_,0,rfl,_,_,rfl,rfl⟩
theorem alv(bW bc:Addr)(p:ay)(fs:List (List UInt8×Int))(cs:List Int)(w:World)(hf:wC w p.fv fs)(hc:rC w p.ae cs)(hE:qj bW bc w)(uB:Env bc w.heap.size w):Calls prog 53 #[.agg (aL p)] w (LF bc w (rQ (uA p) (ll p) p fs cs)):=alx bW bc p fs cs w (UJ hf) (Yg hc) hE uB
end ew
namespace br
open Go.RowKit aD av aM rd ew b7 bJ
structure kE (N:Nat) (bW bc:Addr) (w:World):Prop where
 errs:qj bW bc w
 env:Env bc N w
 sh:bW.block < N
 wr:bc.block < N
theorem kE.below(h:kE N bW bc w)(hb:Below N w w'):kE N bW bc w':=by
 obtain⟨⟨h1,h2,h3,⟨c1,t1,h4⟩,c2,t2,h5⟩,he,hs,hw⟩:=h;have hl:=he.low;refine⟨⟨?_,?_,h3,⟨c1,t1,(hb.block _ hs).trans h4⟩,c2,t2,(hb.block _ hw).trans h5⟩,he.below hb,hs,hw⟩;·rw[hb.cell (by have:1<5:=(by decide);simp only;omega)];exact h1
 ·rw[hb.cell (by have:0<5:=(by decide);simp only;omega)];exact h2
theorem kE.Uq(h:kE N bW bc w):Env bc w.heap.size w:=⟨bi h.env.low h.env.size,aC _,h.env.err,h.env.inv⟩
def dF(p:ay)(fs:List (List UInt8×Int))(cs:List Int):List UInt8:=(rQ (uA p) (ll p) p fs cs).getD []
theorem Um(h:kE N bW bc w)(p:ay)(fs:List (List UInt8×Int))(cs:List Int)(hf:wC w p.fv fs)(hc:rC w p.ae cs):Calls prog 53 #[.agg (bw p)] w λe w''=>Below w.heap.size w w''/\∃v x,e=.returned (.tuple #[v,x])/\w''.ownsRow w.heap.size 5 1 v (dF p fs cs).length (eI (dF p fs cs)):=by refine(alv bW bc p fs cs w hf hc h.errs h.Uq).mono ?_;rintro e w' ⟨hb,hR⟩;refine⟨hb,?_⟩;unfold dF;cases hr:rQ (uA p) (ll p) p fs cs with|none=>rw[hr]at hR;obtain⟨v,n,rfl,_⟩:=hR;exact⟨_,_,rfl,⟨rfl,ai ⟨rfl,rfl⟩⟩⟩|some b=>rw[hr]at hR;obtain⟨v,rfl,ho⟩:=hR;exact⟨_,_,rfl,ho⟩
theorem UI(w:World):wC w (.slice none 0 0) []:=⟨none,0,rfl,by simp,λj f h=>by simp at h⟩
theorem ai8(w:World):rC w (.slice none 0 0) []:=⟨none,0,rfl,by simp,λj f h=>by simp at h⟩
theorem kE.enc(h:kE N bW bc w)(p:ay)(hf:p.fv=.slice none 0 0)(hc:p.ae=.slice none 0 0):mZ N w p (dF p [] []):=⟨h.env.size,λw' hb=>Um (h.below hb) p [] [] (by rw[hf];exact UI _) (by rw[hc];exact ai8 _)⟩
theorem kE.afF(h:kE N bW bc w)(p:ay)(cs:List Int)(hf:p.fv=.slice none 0 0)(hc:rC w p.ae cs):mZ w.heap.size w p (dF p [] cs):=⟨aC _,λw' hb=>Um (h.below (hb.mono h.env.size)) p [] cs (by rw[hf];exact UI _) (by obtain⟨q,cap,h1,h2,h3⟩:=hc;exact⟨q,cap,h1,h2,λj c hj=>by obtain⟨g,e1,e2,e3⟩:=h3 j c hj;exact⟨g,e1,cw e2 hb.size,by rw[hb.cell e2];exact e3⟩⟩)⟩
theorem ajn(b:Addr)(w:World):Calls prog 84 #[.nilIface,.iface 331 (.pointer (some b))] w λe w'=>e=.returned (.bool false)/\Below w.heap.size w w':=by
 have hq:∀w:World,(binOp .eql 118 .nilIface (.iface 331 (.pointer (some b)))).run prog w=.ok (.bool false) w:=λw=>by kernel_rfl
 go_enter func84,ntmps84;go_wp2;go_ret;exact⟨rfl,aN _ _⟩
end br
namespace br
open Go.RowKit aD av aM
theorem Yb:(prog.info? 3).map (λi=>(i.zero,i.size,i.bytes))=some (some (.int .i64 0),1,8):=by kernel_rfl
def jR(id:Int)(ae:Value):ay:={fg with kind:=9,id:=id,ae:=ae}
theorem aen(B j:Nat)(V:dD)(aI:Value)(L:List (aP×Value))(cs:Nat->Option (dt×eD))(aq:List UInt8)(w:World)(h:dn w B V aI L)(hc:∀k,k<8->Ro w B V k (cs k))(hj:j<=8)(hn:∀k,k<j->YP aq (cs k))(q:Option Nat)(hq:if j<8 then∃bu C p,cs j=some (bu,C)/\C.bg=some p/\p.aq=aq/\q=some bu.cb else q=none):Calls prog 128 #[.pointer (some ⟨B,0,none⟩),.string (bs aq)] w λe w'=>e=.returned (.pointer (q.map λc=>⟨c,0,none⟩))/\Below w.heap.size w w':=by
 have v0:=kq h.blk (show 0<8 by omega);have v1:=kq h.blk (show 1<8 by omega);have v2:=kq h.blk (show 2<8 by omega);have v3:=kq h.blk (show 3<8 by omega);have v4:=kq h.blk (show 4<8 by omega);have v5:=kq h.blk (show 5<8 by omega);have v6:=kq h.blk (show 6<8 by omega);have v7:=kq h.blk (show 7<8 by omega);simp only[Nat.reduceAdd]at v0 v1 v2 v3 v4 v5 v6 v7;have HC:=ac hc;have HN:=ac hn;have bH:=ac hq;have hlt:=aG h.blk;clear hc hn h hq;go_enter func128,ntmps128;go_wp2_with fail;have hget:∀k,k<8->(#[V.ae 0,V.ae 1,V.ae 2,V.ae 3,V.ae 4,V.ae 5,V.ae 6,V.ae 7]:Array Value)[k]?=some (V.ae k):=λk hk=>by(have:k=0\/k=1\/k=2\/k=3\/k=4\/k=5\/k=6\/k=7:=by omega);rcases this with rfl|rfl|rfl|rfl|rfl|rfl|rfl|rfl<;>rfl
 have HG:=ac hget;clear hget v0 v1 v2 v3 v4 v5 v6 v7;generalize(#[V.ae 0,V.ae 1,V.ae 2,V.ae 3,V.ae 4,V.ae 5,V.ae 6,V.ae 7]:Array Value)=arr at *;go_loopw[11] (λi wx=>∃(k:Nat),k<=j/\i=.int .i64 k/\Below w.heap.size w wx) (λi _=>j-(intOf i).toNat);case atStart=>exact⟨0,cm _,rfl,aN _ _⟩
 case round=>obtain⟨k,hk,rfl,hB⟩:=hrel;have aB:=ac hB;by_cases ah5:k<j;(·(have kw:k<8:=by omega);have hg:=HG.aa k kw;(have h8:(k:Int)<8:=by omega);have qR:=HC.aa k kw;have hno:=HN.aa k ah5;cases hcs:cs k with|none=>rw[hcs]at qR;have hv:V.ae k=.pointer none:=qR;rw[hv]at hg;have Cf:=λw=>Hb arr k _ w hg kw;clear hB qR hno hcs hv hg;go_wp2;go_roundw;(case rel=>exact⟨k+1,by omega,by go_num,aB.aa⟩);case measure=>simp[intOf];omega|some ae=>obtain⟨bu,C⟩:=ae;rw[hcs]at qR hno;obtain⟨hv,hat⟩:=qR;rw[hv]at hg;have Cf:=λw=>Hb arr k _ w hg kw;have Ag:=hat.below hB;have ye:=ar Ag.blk (jM (k:Int) bu C).2.2.2.1;have a23:=ar Ag.blk (jM (k:Int) bu C).2.2.2.2.2.2;cases hh:C.bg with|none=>(have e18:rN bu C=.pointer none:=by unfold rN;rw[hh]);rw[e18]at ye;clear hB hno hcs hv hg hat Ag a23 e18 hh;go_wp2;go_roundw;(case rel=>exact⟨k+1,by omega,by go_num,aB.aa⟩);case measure=>simp[intOf];omega|some p=>(have e18:rN bu C=.pointer (some ⟨bu.sp,0,none⟩):=by unfold rN;rw[hh]);rw[e18]at ye;rw[hh,Bo]at a23;have hne:=acT (hno p hh);clear hB hno hcs hv hg hat Ag e18 hh;go_wp2;go_roundw;(case rel=>exact⟨k+1,by omega,by go_num,aB.aa⟩);case measure=>simp[intOf];omega);·(have hkj:k=j:=by omega);subst hkj;by_cases kw:k<8;(·have hq:=bH.aa;rw[ax kw]at hq;obtain⟨bu,C,p,hcs,hh,hcl,rfl⟩:=hq;have hg:=HG.aa k kw;(have h8:(k:Int)<8:=by omega);have qR:=HC.aa k kw;rw[hcs]at qR;obtain⟨hv,hat⟩:=qR;rw[hv]at hg;have Cf:=λw=>Hb arr k _ w hg kw;have Ag:=hat.below hB;have ye:=ar Ag.blk (jM (k:Int) bu C).2.2.2.1;have a23:=ar Ag.blk (jM (k:Int) bu C).2.2.2.2.2.2;(have e18:rN bu C=.pointer (some ⟨bu.sp,0,none⟩):=by unfold rN;rw[hh]);rw[e18]at ye;rw[hh,Bo,hcl]at a23;clear hB hcs hv hg hat Ag e18 hh;go_wp2;go_ret;exact⟨rfl,aB.aa⟩);·have hq:=bH.aa;rw[au kw]at hq;subst hq;(have h8:¬(k:Int)<8:=by omega);clear hB;go_wp2;go_ret;exact⟨rfl,aB.aa⟩
end br
namespace lb
open Go.RowKit aD av aM rd lw
def KA(k:Nat):TypeId:=if k=1\/k=5 then 45 else if k=2 then 62 else if k=3\/k=6 then 33 else 34
def Em(k:Nat):Nat:=if k=2 then 3 else if k=3\/k=6 then 2 else 1
def Q0:ByteArray:=⟨#[116,117,114,110,101,100]⟩
def M5(i j:Nat):Value:=.int .u8 (rP (i/4*4) j:Int)
def xp(i j:Nat):Value:=if j%3=0 then .int .i64 (-1-((i/4*4:Nat):Int))else if j%3=1 then .slice none 0 0 else .bool false
def Gi(_i j:Nat):Value:=if j%2=0 then .string Q0 else .int .i64 0
def anu(_i _j:Nat):Value:=.int .i64 (-7)
def Hi(k:Nat):Nat->Nat->Value:=if k=1 then M5 else if k=2 then xp else if k=3 then anm else if k=4 then ad9 else if k=5 then anS else if k=6 then Gi else anu
def nW(k:Nat):Prop:=1<=k/\k<=7
def upd{α:Type}(f:Nat->α)(c:Nat)(x:α):Nat->α:=λk=>if k=c then x else f k
theorem upd_same(f:Nat->α)(c:Nat)(x:α):upd f c x c=x:=by simp[upd]
theorem jn(f:Nat->α)(x:α)(h:k≠c):upd f c x k=f k:=by simp[upd,h]
def wY(sv:Value)(v:Nat->Value):Array Value:=#[sv,v 1,v 2,v 3,v 4,v 5,v 6,v 7]
theorem TD(sv:Value)(v:Nat->Value)(c:Nat)(hc:nW c)(x:Value):(wY sv v).setIfInBounds c x=wY sv (upd v c x):=by
 obtain⟨h1,h2⟩:=hc;have:c=1\/c=2\/c=3\/c=4\/c=5\/c=6\/c=7:=by omega
 rcases this with rfl|rfl|rfl|rfl|rfl|rfl|rfl<;>rfl
theorem aps(f:Nat->α)(c:Nat)(x y:α):upd (upd f c x) c y=upd f c y:=by funext k;unfold upd;split<;>rfl
theorem aat(f:Nat->α)(c:Nat):upd f c (f c)=f:=by
 funext k;unfold upd;split;·rename_i h;rw[h]
 ·rfl
def Df(af:Nat)(v:Nat->Value)(g:Nat):Prop:=g≠af/\∀k,nW k->(v k).ownBlock≠some g
structure cX (w:World) (af:Nat) (sv:Value) (v:Nat→Value) (xs:Nat→List Value):Prop where
 blk:w.heap[af]?=some (.cells (wY sv v) 29)
 own:∀ k,nW k→w.ownsRow (af+1) (KA k) 1 (v k) (xs k).length (xs k)
 ne:∀ k k',nW k→nW k'→k≠k'→∀ b,(v k).ownBlock=some b→(v k').ownBlock≠some b
 held:∀ k,nW k→Held w (Em k) (Hi k) (xs k) (Df af v)
 len:∀ k,nW k→(xs k).length≤4000000000000
 hd:∀ k,nW k→∀ u,u∈xs k→∀ b,u.ownBlock=some b→b < w.heap.size
def fR(af:Nat)(v:Nat->Value)(xs:Nat->List Value)(b:Nat):Prop:=Df af v b/\∀k,nW k->∀u,u∈xs k->u.ownBlock≠some b
theorem cX.lt'(h:cX w af sv v xs):af<w.heap.size:=(jT.1 h.blk).1
theorem cX.below(h:cX w af sv v xs)(hb:Below w.heap.size w w'):cX w' af sv v xs:=⟨(hb.block _ h.lt').trans h.blk,λk hk=>vU (h.own k hk) hb,h.ne,λk hk=>(h.held k hk).ah hb.size (λ_ g _ _ o hl=>⟨o,hb.block g hl⟩),h.len,λk hk u hu b e=>cw (h.hd k hk u hu b e) hb.size⟩
theorem cX.free(h:cX w af sv v xs)(hb:w.heap.size<=b):fR af v xs b:=⟨⟨by have:=h.lt';omega,λk hk e=>by have:=((h.own k hk).lt b e).2;omega⟩,λk hk u hu e=>by have:=h.hd k hk u hu b e;omega⟩
theorem cX.cells{w:World}{af:Nat}{sv:Value}{v:Nat->Value}{xs:Nat->List Value}(h:cX w af sv v xs):w.cell? ⟨af,0,none⟩=some sv/\w.cell? ⟨af,1,none⟩=some (v 1)/\w.cell? ⟨af,2,none⟩=some (v 2)/\w.cell? ⟨af,3,none⟩=some (v 3)/\w.cell? ⟨af,4,none⟩=some (v 4)/\w.cell? ⟨af,5,none⟩=some (v 5)/\w.cell? ⟨af,6,none⟩=some (v 6)/\w.cell? ⟨af,7,none⟩=some (v 7):=CP h.blk
theorem vV{v:Value}{xs:List Value}(h:w.ownsRow C e sz v n xs):∃p cap,v=.slice p n cap:=by
 rcases h.2 with⟨rfl,rfl⟩|⟨g,cap,cur,rfl,_⟩;·exact⟨none,0,rfl⟩
 ·exact⟨some ⟨g,0,none⟩,cap,rfl⟩
theorem cX.add{T:Nat->Prop}(h:cX w af sv v xs)(hc:nW c)(hT:∀b,T b->fR af v xs b)(hblk:w'.heap[af]?=some (.cells (wY sv (upd v c u')) 29))(hown:w'.ownsRow (af+1) (KA c) 1 u' (xs c++L).length (xs c++L))(hnew:∀b,u'.ownBlock=some b->(v c).ownBlock=some b\/w.heap.size<=b)(hold:∀b,b<w.heap.size->(v c).ownBlock≠some b->¬T b->b≠af->w'.heap[b]?=w.heap[b]?)(hsz:w.heap.size<=w'.heap.size)(hL:∀(i:Nat) u,L[i]?=some u->∃ad n cap,u=.slice ad n cap/\n<=1099511627780/\(n=0\/∃g,ad=some ⟨g,0,none⟩/\(T g\/w.heap.size<=g)/\g<w'.heap.size/\u'.ownBlock≠some g/\∀j,j<n*Em c->w'.cell? ⟨g,j,none⟩=some (Hi c ((xs c).length+i) j)))(VN:∀u,u∈L->∀b,u.ownBlock=some b->b<w'.heap.size/\(T b\/w.heap.size<=b))(hlen:(xs c).length+L.length<=4000000000000):cX w' af sv (upd v c u') (upd xs c (xs c++L))/\(∀b,b<w.heap.size->fR af v xs b->¬T b->w'.heap[b]?=w.heap[b]?/\fR af (upd v c u') (upd xs c (xs c++L)) b):=by
 have hout:∀g,Df af v g->g<w.heap.size->Df af (upd v c u') g:=λg ho hl=>⟨ho.1,λk hk e=>by unfold upd at e;split at e;(·rcases hnew g e with h1|h1;(·exact ho.2 c hc h1);·omega);·exact ho.2 k hk e⟩;have held:∀k,nW k->Held w' (Em k) (Hi k) (xs k) (Df af (upd v c u')):=λk hk=>(h.held k hk).ah hsz (λu g hu PH ho hl=>⟨hout g ho hl,hold g hl (ho.2 c hc) (λt=>(hT g t).2 k hk u hu PH) ho.1⟩);refine⟨⟨hblk,λk hk=>?_,λk k' hk hk' hne b e=>?_,λk hk=>?_,λk hk=>?_,λk hk u hu b e=>?_⟩,λb hb hf hnt=>⟨hold b hb (hf.1.2 c hc) hnt hf.1.1,hout b hf.1 hb,λk hk u hu=>?_⟩⟩;·by_cases hkc:k=c;(·subst hkc;rw[upd_same,upd_same];exact hown);·rw[jn _ _ hkc,jn _ _ hkc];have hu:=h.own k hk;refine⟨hu.1,?_⟩;rcases hu.2 with h1|⟨g,cap,cur,e1,g1,g2,g3⟩;(·exact ai h1);·(have hgo:(v k).ownBlock=some g:=by rw[e1];rfl);exact ag ⟨g,cap,cur,e1,g1,(hold g (hu.lt g hgo).2 (h.ne k c hk hc hkc g hgo) (λt=>(hT g t).1.2 k hk hgo) (by omega)).trans g2,g3⟩
 ·by_cases hkc:k=c;(·subst hkc;rw[upd_same]at e;rw[jn _ _ (Ne.symm hne)];rcases hnew b e with h1|h1;(·exact h.ne k k' hk hk' hne b h1);·intro e2;have:=((h.own k' hk').lt b e2).2;omega);·rw[jn _ _ hkc]at e;by_cases Xc:k'=c;(·subst Xc;rw[upd_same];intro e2;rcases hnew b e2 with h1|h1;(·exact h.ne k k' hk hk' hne b e h1);·have:=((h.own k hk).lt b e).2;omega);·rw[jn _ _ Xc];exact h.ne k k' hk hk' hne b e
 ·by_cases hkc:k=c;(·subst hkc;rw[upd_same];intro i u hu;rcases Nat.lt_or_ge i (xs k).length with hi|hi;(·rw[vr hi]at hu;exact held k hk i u hu);·rw[rD hi]at hu;obtain⟨ad,n,cap,e,hn,hh⟩:=hL _ u hu;refine⟨ad,n,cap,e,hn,?_⟩;rcases hh with h0|⟨g,e1,g1,g2,g3,g4⟩;(·exact ai h0);·refine ag ⟨g,e1,?_,g2,λj hj=>?_⟩;(·rcases g1 with g1|g1;(·refine⟨(hT g g1).1.1,λk' hk' e2=>?_⟩;unfold upd at e2;split at e2;(·exact g3 e2);·exact(hT g g1).1.2 k' hk' e2);·refine⟨by have:=h.lt';omega,λk' hk' e2=>?_⟩;unfold upd at e2;split at e2;(·exact g3 e2);·have:=((h.own k' hk').lt g e2).2;omega);·rw[g4 j hj,show(xs k).length+(i-(xs k).length)=i by omega]);·rw[jn _ _ hkc];exact held k hk
 ·by_cases hkc:k=c;(·subst hkc;rw[upd_same,bT];exact hlen);·rw[jn _ _ hkc];exact h.len k hk
 ·by_cases hkc:k=c;(·subst hkc;rw[upd_same]at hu;rcases mE.1 hu with h2|h2;(·have:=h.hd k hk u h2 b e;omega);·exact(VN u h2 b e).1);·rw[jn _ _ hkc]at hu;have:=h.hd k hk u hu b e;omega
 ·by_cases hkc:k=c;(·subst hkc;rw[upd_same]at hu;rcases mE.1 hu with h2|h2;(·exact hf.2 k hk u h2);·intro e;rcases(VN u h2 b e).2 with h3|h3;(·exact hnt h3);·omega);·rw[jn _ _ hkc]at hu;exact hf.2 k hk u hu
def lq(f:Nat->Value)(n:Nat):List Value:=(List.range n).map f
theorem NS(f:Nat->Value)(n:Nat):(lq f n).length=n:=by simp[lq]
theorem UT(f:Nat->Value){j:Nat}(h:j<n):(lq f n)[j]?=some (f j):=by simp[lq,h]
theorem UR(f:Nat->Value)(n m:Nat):lq f (n+m)=lq f n++(List.range m).map (λj=>f (n+j)):=by unfold lq;rw[List.range_add,FK,o5];rfl
theorem Zb{v:Value}{K:Nat}(h:w.ownsRow C e sz v N (lq f K))(hb:v.ownBlock=some g)(j:Nat)(hj:j<K):w.cell? ⟨g,j,none⟩=some (f j):=by
 have:=h.cells (g:=g) hb j (f j) (UT f hj);have e:(⟨g,0,none⟩:Addr).add j=⟨g,j,none⟩:=by cases j<;>simp[Addr.add]
 rwa[e]at this
structure nX (w wx:World) (af C n k m c:Nat) (e:TypeId) (sz:Nat) (f:Nat→Value) (sv:Value) (v:Nat→Value) (ej u u':Value) (cc L:List Value):Prop where
 blk:wx.heap[af]?=some (.cells (wY sv (upd v c ej)) 29)
 ob:wx.ownsRow (af+1) (KA c) 1 ej (cc ++ L).length (cc ++ L)
 vT:wx.ownsRow C e sz u' (n+m) (lq f ((n+m)*sz))
 Ay:L.length=k
 ne:∀ b,ej.ownBlock=some b→u'.ownBlock≠some b
 fL:∀ b,ej.ownBlock=some b→(v c).ownBlock=some b∨w.heap.size≤b
 nl:∀ b,u'.ownBlock=some b→u.ownBlock=some b∨w.heap.size≤b
 fr:∀ x,x∈L→∃ ad t q,x=.slice ad t q∧t≤n+m∧(t=0∨∃ g,ad=some ⟨g,0,none⟩∧C≤g∧g < wx.heap.size∧(u.ownBlock=some g∨w.heap.size≤g)∧ej.ownBlock≠some g∧∀ j,j < t*sz→wx.cell? ⟨g,j,none⟩=some (f j))
 old:∀ b,b < w.heap.size→(v c).ownBlock≠some b→u.ownBlock≠some b→b≠af→wx.heap[b]?=w.heap[b]?
 fb:∀ x,x∈L→∀ b,x.ownBlock=some b→b < wx.heap.size∧(u.ownBlock=some b∨w.heap.size≤b)
 kM:af < C
 size:w.heap.size≤wx.heap.size
 os:wx.os=w.os
 tape:wx.tape=w.tape
 output:wx.output=w.output
theorem nX.put(h:nX w wx af C n k m c e sz f sv v ej u u' cc L)(hc:nW c)(hown':w3.ownsRow (af+1) (KA c) 1 x ((cc++L).length+1) ((cc++L)++[u']))(hgrow:(wx.alloc o).grownBy w3 ej.ownBlock)(hat:x.ownBlock=ej.ownBlock\/x.ownBlock=some (wx.alloc o).heap.size/\(wx.alloc o).grownBy w3 none):nX w (w3.setCell ⟨af,c,none⟩ x) af C n (k+1) m c e sz f sv v x u u' cc (L++[u']):=by
 have xc:=h.kM;have hs:=h.size;have hblt:af<wx.heap.size:=(jT.1 h.blk).1;have hs3:wx.heap.size<w3.heap.size:=cw (by simp) hgrow.size;have hsz:(w3.setCell ⟨af,c,none⟩ x).heap.size=w3.heap.size:=by simp[World.setCell]
 have hvb:ej.ownBlock≠some af:=λe=>by have:=(h.ob.lt af e).1;omega
 have ah:∀b,b<wx.heap.size->ej.ownBlock≠some b->w3.heap[b]?=wx.heap[b]?:=λb hb h1=>by rw[hgrow.block b (by simp;omega) (λe=>h1 e.symm),cU _ _ _ hb]
 have Hj:∀b,b<wx.heap.size->ej.ownBlock≠some b->b≠af->(w3.setCell ⟨af,c,none⟩ x).heap[b]?=wx.heap[b]?:=λb hb h1 h2=>(ck _ _ _ _ h2).trans (ah b hb h1);have hu:∀b,x.ownBlock=some b->ej.ownBlock=some b\/wx.heap.size<b:=λb e=>by rcases hat with h1|⟨h1,_⟩;(·exact ai (h1.symm.trans e));·rw[h1]at e;have:=iA e;simp at this;exact ag (by omega)
 have hvl:∀b,u'.ownBlock=some b->C<=b/\b<wx.heap.size:=λb e=>h.vT.lt b e;refine⟨?_,?_,?_,by simp[h.Ay],?_,?_,h.nl,?_,?_,?_,xc,by omega,hgrow.os.trans h.os,hgrow.tape.trans h.tape,hgrow.output.trans h.output⟩;·have hb:w3.heap[af]?=_:=(ah af hblt hvb).trans h.blk;rw[heap_setCell_same w3 af c _ _ x hb,TD _ _ c hc,aps]
 ·rw[<-fS,bT (bs:=[u'])];exact bM hown' (My af) (jt _ _ _ _)
 ·exact bM ((h.vT.alloc o).kept hgrow (by cases hv:u'.ownBlock with|none=>exact ai rfl|some q=>exact ag (λe=>h.ne q e.symm hv))) xc (jt _ _ _ _)
 ·intro b e e2;rcases hu b e with h1|h1;(·exact h.ne b h1 e2);·have:=(hvl b e2).2;omega
 ·intro b e;rcases hu b e with h1|h1;(·exact h.fL b h1);·exact ag (by omega)
 ·intro y hm;(have cells:∀g j z,g<wx.heap.size->ej.ownBlock≠some g->g≠af->wx.cell? ⟨g,j,none⟩=some z->(w3.setCell ⟨af,c,none⟩ x).cell? ⟨g,j,none⟩=some z:=λg j z h1 h2 h3 h4=>by rw[eo (w:=wx) (Hj g h1 h2 h3)];exact h4);rcases mE.1 hm with hm|hm;(·obtain⟨ad,t,q,e,ht,hh⟩:=h.fr y hm;refine⟨ad,t,q,e,ht,?_⟩;rcases hh with h0|⟨g,e1,g1,g2,g3,g4,g5⟩;(·exact ai h0);·exact ag ⟨g,e1,g1,by omega,g3,(λe=>by rcases hu g e with h1|h1;(·exact g4 h1);·omega),λj hj=>cells g j _ g2 g4 (by omega) (g5 j hj)⟩);·rw[jW.1 hm];rcases h.vT.2 with⟨e,h0⟩|⟨g,cap,cur,e,g1,g2,_⟩;(·exact⟨_,_,_,e,cm _,ai rfl⟩);·(have rW:u'.ownBlock=some g:=by rw[e];rfl);have hgl:=(hvl g rW).2;have hne:ej.ownBlock≠some g:=λe2=>h.ne g e2 rW;refine⟨_,_,_,e,aC _,ag ⟨g,rfl,g1,by omega,h.nl g rW,(λe2=>?_),λj hj=>cells g j _ hgl hne (by omega) (Zb h.vT rW j hj)⟩⟩;rcases hu g e2 with h1|h1;(·exact hne h1);·omega
 ·intro b hb h1 h2 h3;refine(Hj b (by omega) (λe=>?_) h3).trans (h.old b hb h1 h2 h3);rcases h.fL b e with h4|h4;(·exact h1 h4);·omega
 ·intro y hm b e;rcases mE.1 hm with hm|hm;(·have:=h.fb y hm b e;exact⟨by omega,this.2⟩);·rw[jW.1 hm]at e;exact⟨by have:=(hvl b e).2;omega,h.nl b e⟩
theorem nX.more{w5:World}{news:List Value}(h:nX w wx af C n k m c e sz f sv v ej u u' cc L)(hnews:news=(List.range sz).map (λj=>f ((n+m)*sz+j)))(hown':w5.ownsRow C e sz x (n+m+1) (lq f ((n+m)*sz)++news))(hgrow:(wx.alloc o).grownBy w5 u'.ownBlock)(hat:x.ownBlock=u'.ownBlock\/x.ownBlock=some (wx.alloc o).heap.size/\(wx.alloc o).grownBy w5 none):nX w w5 af C n k (m+1) c e sz f sv v ej u x cc L:=by
 have xc:=h.kM;have hs:=h.size;have hblt:af<wx.heap.size:=(jT.1 h.blk).1;have hs5:wx.heap.size<w5.heap.size:=cw (by simp) hgrow.size;have hvl:∀b,u'.ownBlock=some b->C<=b/\b<wx.heap.size:=λb e=>h.vT.lt b e;have ah:∀b,b<wx.heap.size->u'.ownBlock≠some b->w5.heap[b]?=wx.heap[b]?:=λb hb h1=>by rw[hgrow.block b (by simp;omega) (λe=>h1 e.symm),cU _ _ _ hb]
 have hu:∀b,x.ownBlock=some b->u'.ownBlock=some b\/wx.heap.size<b:=λb e=>by rcases hat with h1|⟨h1,_⟩;(·exact ai (h1.symm.trans e));·rw[h1]at e;have:=iA e;simp at this;exact ag (by omega)
 have hol:w5.ownsRow C e sz x (n+(m+1)) (lq f ((n+(m+1))*sz)):=by rw[<-Nat.add_assoc,Nat.succ_mul,UR,<-hnews];exact hown'
 refine⟨(ah af hblt (λe=>by have:=(hvl af e).1;omega)).trans h.blk,?_,hol,h.Ay,?_,h.fL,?_,?_,?_,?_,xc,by omega,hgrow.os.trans h.os,hgrow.tape.trans h.tape,hgrow.output.trans h.output⟩;·exact(h.ob.alloc o).kept hgrow (by cases hv:ej.ownBlock with|none=>exact ai rfl|some q=>exact ag (λe=>h.ne q hv e.symm))
 ·intro b e e2;rcases hu b e2 with h1|h1;(·exact h.ne b e h1);·have:=(h.ob.lt b e).2;omega
 ·intro b e;rcases hu b e with h1|h1;(·exact h.nl b h1);·exact ag (by omega)
 ·intro y hm;obtain⟨ad,t,q,e,ht,hh⟩:=h.fr y hm;refine⟨ad,t,q,e,by omega,?_⟩;rcases hh with h0|⟨g,e1,g1,g2,g3,g4,g5⟩;(·exact ai h0);·refine ag ⟨g,e1,g1,by omega,g3,g4,λj hj=>?_⟩;by_cases hg:u'.ownBlock=some g;(·rcases hat with h1|⟨_,h1⟩;(·exact Zb hol (h1.trans hg) j (cw hj (IJ _ (by omega))));·rw[eo (w:=wx) ((h1.block g (by simp;omega) (by simp)).trans (cU _ _ _ g2))];exact g5 j hj);·rw[eo (w:=wx) (ah g g2 hg)];exact g5 j hj
 ·intro b hb h1 h2 h3;refine(ah b (by omega) (λe=>?_)).trans (h.old b hb h1 h2 h3);rcases h.nl b e with h4|h4;(·exact h2 h4);·omega
 ·intro y hm b e;have:=h.fb y hm b e;exact⟨by omega,this.2⟩
theorem nX.book{kk:Nat}{ys:List Value}(h:cX w af sv v xs)(hc:nW c)(hK:nX w w' af C n kk m c e sz f sv v ej u u' (xs c) L)(hsz:sz=Em c)(hf:∀i j,(xs c).length<=i->i<(xs c).length+kk->Hi c i j=f j)(hu:w.ownsRow C e sz u n ys)(iF:∀b,u.ownBlock=some b->fR af v xs b)(hn:n+m<=1099511627780)(h9:(xs c).length+kk<=4000000000000):cX w' af sv (upd v c ej) (upd xs c (xs c++L))/\(∀b,b<w.heap.size->fR af v xs b->u.ownBlock≠some b->w'.heap[b]?=w.heap[b]?/\fR af (upd v c ej) (upd xs c (xs c++L)) b)/\Below af w w':=by have hA:=cX.add (T:=λb=>u.ownBlock=some b) h hc iF hK.blk hK.ob hK.fL (λb hb h1 h2 h3=>hK.old b hb h1 h2 h3) hK.size (λi x hx=>by obtain⟨ad,t,q,e1,ht,hh⟩:=hK.fr x (ld hx);refine⟨ad,t,q,e1,by omega,?_⟩;rcases hh with h0|⟨g,e2,g1,g2,g3,g4,g5⟩;(·exact ai h0);·refine ag ⟨g,e2,g3,g2,g4,λj hj=>?_⟩;rw[<-hsz]at hj;rw[g5 j hj,hf];(·omega);·have:=(dw.1 hx).1;have:=hK.Ay;omega) hK.fb (by rw[hK.Ay];exact h9);refine⟨hA.1,hA.2,hK.os,hK.tape,hK.output,hK.size,λk hk=>hK.old k (by have:=h.lt';omega) (λe=>by have:=((h.own c hc).lt k e).1;omega) (λe=>by have:=(hu.lt k e).1;have:=hK.kM;omega) (by omega)⟩
theorem j3(h1:1<=k)(h2:k<=7):nW k:=⟨h1,h2⟩
theorem cX.elem(h:cX w af sv v xs)(hk:nW k){p:Option Addr}(hv:v k=.slice p n c)(i:Nat)(u:Value)(hu:(xs k)[i]?=some u):∃g ad m cc,p=some ⟨g,0,none⟩/\g<w.heap.size/\w.cell? ⟨g,i,none⟩=some (.slice ad m cc)/\u=.slice ad m cc/\m<=1099511627780/\(m=0\/∃g2,ad=some ⟨g2,0,none⟩/\g2<w.heap.size/\∀j,j<m*Em k->w.cell? ⟨g2,j,none⟩=some (Hi k i j)):=by
 obtain⟨g,cap,e,hg,hc⟩:=alp (h.own k hk) i u hu;obtain⟨ad,m,cc,rfl,hm,hh⟩:=h.held k hk i u hu;rw[hv]at e;simp only[Value.slice.injEq]at e;obtain⟨rfl,_,_⟩:=e;refine⟨g,ad,m,cc,rfl,hg,hc,rfl,hm,?_⟩;rcases hh with h0|⟨g2,e2,_,h2,h3⟩;·exact ai h0
 ·exact ag ⟨g2,e2,h2,h3⟩
theorem ahd(w:World)(af:Nat)(sv:Value)(v:Nat->Value)(xs:Nat->List Value)(h:cX w af sv v xs)(nI:(xs 7).length=(xs 6).length):Calls prog 40 #[.pointer (some ⟨af,0,none⟩)] w λe w'=>e=.returned (.bool true)/\∃n,w'=w.drewN n:=by
 have H:=ac h;obtain⟨c0,c1,c2,c3,c4,c5,c6,c7⟩:=h.cells;obtain⟨xt,k6,e6⟩:=vV (h.own 6 (j3 (by omega) (by omega)));obtain⟨uR,k7,e7⟩:=vV (h.own 7 (j3 (by omega) (by omega)));have asc:=h.len 6 (j3 (by omega) (by omega));rw[e6]at c6;rw[e7,nI]at c7;have aaQ:=ac e6;have aaR:=ac e7;have wG:=ac nI;clear h c0 c1 c2 c3 c4 c5 e6 e7 nI;generalize hG:(xs 6).length=G at *;have HG:=ac hG;clear hG;go_enter func40,ntmps40;go_wp2_with fail;go_loopw[3] (λi wx=>∃(k n:Nat),k<=G/\i=.int .i64 k/\wx=w.drewN n) (λi _=>G-(intOf i).toNat);case atStart=>exact⟨0,0,cm _,rfl,rfl⟩
 case round=>obtain⟨k,n3,hk,rfl,rfl⟩:=hrel;by_cases gF:k<G;(·obtain⟨u,hu⟩:∃u,(xs 6)[k]?=some u:=⟨_,cS (by rw[HG.aa];exact gF)⟩;obtain⟨u',hu'⟩:∃u,(xs 7)[k]?=some u:=⟨_,cS (by rw[wG.aa];exact gF)⟩;obtain⟨g,ad,m,cc,rfl,hg,hc,rfl,hm,hh⟩:=H.aa.elem (j3 (by omega) (by omega)) aaQ.aa k u hu;obtain⟨g',ap9,m',aqm,rfl,hg',hc',rfl,hm',hh'⟩:=H.aa.elem (j3 (by omega) (by omega)) aaR.aa k u' hu';have HH:=ac hh;have abx:=ac hh';clear hh hu hh' hu';go_wp2_with fail;go_loopw[4] (λi wx=>∃(j n:Nat),j<=m/\i=.int .i64 j/\wx=w.drewN n) (λi _=>m-(intOf i).toNat);(case atStart=>exact⟨0,_,cm _,rfl,rfl⟩);case round=>obtain⟨j,n4,hj,rfl,rfl⟩:=hrel;by_cases hjm:j<m;(·rcases HH.aa with h0|⟨g2,rfl,hg2,hcell⟩;(·omega);·(have q0:w.cell? ⟨g2,j*2,none⟩=some (.string Q0):=by rw[hcell (j*2) (by show _<m*2;omega)];show some (Gi k (j*2))=_;unfold Gi;rw[ax (by omega)]);(have q1:w.cell? ⟨g2,j*2+1,none⟩=some (.int .i64 0):=by rw[hcell (j*2+1) (by show _<m*2;omega)];show some (Gi k (j*2+1))=_;unfold Gi;rw[au (by omega)]);clear hcell;simp only[Q0]at q0;go_wp2;go_roundw;(case rel=>exact⟨j+1,_,by omega,by go_num,rfl⟩);case measure=>simp[intOf];omega);·go_wp2_with fail;go_loopw[5] (λi wx=>∃(j n:Nat),j<=m'/\i=.int .i64 j/\wx=w.drewN n) (λi _=>m'-(intOf i).toNat);(case atStart=>exact⟨0,_,cm _,rfl,rfl⟩);case round=>obtain⟨j,n4,hj,rfl,rfl⟩:=hrel;by_cases hjm:j<m';(·rcases abx.aa with h0|⟨g2,rfl,hg2,hcell⟩;(·omega);·have q0:w.cell? ⟨g2,j,none⟩=some (.int .i64 (-7)):=hcell j (by show _<m'*1;omega);clear hcell;go_wp2;go_roundw;(case rel=>exact⟨j+1,_,by omega,by go_num,rfl⟩);case measure=>simp[intOf];omega);·go_wp2;go_roundw;(case rel=>exact⟨k+1,_,by omega,by go_num,rfl⟩);case measure=>simp[intOf];omega);·go_wp2;go_ret;exact⟨rfl,_,rfl⟩
theorem anT{wr:World}{bl:Nat}{v':Value}(h:cX w af sv v xs)(iF:fR af v xs bl)(hbs:bl<w.heap.size)(hbb:af<bl)(hn:n<=1099511627780)(hg:w.grownBy wr (some bl))(hrow:wr.rowIs bl 5 n (λ_=>.int .u8 251))(h9:(xs 5).length+1<=4000000000000)(hown':w3.ownsRow (af+1) 45 1 v' ((xs 5).length+1) (xs 5++[.slice (some ⟨bl,0,none⟩) n n]))(hgrow:(wr.alloc o).grownBy w3 (v 5).ownBlock)(hnew:∀b,v'.ownBlock=some b->(v 5).ownBlock=some b\/wr.heap.size<=b):cX (w3.setCell ⟨af,5,none⟩ v') af sv (upd v 5 v') (upd xs 5 (xs 5++[.slice (some ⟨bl,0,none⟩) n n]))/\(∀b,b<w.heap.size->fR af v xs b->b≠bl->(w3.setCell ⟨af,5,none⟩ v').heap[b]?=w.heap[b]?/\fR af (upd v 5 v') (upd xs 5 (xs 5++[.slice (some ⟨bl,0,none⟩) n n])) b)/\Below af w (w3.setCell ⟨af,5,none⟩ v'):=by
 have h5:nW 5:=j3 (by omega) (by omega);have jN:=h.lt';have hwr:=hg.size;have hw3:wr.heap.size<w3.heap.size:=cw (by simp) hgrow.size;have hsz:(w3.setCell ⟨af,5,none⟩ v').heap.size=w3.heap.size:=by simp[World.setCell]
 have ah:∀b,b<w.heap.size->b≠bl->(v 5).ownBlock≠some b->w3.heap[b]?=w.heap[b]?:=λb hb h1 h2=>by rw[hgrow.block b (by simp;omega) (λe=>h2 e.symm),cU _ _ _ (by omega),hg.block b hb (λe=>h1 (iA e))]
 have Hj:∀b,b<w.heap.size->b≠bl->(v 5).ownBlock≠some b->b≠af->(w3.setCell ⟨af,5,none⟩ v').heap[b]?=w.heap[b]?:=λb hb h1 h2 h3=>(ck _ _ _ _ h3).trans (ah b hb h1 h2);have Kn:(v 5).ownBlock≠some af:=λe=>by have:=((h.own 5 h5).lt af e).1;omega
 have hrow3:w3.rowIs bl 5 n (λ_=>.int .u8 251):=(hrow.alloc o).of_block (hgrow.block bl (by simp;omega) (λe=>iF.1.2 5 h5 e.symm));have hnl:v'.ownBlock≠some bl:=λe=>(hnew bl e).elim (iF.1.2 5 h5) (λe=>by omega);have hA:=cX.add (w':=w3.setCell ⟨af,5,none⟩ v') (T:=λb=>b=bl) (L:=[.slice (some ⟨bl,0,none⟩) n n]) h h5 (λb e=>by rw[e];exact iF) (by rw[heap_setCell_same w3 af 5 _ _ v' ((ah af jN (by omega) Kn).trans h.blk),TD _ _ 5 h5]) (by rw[bT];exact rd.bM hown' (My af) (jt _ _ _ _)) (λb e=>(hnew b e).imp id (λe=>by omega)) (λb hb h1 h2 h3=>Hj b hb h2 h1 h3) (by omega) (λi u hu=>by(have hi:i=0:=by have:=(dw.1 hu).1;simpa using this);subst hi;simp only[Bk,lT]at hu;subst hu;refine⟨_,_,_,rfl,hn,ag ⟨bl,rfl,ai rfl,by omega,hnl,λj hj=>?_⟩⟩;(have hj:j<n:=by simpa[Em]using hj);exact(wT _ _ _ _ (by simp)).trans (hrow3.cell hj)) (λu hu b e=>by simp only[jW]at hu;subst hu;cases e;exact⟨by show bl<_;omega,ai rfl⟩) (by simpa using h9);exact⟨hA.1,hA.2,hgrow.os.trans hg.os,hgrow.tape.trans hg.tape,hgrow.output.trans hg.output,by omega,λb hb=>Hj b (by omega) (by omega) (λe=>by have:=((h.own 5 h5).lt b e).1;omega) (by omega)⟩
theorem amg(w:World)(af bl:Nat)(sv:Value)(v:Nat->Value)(xs:Nat->List Value)(s:ByteArray)(hs:s.size<=1099511627776)(h:cX w af sv v xs)(hl:w.rowIs bl 5 (s.size+2) (mU s.data.toList))(iF:fR af v xs bl)(hbb:af<bl)(h9:(xs 5).length+1<=4000000000000):Calls prog 34 #[.pointer (some ⟨af,0,none⟩),.slice (some ⟨bl,0,none⟩) (s.size+2) (s.size+2),.string s] w λe w'=>e=.returned (.bool true)/\∃u',cX w' af sv (upd v 5 u') (upd xs 5 (xs 5++[.slice (some ⟨bl,0,none⟩) (s.size+2) (s.size+2)]))/\(∀b,b<w.heap.size->fR af v xs b->b≠bl->w'.heap[b]?=w.heap[b]?/\fR af (upd v 5 u') (upd xs 5 (xs 5++[.slice (some ⟨bl,0,none⟩) (s.size+2) (s.size+2)])) b)/\Below af w w':=by
 have zi:=ac iF;have H:=ac h;have hcv:=aey hl;obtain⟨c0,c1,c2,c3,c4,c5,c6,c7⟩:=h.cells;have fH:=ac hl;have k1:=hl.cell (i:=s.size) (by omega);have k2:=hl.cell (i:=s.size+1) (by omega);have hsz:=dI s;have e1:mU s.data.toList s.size=.int .u8 252:=by unfold mU;rw[au (by omega),ax (by omega)]
 have e2:mU s.data.toList (s.size+1)=.int .u8 253:=by unfold mU;rw[au (by omega),au (by omega)]
 rw[e1]at k1;rw[e2]at k2;obtain⟨i0,hi,hz0,hz1,hz2⟩:=fK X8;have fB:=ac hsz;clear iF h hl hsz e1 e2 c0 c1 c2 c3 c4 c6 c7;go_enter func34,ntmps34;go_wp2_with fail;go_loopw[9] (λi wx=>∃(k:Nat),k<=s.size+2/\i=.int .i64 k/\wx.rowIs bl 5 (s.size+2) (λj=>if j<k then .int .u8 251 else mU s.data.toList j)/\w.grownBy wx (some bl)) (λi _=>s.size+2-(intOf i).toNat);case atStart=>exact⟨0,cm _,rfl,fH.aa.congr (λi _=>by simp),xa _ _⟩
 case round=>obtain⟨k,hk,rfl,hrow,hg⟩:=hrel;by_cases hlt:k<s.size+2;(·have q1:=hrow.cell hlt;have f1:=hrow.frozen k;have jr:=ac (hrow.set k (.int .u8 251));have HG:=ac (mM hg (jt wr bl k (.int .u8 251)));(have ah4:(k:Int)<(s.size:Int)+2:=by omega);clear hrow hg;go_wp2_with fail;go_roundw;(case rel=>refine⟨k+1,by omega,by go_num,jr.aa.congr (λi _=>?_),HG.aa⟩;show(if i=k then Value.int .u8 251 else if i<k then .int .u8 251 else mU s.data.toList i)=if i<k+1 then .int .u8 251 else mU s.data.toList i;by_cases h1:i=k;(·rw[ax h1,ax (by omega)]);·rw[au h1];by_cases h2:i<k;(·rw[ax h2,ax (by omega)]);·rw[au h2,au (by omega)]);case measure=>simp[intOf];omega);·(have D6:¬(k:Int)<(s.size:Int)+2:=by omega);have jr:=ac (hrow.congr (g:=λ_=>.int .u8 251) (λi hi=>by show(if i<k then Value.int .u8 251 else mU s.data.toList i)=.int .u8 251;rw[ax (by omega)]));have HG:=ac hg;have aqi:wr.cell? ⟨af,5,none⟩=some (v 5):=hg.cell c5 (by simp;omega);have hblk:wr.heap[af]?=_:=(hg.block af H.aa.lt' (by simp;omega)).trans H.aa.blk;have VV:=(H.aa.own 5 (j3 (by omega) (by omega))).kept hg (by cases hv:(v 5).ownBlock with|none=>exact ai rfl|some k=>exact ag (λe=>zi.aa.1.2 5 (j3 (by omega) (by omega)) (by rw[hv];exact e)));have ik:=ac hblk;have xR:=ac VV;have ar5:=hg.size;have JE:=H.aa.lt';clear hrow hg hblk VV c5 k1 k2 hcv;have hown:=xR.aa;go_wp2_with(first|(at_builtin;refine jx _ rfl _ _ 24 rfl (af+1) 45 i0 (.slice none 0 0) 1 24 underlying24 hi hz0 hz1 hz2 rfl (by decide) _ _ _ rfl (hown.alloc _) ⟨wr.heap.size,0,none⟩ 1 1 [.slice (some ⟨bl,0,none⟩) (s.size+2) (s.size+2)] rfl rfl (uu _ _ _) ?c2 ?c3 ?c4 ?c5 ?_));(case c2=>first|rfl|(intro u hu;simp at hu;subst hu;rfl));(case c3=>unfold maxLen;omega);(case c4=>omega);(case c5=>first|omega|(simp;omega));intro v' w3 hown' hgrow _ hat;(have Kn:(v 5).ownBlock≠some af:=λe=>by have:=((H.aa.own 5 (j3 (by omega) (by omega))).lt af e).1;omega);have hb3:w3.heap[af]?=_:=(hgrow.block af (by simp;omega) (λe=>Kn e.symm)).trans ((cU _ _ _ (by omega)).trans ik.aa);have T:=anT (o:=.cells #[.slice (some ⟨bl,0,none⟩) (s.size+2) (s.size+2)] 45) H.aa zi.aa fH.aa.lt hbb (by omega) HG.aa jr.aa h9 hown' hgrow (λb e=>by rcases hat with h|h;(·exact ai (h.symm.trans e));·rw[h]at e;have:=iA e;exact ag (by first|omega|(simp at this;omega)));have mB:=ac T;obtain⟨g',cap',rfl⟩:=bI hown' (by omega);obtain⟨_,_,_,_,_,d5,_,_⟩:=CP hb3;(have f5:w3.frozen? ⟨af,5,none⟩=false:=by simp[World.frozen?,hb3]);clear T hown' hgrow hat hb3 Kn hown;go_wp2;go_ret;exact⟨rfl,_,mB.aa⟩
theorem amj{F:Nat->Value}(h:w.rowIs g e cap f)(hC:C<=g)(hn:n<=cap)(hm:cap<=maxLen)(hf:∀j,j<n->f j=F j):w.ownsRow C e 1 (.slice (some ⟨g,0,none⟩) n cap) n (lq F (n*1)):=by
 obtain⟨cur,hb,hs,hc⟩:=h;refine⟨by rw[NS],ag ⟨g,cap,cur,rfl,hC,hb,hn,hm,by omega,?_⟩⟩;apply SH;intro j;by_cases hj:j<n;·rw[x6 (by omega),UT F (by omega),ER,hc j (by omega),hf j hj]
 ·rw[Dc (by simp;omega),Dc (by rw[NS];omega)]
theorem adY(w:World)(b o:Nat)(v x:Value):∀j u,[x][j]?=some u->((w.setCell ⟨b,o,none⟩ v).alloc (.cells #[x] 5)).cell? ((⟨w.heap.size,0,none⟩:Addr).add j)=some u:=by have h:=uu (w.setCell ⟨b,o,none⟩ v) x 5;rw[show(w.setCell ⟨b,o,none⟩ v).heap.size=w.heap.size by simp[World.setCell]]at h;exact h
theorem ajz (w:World) (af C n:Nat) (sv:Value) (v:Nat→Value) (xs:Nat→List Value) (u:Value) (ys:List Value) (h:cX w af sv v xs) (hv:w.ownsRow C 5 1 u n ys) (xc:af < C) (iF:∀ b,u.ownBlock=some b→fR af v xs b) (hn:n≤1000000000000) (h9:(xs 1).length+4≤4000000000000) (Gq:C≤w.heap.size) :
 Calls prog 42 #[.pointer (some ⟨af,0,none⟩),u] w fun e w'=>e=.returned (.tuple #[])∧∃ ej u' L,nX w w' af C n 4 4 1 5 1 (fun j=>.int .u8 (rP (xs 1).length j:Int)) sv v ej u u' (xs 1) L:=by
 have H:=ac h
 have I2:=ac fun (i:Nat) (w:World) (hi:i≤4611686018427387904)=>Ud (xs 1).length i w (by omega) hi
 obtain ⟨c0,c1,c2,c3,c4,c5,c6,c7⟩:=h.cells
 obtain ⟨CA,kc,ec⟩:=vV (h.own 1 ⟨by omega,by omega⟩)
 rw [ec] at c1
 have apY:=ac ec
 obtain ⟨i0,hi,hz0,hz1,hz2⟩:=fK X8
 obtain ⟨i1,hj,hy0,hy1,hy2⟩:=fK Hf
 obtain ⟨pv,dW,rfl⟩:=vV hv
 have cz:=ac hv
 have zi:=ac iF
 clear iF h hv ec c0 c2 c3 c4 c5 c6 c7
 go_enter func42,ntmps42
 go_wp2_with fail
 go_loopw [5] (fun i wx=>∃ (k:Nat),k≤n∧i=.int .i64 k∧w.grownBy wx (Value.slice pv n dW).ownBlock∧(n=0∧wx=w∨∃ g f,pv=some ⟨g,0,none⟩∧C≤g∧n≤dW∧dW≤maxLen∧wx.rowIs g 5 dW f∧∀ j,j < k→f j=.int .u8 (rP (xs 1).length j:Int))) (fun i _=>n - (intOf i).toNat)
 case atStart =>
  refine ⟨0,cm _,rfl,xa _ _,?_⟩
  cases pv with
  | none =>
    refine ai ⟨?_,rfl⟩
    rcases cz.aa.2 with ⟨h1,h2⟩ | ⟨g,cap,cur,h1,_⟩
    · exact h2
    · cases h1
  | some a =>
    obtain ⟨g,o,sp⟩:=a
    have ha:(⟨g,o,sp⟩:Addr)=⟨g,0,none⟩:=by
     rcases cz.aa.2 with ⟨h1,h2⟩ | ⟨g',cap,cur,h1,_⟩
     · cases h1
     · simp only [Value.slice.injEq,lT,Addr.mk.injEq] at h1
       obtain ⟨⟨rfl,rfl,rfl⟩,_⟩:=h1
       rfl
    rw [ha]
    have hv:=cz.aa
    rw [ha] at hv
    obtain ⟨h1,h2,h3,f,h4,_⟩:=alr hv
    exact ag ⟨g,f,rfl,h1,h2,h3,h4,fun j hj=>by omega⟩
 case round =>
  obtain ⟨k,hk,rfl,hg,hh⟩:=hrel
  by_cases hlt:k < n
  · rcases hh with ⟨h0,_⟩ | ⟨g,f,rfl,agG,Cl,ahR,hrow,hf⟩
    · omega
    · have q1:=hrow.cell (i:=k) (by omega)
      have f1:=hrow.frozen k
      have jr:=ac (hrow.set k (.int .u8 (rP (xs 1).length k:Int)))
      have HG:=ac (mM hg (jt wr g k (.int .u8 (rP (xs 1).length k:Int))))
      have cv:=ac hf
      have hdd:=ac (I2.aa k · (by omega))
      clear hrow hg hf
      go_wp2_with fail
      refine (hdd.aa _).mono ?_
      rintro e jo ⟨rfl,rfl⟩
      go_wp2_with fail
      go_roundw
      case rel =>
       refine ⟨k+1,by omega,by go_num,HG.aa,ag ⟨g,_,rfl,agG,Cl,ahR,jr.aa,fun j hj=>?_⟩⟩
       show (if j=k then _ else f j)=_
       by_cases e:j=k
       · rw [ax e,e]
       · rw [au e];exact cv.aa j (by omega)
      case measure=>simp [intOf];omega
  · have HG:=ac hg
    have HH:=ac hh
    clear hg hh
    have Gw:nX w wr af C n 0 0 1 5 1 (fun j=>.int .u8 (rP (xs 1).length j:Int)) sv v (v 1) (.slice pv n dW) (.slice pv n dW) (xs 1) []:=by
     have hg:=HG.aa
     have hW:=H.aa
     have hne:∀ b,(Value.slice pv n dW).ownBlock=some b→C≤b:=fun b e=>(cz.aa.lt b e).1
     have J1:∀ b,b < w.heap.size→b < C→wr.heap[b]?=w.heap[b]?:=fun b hb hc=>hg.block b hb (fun e=>by have:=hne b e.symm;omega)
     refine ⟨by rw [aat];exact (J1 af hW.lt' (by omega)).trans hW.blk,?_,?_,rfl,?_,fun b e=>ai e,fun b e=>ai e,fun u hm=>by simp at hm,fun b hb _ h2 _=>hg.block b hb (fun e=>h2 e.symm),fun u hm=>by simp at hm,by omega,hg.size,hg.os,hg.tape,hg.output⟩
     · rw [ek]
       exact (hW.own 1 ⟨by omega,by omega⟩).kept hg (by
        cases hv:(v 1).ownBlock with
        | none=>exact ai rfl
        | some q=>exact ag (fun e=>(zi.aa q e.symm).1.2 1 ⟨by omega,by omega⟩ hv))
     · rcases HH.aa with ⟨h0,e⟩ | ⟨g,f,rfl,h1,h2,h3,h4,h5⟩
       · have hv:=cz.aa
         rw [e]
         subst h0
         refine ⟨rfl,?_⟩
         rcases hv.2 with h | ⟨g,cap,cur,q1,q2,q3,q4,q5,q6,_⟩
         · exact ai h
         · exact ag ⟨g,cap,cur,q1,q2,q3,q4,q5,q6,by simp [lq]⟩
       · exact amj h4 h1 h2 h3 (fun j hj=>h5 j (by omega))
     · intro b e e2
       exact (zi.aa b e2).1.2 1 ⟨by omega,by omega⟩ e
    have wH:=ac Gw
    clear Gw HH HG c1
    have c1':wr.cell? ⟨af,1,none⟩=some (v 1):=by
     have:=(CP wH.aa.blk).2.1
     rw [upd_same] at this
     exact this
    have F1:=ac c1'
    clear c1'
    go_wp2_with fail
    go_loopw [1,6] (fun l i wx=>∃ (k:Nat) (ej u':Value) (L:List Value),k≤4∧i=.int .i64 (k:Int)∧l=u'∧nX w wx af C n k k 1 5 1 (fun j=>.int .u8 (rP (xs 1).length j:Int)) sv v ej (.slice pv n dW) u' (xs 1) L) (fun _ i _=>4 - (intOf i).toNat)
    case atStart=>exact ⟨0,_,_,[],by omega,rfl,rfl,wH.aa⟩
    case round =>
     obtain ⟨k,ej,v',L,hk,rfl,rfl,hK⟩:=hrel
     have HK:=ac hK
     by_cases ah1:k < 4
     · obtain ⟨p1,m1,q1,rfl⟩:=rd.jH hK.ob
       obtain ⟨p2,m2,q2,rfl⟩:=rd.jH hK.vT
       have hm2:m2=n+k:=by rcases hK.vT.2 with ⟨h1,h2⟩ | ⟨g,cap,cur,h1,_⟩<;>cases h1<;>omega
       have A6:=ac hm2
       clear hm2
       have d1:=(CP hK.blk).2.1
       rw [upd_same] at d1
       have hLn:=hK.Ay
       have hll:((xs 1) ++ L).length≤4000000000000:=by simp;omega
       have hbl:af < wr.heap.size:=(Array.getElem?_eq_some_iff.1 hK.blk).1
       have agI:C≤wr.heap.size:=by have:=hK.size;omega
       have hvb:(Value.slice p1 m1 q1).ownBlock≠some af:=fun e=>by have:=(hK.ob.lt af e).1;omega
       have Fl:=ac hll
       have FC:=ac hvb
       clear hK hll hvb
       go_wp2_with (first
        | (at_builtin;refine Lt _ rfl _ _ 24 rfl (af+1) 45 i0 (.slice none 0 0) 1 24 underlying24 hi hz0 hz1 hz2 rfl (by decide) _ (xs 1 ++ L).length (xs 1 ++ L) rfl (HK.aa.ob.alloc _) ⟨wr.heap.size,0,none⟩ 1 1 (by decide) [.slice p2 m2 q2] rfl rfl (uu _ _ _) (fun u hu=>by rw [List.mem_singleton.1 hu];rfl) (by unfold maxLen;have:=Fl.aa;omega) (by have:=Fl.aa;omega) (by simp;omega) ?_))
       intro u1 w3 hown1 hgrow1 GI
       have jE:=HK.aa.put ⟨by omega,by omega⟩ (by rw [fS,bT,hLn];exact hown1) hgrow1 (GI.imp (fun e=>e) (fun e=>⟨by rw [e.1];simp,e.2⟩))
       have hb3:w3.heap[af]?=_:=(hgrow1.block af (by simp;omega) (fun e=>FC.aa e.symm)).trans ((cU _ _ _ hbl).trans HK.aa.blk)
       have Nn:=(CP hb3).2.1
       rw [upd_same] at Nn
       have Uv:w3.frozen? ⟨af,1,none⟩=false:=by simp [World.frozen?,hb3]
       obtain ⟨g1,kp,rfl⟩:=bI hown1 (by omega)
       have gJ:=ac jE
       have hs3:wr.heap.size < w3.heap.size:=cw (by simp) hgrow1.size
       have hdd:=ac fun w=>I2.aa m2 w (by have:=A6.aa;omega)
       clear hown1 hgrow1 GI jE hb3 d1
       go_wp2_with fail
       refine (hdd.aa _).mono ?_
       rintro e jo ⟨rfl,rfl⟩
       go_wp2_with (first
        | (at_builtin;refine Lt _ rfl _ _ 45 rfl C 5 i1 (.int .u8 0) 1 1 underlying45 hj hy0 hy1 hy2 rfl (by decide) _ (n+k) (lq (fun j=>.int .u8 (rP (xs 1).length j:Int)) ((n+k)*1)) rfl (gJ.aa.vT.alloc _) ⟨w3.heap.size,0,none⟩ 1 1 (by decide) [.int .u8 (rP (xs 1).length m2:Int)] rfl rfl (adY _ _ _ _ _) (fun u hu=>by rw [List.mem_singleton.1 hu];rfl) (by unfold maxLen;omega) (by omega) (by simp;omega) ?_))
       intro u2 w5 hown2 hgrow2 Af
       have fA:=ac (gJ.aa.more (news:=[.int .u8 (rP (xs 1).length m2:Int)]) (by rw [A6.aa];simp) (by rw [Nat.mul_one];exact hown2) hgrow2 (Af.imp (fun e=>e) (fun e=>⟨by rw [e.1];simp,e.2⟩)))
       obtain ⟨g2,cap2,rfl⟩:=bI hown2 (by omega)
       clear hown2 hgrow2 Af
       go_wp2
       go_roundw
       case rel=>exact ⟨k+1,_,_,_,by omega,by go_num,rfl,fA.aa⟩
       case measure=>simp [intOf];omega
     · have:k=4:=by omega
       subst this
       clear hK
       go_wp2_with fail
       go_end0
       exact ⟨rfl,_,_,_,HK.aa⟩
theorem ajy(w:World)(af C n:Nat)(sv:Value)(v:Nat->Value)(xs:Nat->List Value)(u:Value)(ys:List Value)(h:cX w af sv v xs)(hv:w.ownsRow C 5 1 u n ys)(xc:af<C)(iF:∀b,u.ownBlock=some b->fR af v xs b)(hn:n<=1000000000000)(h4:(xs 1).length%4=0)(h9:(xs 1).length+4<=4000000000000)(Gq:C<=w.heap.size):Calls prog 42 #[.pointer (some ⟨af,0,none⟩),u] w λe w'=>e=.returned (.tuple #[])/\∃ej L,L.length=4/\cX w' af sv (upd v 1 ej) (upd xs 1 (xs 1++L))/\(∀b,b<w.heap.size->fR af v xs b->u.ownBlock≠some b->w'.heap[b]?=w.heap[b]?/\fR af (upd v 1 ej) (upd xs 1 (xs 1++L)) b)/\Below af w w':=(ajz w af C n sv v xs u ys h hv xc iF hn h9 Gq).mono λe w' ⟨he,ej,u',L,hK⟩=>⟨he,ej,L,hK.Ay,nX.book h ⟨by omega,by omega⟩ hK rfl (λi j h1 h2=>by show M5 i j=_;unfold M5;rw[show i/4*4=(xs 1).length by omega]) hv iF (by omega) h9⟩
end lb
end Go.Proofs.YtnmfmoimjkoieaaGreatDoor
