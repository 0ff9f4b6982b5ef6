import Derived.Test.YtnmfmoimjkoieaaGreatDoorF04
import Derived.Conc.LoneSelect
import Derived.Deep.MidRow
set_option maxHeartbeats 25600000
set_option maxRecDepth 100000
set_option linter.all false
namespace Go.Proofs.YtnmfmoimjkoieaaGreatDoor
open Go.Proofs.Tryz
variable{w w' W:World}{C D sz n b N i cap k s r:Nat}{e t:TypeId}{v:Value}{xs:List Value}{F G:Nat->Prop}{c y:Code}{o A:Obj}{z:Nat×Nat}{ops:Array Oper}{α:Type}
namespace rd
open Go.RowKit aD av aM
def aL(p:ay):Array Value:=#[.int .i64 p.kind,.bool p.aR,.bool p.will,.int .i64 p.ah,.string (bs p.aq),.bool p.aS,.int .i64 p.code,.bool p.dup,.int .i64 p.qos,.bool p.aF,.string (bs p.ak),.string (bs p.az),.int .i64 p.id,p.fv,p.ae]
def bA:ay:=⟨0,false,false,0,[],false,0,false,0,false,[],[],0,.slice none 0 0,.slice none 0 0⟩
def ET(a:Addr)(w:World)(R:Option (ay×List (List UInt8×Int)×List Int))(e:Ending)(w':World):Prop:=Below w.heap.size w w'/\match R with|some r=>∃fv ae,e=.returned (.tuple #[.agg (aL {r.1 with fv:=fv,ae:=ae}),.nilIface])/\w'.ownsRow w.heap.size 95 2 fv r.2.1.length (ey r.2.1)/\w'.ownsRow w.heap.size 3 1 ae r.2.2.length (ints r.2.2)|none=>∃v n,e=.returned (.tuple #[.agg (aL bA),v])/\o6 a (n+1) v
theorem Ht(h:w.ownsRow C e sz v n xs)(hD:D<=C):w.ownsRow D e sz v n xs:=by
 refine⟨h.1,?_⟩;rcases h.2 with hn|⟨g,cap,cur,h1,h2,h3⟩;·exact ai hn
 ·exact ag ⟨g,cap,cur,h1,by omega,h3⟩
theorem DU(w:World)(o1 o2 o3:Obj):(((w.alloc o1).alloc o2).alloc o3).heap[w.heap.size+1]?=some o2:=by show(((w.heap.push o1).push o2).push o3)[w.heap.size+1]?=some o2;rw[Array.getElem?_push,au (by simp),Array.getElem?_push,ax (by simp)]
theorem AL(h:w.heap[b]?=some (.cells (aL bA) 36)):w.cell? ⟨b,0,none⟩=some (.int .i64 0)/\w.cell? ⟨b,1,none⟩=some (.bool false)/\w.cell? ⟨b,2,none⟩=some (.bool false)/\w.cell? ⟨b,3,none⟩=some (.int .i64 0)/\w.cell? ⟨b,4,none⟩=some (.string (bs []))/\w.cell? ⟨b,5,none⟩=some (.bool false)/\w.cell? ⟨b,6,none⟩=some (.int .i64 0)/\w.cell? ⟨b,7,none⟩=some (.bool false)/\w.cell? ⟨b,8,none⟩=some (.int .i64 0)/\w.cell? ⟨b,9,none⟩=some (.bool false)/\w.cell? ⟨b,10,none⟩=some (.string (bs []))/\w.cell? ⟨b,11,none⟩=some (.string (bs []))/\w.cell? ⟨b,12,none⟩=some (.int .i64 0)/\w.cell? ⟨b,13,none⟩=some (.slice none 0 0)/\w.cell? ⟨b,14,none⟩=some (.slice none 0 0):=by refine⟨?_,?_,?_,?_,?_,?_,?_,?_,?_,?_,?_,?_,?_,?_,?_⟩;all_goals simp[World.cell?,h,aL,bA]
theorem EN(h:w.heap[b]?=some (.cells (aL bA) 36)):w.frozen? ⟨b,0,none⟩=false/\w.frozen? ⟨b,1,none⟩=false/\w.frozen? ⟨b,2,none⟩=false/\w.frozen? ⟨b,3,none⟩=false/\w.frozen? ⟨b,4,none⟩=false/\w.frozen? ⟨b,5,none⟩=false/\w.frozen? ⟨b,6,none⟩=false/\w.frozen? ⟨b,7,none⟩=false/\w.frozen? ⟨b,8,none⟩=false/\w.frozen? ⟨b,9,none⟩=false/\w.frozen? ⟨b,10,none⟩=false/\w.frozen? ⟨b,11,none⟩=false/\w.frozen? ⟨b,12,none⟩=false/\w.frozen? ⟨b,13,none⟩=false/\w.frozen? ⟨b,14,none⟩=false:=by refine⟨?_,?_,?_,?_,?_,?_,?_,?_,?_,?_,?_,?_,?_,?_,?_⟩;all_goals simp[World.frozen?,h]
theorem jH(h:w.ownsRow C e sz v n xs):∃q m c,v=.slice q m c:=by
 rcases h.2 with⟨h1,_⟩|⟨g,cap,cur,h1,_⟩;·exact⟨_,_,_,h1⟩
 ·exact⟨_,_,_,h1⟩
theorem alV(a:Addr)(w:World)(p:ay)(l:List UInt8)(v:Value)(hl:l.length<=60000)(hv:jp w.heap.size w v l)(hE:Env a w.heap.size w)(aQ:p.fv=.slice none 0 0)(hcv:p.ae=.slice none 0 0)(hk1:1<=p.kind)(hk2:p.kind<=14):Calls prog 87 #[.agg (aL p),v] w (ET a w (cC p l)):=by
 have cz:=ac hv;have cu:=ac hE;have arG:=hE.low;obtain⟨b,off,cap,rfl,hc1,hc2,hb,hcell⟩:=hv;clear hE hcell;have V4:∀W3,W3=((w.alloc (.cells #[.int .i64 p.kind,.bool p.aR,.bool p.will,.int .i64 p.ah,.string (bs p.aq),.bool p.aS,.int .i64 p.code,.bool p.dup,.int .i64 p.qos,.bool p.aF,.string (bs p.ak),.string (bs p.az),.int .i64 p.id,.slice none 0 0,.slice none 0 0] 36)).alloc (.cells (aL bA) 36)).alloc (.cells #[.slice (some ⟨b,off,none⟩) l.length cap,.nilIface] 217)->St a w.heap.size (w.heap.size+1+1) w.heap.size W3 W3 p (some l)/\Below w.heap.size w W3:=by rintro W3 rfl;have eO:Below w.heap.size w (((w.alloc (.cells #[.int .i64 p.kind,.bool p.aR,.bool p.will,.int .i64 p.ah,.string (bs p.aq),.bool p.aS,.int .i64 p.code,.bool p.dup,.int .i64 p.qos,.bool p.aF,.string (bs p.ak),.string (bs p.az),.int .i64 p.id,.slice none 0 0,.slice none 0 0] 36)).alloc (.cells (aL bA) 36)).alloc (.cells #[.slice (some ⟨b,off,none⟩) l.length cap,.nilIface] 217)):=(((aN _ _).alloc (aC _) _).alloc (by simp) _).alloc (by simp;omega) _;refine⟨⟨cu.aa.below eO,by omega,by omega,by omega,⟨by omega,.slice (some ⟨b,off,none⟩) l.length cap,by go_simp,by go_simp,by go_simp,by go_simp,?_⟩,?_,aN _ _,by omega,rfl⟩,eO⟩;(·obtain⟨b',off',cap',e1,h2,h3,h4,h5⟩:=cz.aa;exact⟨b',off',cap',e1,h2,h3,h4,λj x hx=>by rw[eO.cell h4];exact h5 j x hx⟩);·constructor;(·intro i;go_simp);all_goals first|go_simp|(rw[aQ];go_simp)|(rw[hcv];go_simp)
 have HST:=ac V4;clear V4;obtain⟨R,hR⟩:∃R,fc p (some l)=R:=⟨_,rfl⟩;have hB:cC p l=if aX R.2.2.2=0/\R.2.2.2≠none then some (R.1,R.2.1,R.2.2.1)else none:=by unfold cC;rw[hR]
 rw[hB];have aT:=ac hR;clear hB hR cz;obtain⟨q,fs,cs,st⟩:=R;unfold aL;rw[aQ,hcv];match st with|some []=>rw[ax ⟨rfl,by simp⟩];go_enter func87,ntmps87;go_wp2_with fail;refine(Cz a w.heap.size (w.heap.size+1+1) w.heap.size (w.heap.size+3) _ _ p (some l) hl (HST.aa _ ?_).1 aQ hcv (by omega) (by omega) (by simp) hk1 hk2).mono ?_;(·rfl);rintro e w4 ⟨rfl,hD⟩;rw[aT.aa]at hD;obtain⟨fv,ae,fJ,ez,iN⟩:=hD;have hb3:=(HST.aa _ rfl).2;have hres:=fJ.res;(have hz:w4.heap[w.heap.size+1]?=some (.cells (aL bA) 36):=by rw[show w.heap.size+1=w.heap.size+1+1-1 by omega,hres];exact DU _ _ _ _);have qo:=ac (hb3.trans fJ.eN);have eW:=ac fJ;have dz:=ac ez;have jV:=ac iN;have RQ:=ac hz;obtain⟨q0,TZ,hv0⟩:=vW fJ.rd;clear hz hres hb3 fJ ez iN;simp only[aX,lS]at hv0;go_wp2_with fail;refine(EJ a _ _ _ _ _ _ _ _ _ eW.aa).mono ?_;rintro e w5 ⟨rfl,ou,l9⟩;have L6:=ac (bM dz.aa (by omega) l9);have ue:=ac (bM jV.aa (by omega) l9);have E2:=ac (qo.aa.trans (yi l9 (by omega) eW.aa.env.size));have gV:St a w.heap.size (w.heap.size+1+1) w.heap.size _ w5 {q with fv:=fv,ae:=ae} (some []):=ou;(have vN:w5.heap[w.heap.size+1]?=some (.cells (aL bA) 36):=by rw[show w.heap.size+1=w.heap.size+1+1-1 by omega,gV.res];exact DU _ _ _ _);obtain⟨z0,kA,z2,z3,z4,z5,tQ,tR,qi,z9,tM,tN,z12,tO,tP⟩:=AL vN;obtain⟨y0,y1,y2,y3,y4,nS,y6,uY,qh,tL,uX,qd,qf,y13,qg⟩:=EN vN;have fo:=ac gV;obtain⟨_,v5,_,k1,_⟩:=gV.rd;have p0:=gV.aw.c0;have p1:=gV.aw.c1;have p2:=gV.aw.c2;have p3:=gV.aw.c3;have gH:=gV.aw.c4;have jQ:=gV.aw.c5;have xt:=gV.aw.c6;have uR:=gV.aw.c7;have j4:=gV.aw.c8;have se:=gV.aw.c9;have jg:=gV.aw.c10;have jh:=gV.aw.c11;have fM:=gV.aw.c12;have jI:=gV.aw.c13;have nL:=gV.aw.c14;simp only at p0 p1 p2 p3 gH jQ xt uR j4 se jg jh fM jI nL;obtain⟨pf,nf,lm,rfl⟩:=jH dz.aa;obtain⟨CA,nc,cc,rfl⟩:=jH jV.aa;clear ou gV vN hv0 l9;go_wp2_with fail;refine dJ (v:=.tuple #[.agg (aL {q with fv:=.slice pf nf lm,ae:=.slice CA nc cc}),.nilIface]) (by simp[results,results87,go_sem,aL,z0,kA,z2,z3,z4,z5,tQ,tR,qi,z9,tM,tN,z12,tO,tP]) rfl ?_;have Al:∀cQ,w5.grownBy cQ (some (w.heap.size+1))->ET a w (some (q,fs,cs)) (.returned (.tuple #[.agg (aL {q with fv:=.slice pf nf lm,ae:=.slice CA nc cc}),.nilIface])) cQ:=λcQ hg=>⟨E2.aa.trans (yi hg (by omega) fo.aa.env.size),_,_,rfl,Ht (bM L6.aa (by omega) hg) (by omega),Ht (bM ue.aa (by omega) hg) (by omega)⟩;refine Al _ ?_;(repeat refine mM ?_ (jt _ _ _ _));exact xa _ _|some (x::r)=>rw[au (by simp[aX])];go_enter func87,ntmps87;go_wp2_with fail;refine(Cz a w.heap.size (w.heap.size+1+1) w.heap.size (w.heap.size+3) _ _ p (some l) hl (HST.aa _ ?_).1 aQ hcv (by omega) (by omega) (by simp) hk1 hk2).mono ?_;(·rfl);rintro e w4 ⟨rfl,hD⟩;rw[aT.aa]at hD;obtain⟨fv,ae,fJ,ez,iN⟩:=hD;have hb3:=(HST.aa _ rfl).2;have hres:=fJ.res;(have hz:w4.heap[w.heap.size+1]?=some (.cells (aL bA) 36):=by rw[show w.heap.size+1=w.heap.size+1+1-1 by omega,hres];exact DU _ _ _ _);have qo:=ac (hb3.trans fJ.eN);have eW:=ac fJ;have dz:=ac ez;have jV:=ac iN;have RQ:=ac hz;obtain⟨q0,TZ,hv0⟩:=vW fJ.rd;clear hz hres hb3 fJ ez iN;simp only[aX,dL]at hv0;go_wp2_with fail;refine(EJ a _ _ _ _ _ _ _ _ _ eW.aa).mono ?_;rintro e w5 ⟨rfl,ou,l9⟩;have E2:=ac (qo.aa.trans (yi l9 (by omega) eW.aa.env.size));have gV:St a w.heap.size (w.heap.size+1+1) w.heap.size _ w5 {q with fv:=fv,ae:=ae} none:=ou;(have vN:w5.heap[w.heap.size+1]?=some (.cells (aL bA) 36):=by rw[show w.heap.size+1=w.heap.size+1+1-1 by omega,gV.res];exact DU _ _ _ _);obtain⟨z0,kA,z2,z3,z4,z5,tQ,tR,qi,z9,tM,tN,z12,tO,tP⟩:=AL vN;obtain⟨y0,y1,y2,y3,y4,nS,y6,uY,qh,tL,uX,qd,qf,y13,qg⟩:=EN vN;have fo:=ac gV;obtain⟨_,v5,k0,k1,_,_,m,hm⟩:=gV.rd;have fk:=ac hm;obtain⟨HQ,c5,rfl,_⟩:=hm;clear ou gV vN hv0 l9;go_wp2_with fail;go_region;go_wp2;refine dJ (v:=.tuple #[.agg (aL bA),.iface 171 (.agg #[.string HQ,c5])]) (by simp[results,results87,go_sem,aL,bA,bs,z0,kA,z2,z3,z4,z5,tQ,tR,qi,z9,tM,tN,z12,tO,tP]) rfl ?_;have Al:∀cQ,w5.grownBy cQ (some (w.heap.size+1))->ET a w none (.returned (.tuple #[.agg (aL bA),.iface 171 (.agg #[.string HQ,c5])])) cQ.drew:=λcQ hg=>⟨(E2.aa.trans (yi hg (by omega) fo.aa.env.size)).drew,_,m,rfl,fk.aa⟩;refine Al _ ?_;(repeat refine mM ?_ (jt _ _ _ _));exact xa _ _|none=>rw[au (by simp)];go_enter func87,ntmps87;go_wp2_with fail;refine(Cz a w.heap.size (w.heap.size+1+1) w.heap.size (w.heap.size+3) _ _ p (some l) hl (HST.aa _ ?_).1 aQ hcv (by omega) (by omega) (by simp) hk1 hk2).mono ?_;(·rfl);rintro e w4 ⟨rfl,hD⟩;rw[aT.aa]at hD;obtain⟨fv,ae,fJ,ez,iN⟩:=hD;have hb3:=(HST.aa _ rfl).2;have hres:=fJ.res;(have hz:w4.heap[w.heap.size+1]?=some (.cells (aL bA) 36):=by rw[show w.heap.size+1=w.heap.size+1+1-1 by omega,hres];exact DU _ _ _ _);have qo:=ac (hb3.trans fJ.eN);have eW:=ac fJ;have dz:=ac ez;have jV:=ac iN;have RQ:=ac hz;obtain⟨q0,TZ,hv0⟩:=vW fJ.rd;clear hz hres hb3 fJ ez iN;simp only[aX]at hv0;go_wp2_with fail;refine(EJ a _ _ _ _ _ _ _ _ _ eW.aa).mono ?_;rintro e w5 ⟨rfl,ou,l9⟩;have E2:=ac (qo.aa.trans (yi l9 (by omega) eW.aa.env.size));have gV:St a w.heap.size (w.heap.size+1+1) w.heap.size _ w5 {q with fv:=fv,ae:=ae} none:=ou;(have vN:w5.heap[w.heap.size+1]?=some (.cells (aL bA) 36):=by rw[show w.heap.size+1=w.heap.size+1+1-1 by omega,gV.res];exact DU _ _ _ _);obtain⟨z0,kA,z2,z3,z4,z5,tQ,tR,qi,z9,tM,tN,z12,tO,tP⟩:=AL vN;obtain⟨y0,y1,y2,y3,y4,nS,y6,uY,qh,tL,uX,qd,qf,y13,qg⟩:=EN vN;have fo:=ac gV;obtain⟨_,v5,k0,k1,_,_,m,hm⟩:=gV.rd;have fk:=ac hm;obtain⟨HQ,c5,rfl,_⟩:=hm;clear ou gV vN hv0 l9;go_wp2_with fail;go_region;go_wp2;refine dJ (v:=.tuple #[.agg (aL bA),.iface 171 (.agg #[.string HQ,c5])]) (by simp[results,results87,go_sem,aL,bA,bs,z0,kA,z2,z3,z4,z5,tQ,tR,qi,z9,tM,tN,z12,tO,tP]) rfl ?_;have Al:∀cQ,w5.grownBy cQ (some (w.heap.size+1))->ET a w none (.returned (.tuple #[.agg (aL bA),.iface 171 (.agg #[.string HQ,c5])])) cQ.drew:=λcQ hg=>⟨(E2.aa.trans (yi hg (by omega) fo.aa.env.size)).drew,_,m,rfl,fk.aa⟩;refine Al _ ?_;(repeat refine mM ?_ (jt _ _ _ _));exact xa _ _
end rd
namespace br
open Go.RowKit aD av
structure But (F:Nat→Prop) (w w':World):Prop where
 os:w'.os=w.os
 tape:w'.tape=w.tape
 output:w'.output=w.output
 size:w.heap.size≤w'.heap.size
 ah:∀ b,b < w.heap.size→¬ F b→w'.heap[b]?=w.heap[b]?
theorem But.refl(F:Nat->Prop)(w:World):But F w w:=⟨rfl,rfl,rfl,aC _,λ_ _ _=>rfl⟩
theorem But.trans{a b c:World}(h:But F a b)(k:But G b c)(Oe:∀x,x<a.heap.size->G x->F x):But F a c:=⟨k.os.trans h.os,k.tape.trans h.tape,k.output.trans h.output,bi h.size k.size,λx hx hn=>(k.ah x (cw hx h.size) (λg=>hn (Oe x hx g))).trans (h.ah x hx hn)⟩
theorem But.wide(h:But F w w')(Oe:∀x,x<w.heap.size->F x->G x):But G w w':=⟨h.os,h.tape,h.output,h.size,λb hb hn=>h.ah b hb (λf=>hn (Oe b hb f))⟩
theorem But.of_below(h:Below w.heap.size w w'):But F w w':=⟨h.os,h.tape,h.output,h.size,λb hb _=>h.block b hb⟩
theorem But.set(w:World)(a:Addr)(v:Value)(h:F a.block):But F w (w.setCell a v):=⟨rfl,rfl,rfl,by simp[World.setCell],λb _ hn=>ck _ _ _ _ (λe=>hn (e▸h))⟩
theorem But.kV{row:Option Nat}(h:w.grownBy w' row)(hr:∀b,row=some b->F b):But F w w':=⟨h.os,h.tape,h.output,h.size,λb hb hn=>h.block b hb (λe=>hn (hr b e.symm))⟩
theorem But.below(h:But F w w')(hN:∀b,F b->N<=b)(hs:N<=w.heap.size):Below N w w':=⟨h.os,h.tape,h.output,h.size,λb hb=>h.ah b (by omega) (λf=>by have:=hN b f;omega)⟩
theorem But.cell{a:Addr}(h:But F w w')(hn:¬F a.block)(hc:w.cell? a=some v):w'.cell? a=some v:=by
 have hlt:a.block<w.heap.size:=by unfold World.cell? at hc;split at hc;(·rename_i c t z hb;exact(jT.1 hb).1);·cases hc
 rw[eo (h.ah a.block hlt hn)];exact hc
theorem But.blk(h:But F w w')(hn:¬F b)(hc:w.heap[b]?=some o):w'.heap[b]?=some o:=by rw[h.ah b (jT.1 hc).1 hn];exact hc
theorem eH{p:Addr}(h:w.cell? p=some v):p.block<w.heap.size:=by
 unfold World.cell? at h;split at h;·rename_i c t z hb;exact(jT.1 hb).1
 ·cases h
theorem BH(w:World)(c:Array Value)(t:TypeId)(h:c[i]?=some v):(w.alloc (.cells c t)).cell? ⟨w.heap.size,i,none⟩=some v:=by have:=cj w (.cells c t);simp only[World.cell?,this];simpa using h
theorem aG(h:w.heap[b]?=some o):b<w.heap.size:=(jT.1 h).1
theorem ar{c:Array Value}(h:w.heap[b]?=some (.cells c t z))(hi:c[i]?=some v):w.cell? ⟨b,i,none⟩=some v:=by simp[World.cell?,h,hi]
theorem cM{c:Array Value}(h:w.heap[b]?=some (.cells c t (0,0))):w.frozen? ⟨b,i,none⟩=false:=by simp[World.frozen?,h]
theorem b6{c:Array Value}(v:Value)(h:w.heap[b]?=some (.cells c t z)):(w.setCell ⟨b,i,none⟩ v).heap[b]?=some (.cells (c.setIfInBounds i v) t z):=by
 have hlt:=aG h;simp only[World.setCell];have e:w.heap[b]=Obj.cells c t z:=by rw[yZ hlt]at h;exact iA h
 simp[hlt,Array.getElem_modify,e]
theorem aU(h:w.ownsRow C e sz v n xs)(hb:v.ownBlock=some b):∃cur,w.heap[b]?=some (.cells cur e (0,0)):=by
 rcases h.2 with⟨rfl,_⟩|⟨g,cap,cur,rfl,_,hg,_⟩;·cases hb
 ·cases hb;exact⟨cur,hg⟩
theorem bM(h:w.ownsRow C e sz v n xs)(hk:∀b,v.ownBlock=some b->w'.heap[b]?=w.heap[b]?):w'.ownsRow C e sz v n xs:=by
 refine⟨h.1,?_⟩;rcases h.2 with h1|⟨g,cap,cur,rfl,h2,hg,h3⟩;·exact ai h1
 ·exact ag ⟨g,cap,cur,rfl,h2,(hk g rfl).trans hg,h3⟩
theorem KR(h:w.ownsRow C e sz v n xs)(hk:But F w w')(hn:∀b,v.ownBlock=some b->¬F b):w'.ownsRow C e sz v n xs:=bM h (λb hb=>by obtain⟨cur,hc⟩:=aU h hb;exact hk.ah b (aG hc) (hn b hb))
theorem gG(h:w.ownsRow C e sz v n xs):w.ownsRow 0 e sz v n xs/\∀b,v.ownBlock=some b->C<=b:=by
 refine⟨⟨h.1,?_⟩,?_⟩;·rcases h.2 with h1|⟨g,cap,cur,e1,_,h3⟩;(·exact ai h1);·exact ag ⟨g,cap,cur,e1,cm _,h3⟩
 ·intro b hb;rcases h.2 with⟨rfl,_⟩|⟨g,cap,cur,rfl,h2,_⟩;(·cases hb);·cases hb;exact h2
theorem bI(h:w.ownsRow C e sz v n xs):∃q cap,v=.slice q n cap:=by
 rcases h.2 with⟨rfl,rfl⟩|⟨g,cap,cur,rfl,_⟩;·exact⟨none,0,rfl⟩
 ·exact⟨some ⟨g,0,none⟩,cap,rfl⟩
theorem fE{q:Option Addr}(h:w.ownsRow C e sz (.slice q n cap) n xs)(hn:0<n):∃g,q=some ⟨g,0,none⟩/\g<w.heap.size/\n<=cap/\cap<=maxLen/\∀j u,xs[j]?=some u->w.cell? ⟨g,j,none⟩=some u:=by
 rcases h.2 with⟨_,h0⟩|⟨g,cap',cur,hv,_,hg,h1,h2,h3,h4⟩;·omega
 ·cases hv;refine⟨g,rfl,aG hg,h1,h2,λj u hj=>?_⟩;refine ar hg ?_;rw[<-h4]at hj;(have hlt:j<n*sz:=by have:=(dw.1 hj).1;rw[dY]at this;omega);rw[x6 hlt]at hj;simpa using hj
theorem CJ{P:Program}{o:Oper}{a:Act}{K:Act->World->Prop}{Q:Exit->Act->World->Prop}{E:Prop}(hg:o.guard=none)(s x:Operand)(t:TypeId)(hop:o.op=Op.call {callee:=Callee.builtin Builtin.append,args:=#[s,x],argTypes:=#[t,t]})(base:Nat)(e:TypeId)(i:TypeInfo)(z:Value)(size bytes:Nat)(h1:P.underlying t=some (.slice e))(h2:P.info? e=some i)(h3:i.zero=some z)(h4:i.size=size)(h5:i.bytes=bytes)(h6:z.cells.size=size)(h7:0<size)(v:Value)(n:Nat)(xs:List Value)(hs:a.eval s=v)(hown:w.ownsRow base e size v n xs)(ad:Addr)(m c:Nat)(news:List Value)(hx:a.eval x=.slice (some ad) m c)(hn:news.length=m*size)(hc:∀j u,news[j]?=some u->w.cell? (ad.add j)=some u)(h1c:∀u∈news,u.oneCell'=true)(b1:n+m<=maxLen)(b2:(n+m)*bytes<=140737488355328)(hb:base<=w.heap.size)(hK:∀v' w',w'.ownsRow base e size v' (n+m) (xs++news)->w.grownBy w' v.ownBlock->(v'.ownBlock=v.ownBlock\/v'.ownBlock=some w.heap.size)->K (a.put o.dst v') w'):if Region.wanted o (yielded ops a.tmps)=true then Oper.wp P o a w K Q else E:=by
 have hw:Region.wanted o (yielded ops a.tmps)=true:=by simp[Region.wanted,hg]
 rw[ax hw];obtain⟨v',w',hrun,r1,r2,_,r4⟩:=run_append_own_at (P:=P) w base t o.type e i z size bytes h1 h2 h3 h4 h5 h6 h7 v n xs hown ad m c news hn hc h1c b1 b2 hb;unfold Oper.wp;simp[execOp,hop,resolve,invoke,builtin,hs,hx,hrun,Result.andThen];exact hK v' w' r1 r2 r4
theorem lC(w:World)(c:Array Value)(t:TypeId):∀j u,c.toList[j]?=some u->(w.alloc (.cells c t)).cell? ((⟨w.heap.size,0,none⟩:Addr).add j)=some u:=by
 intro j u hj;have:((⟨w.heap.size,0,none⟩:Addr).add j)=⟨w.heap.size,j,none⟩:=by unfold Addr.add;split;(·rename_i h;subst h;rfl);·simp
 rw[this];exact BH w c t (by simpa using hj)
theorem gA{a:Addr}(h:w.cell? a=some v)(o:Obj):(w.alloc o).cell? a=some v:=by rw[eo (w:=w) (cU _ _ _ (eH h))];exact h
structure bh where
 ak:List UInt8
 az:List UInt8
 qos:Int
 aF:Bool
 deriving DecidableEq
def bz(m:bh):List Value:=[.string (bs m.ak),.string (bs m.az),.int .i64 m.qos,.bool m.aF]
structure lV where
 id:Int
 qos:Int
 rel:Bool
 msg:bh
 deriving DecidableEq
def wk(u:lV):List Value:=[.int .i64 u.id,.int .i64 u.qos,.bool u.rel,.string (bs u.msg.ak),.string (bs u.msg.az),.int .i64 u.msg.qos,.bool u.msg.aF]
theorem apt{l:List lV}{u:lV}(h:l[k]?=some u)(j:Nat)(hj:j<7):(l.flatMap wk)[k*7+j]?=(wk u)[j]?:=by induction l generalizing k with|nil=>simp at h|cons a t ih=>cases k with|zero=>simp only[Bk,lT]at h;subst h;rw[nb,vr (by simp[wk];omega)];simp|succ k=>simp only[Bj]at h;rw[nb,rD (by simp[wk];omega)];(have:(k+1)*7+j-(wk a).length=k*7+j:=by simp[wk];omega);rw[this];exact ih h
def idx{α:Type}(p:α->Bool)(l:List α):Int:=match l.findIdx? p with|some i=>(i:Int)|none=>-1
theorem X5{p:α->Bool}{l:List α}(h:∀(j:Nat) x,l[j]?=some x->p x=false):idx p l=-1:=by unfold idx;rw[ach.2 (λx hx=>by obtain⟨j,hj,e⟩:=List.getElem_of_mem hx;exact h j x (by rw[cS hj,e]))]
theorem X6{p:α->Bool}{l:List α}{x:α}(hx:l[k]?=some x)(hp:p x=true)(h:∀(j:Nat) y,j<k->l[j]?=some y->p y=false):idx p l=(k:Int):=by
 unfold idx;have hk:=(dw.1 hx);have:l.findIdx? p=some k:=by rw[SI];refine⟨hk.1,by rw[hk.2];exact hp,λj hj=>?_⟩;have hjl:j<l.length:=Nat.lt_trans hj hk.1;have:=h j (l[j]'hjl) hj (cS _);simp[this]
 rw[this]
end br
namespace br
open Go Go.Conc
def oH(P:Program)(c:Code)(Q:Exit->Act->World->Prop)(a:Act)(w:World):Prop:=∀(b:Frame)(k:List Item)(cs:List Frame),b.kind=.normal->∃e a' w',Q e a' w'/\Arrives P (lone (b.at a (.code c::k)) cs w) b k cs e a' w'
section
variable {P:Program} {Q:Exit→Act→World→Prop} {a:Act} {w:World}
theorem aay(h:c.wp P Q a w):oH P c Q a w:=λb k cs _=>h b k cs
theorem aaz{x:Code}(h:oH P x (Exit.then (oH P y Q) Q) a w):oH P (Code.seq x y) Q a w:=by intro b k cs hb;obtain⟨e,a₁,w₁,hq,harr⟩:=h b (.code y::k) cs hb;cases e with|normal=>obtain⟨e₂,a₂,w₂,hq₂,harr₂⟩:=hq b k cs hb;exact⟨e₂,a₂,w₂,hq₂,.of_steps (.head step_seq harr) harr₂⟩|exit id=>exact⟨_,a₁,w₁,hq,.of_steps (.one step_seq) (.pass (x:=.code y) rfl (λ_ _=>.inl (by simp)) harr)⟩|goto l=>exact⟨_,a₁,w₁,hq,.of_steps (.one step_seq) (.pass (x:=.code y) rfl (λ_ _=>.inl (by simp)) harr)⟩|ret=>exact⟨_,a₁,w₁,hq,.of_steps (.one step_seq) (.pass (x:=.code y) rfl (λ_ _=>.inl (by simp)) harr)⟩|panic ch=>exact⟨_,a₁,w₁,hq,.of_steps (.one step_seq) (.pass (x:=.code y) rfl (λ_ _=>.inl (by simp)) harr)⟩|outgrown=>exact⟨_,a₁,w₁,hq,.of_steps (.one step_seq) (.pass (x:=.code y) rfl (λ_ _=>.inl (by simp)) harr)⟩
theorem apL{x:Code}(h:∀K:Act->World->Prop,(∀a w,oH P y Q a w->K a w)->oH P x (Exit.then K Q) a w):oH P (Code.seq x y) Q a w:=aaz (h _ λ_ _ h=>h)
theorem aaA{x:Code}(h:∀K:Act->World->Prop,(∀a w,oH P y Q a w->K a w)->x.wp P (Exit.then K Q) a w):oH P (Code.seq x y) Q a w:=aaz (aay (h _ λ_ _ h=>h))
theorem aax{id:Nat}(h:oH P c (Exit.inBlock id Q) a w):oH P (Code.block id c) Q a w:=by intro b k cs hb;obtain⟨e,a₁,w₁,hq,harr⟩:=h b (.inBlock id::k) cs hb;cases e with|normal=>exact⟨.normal,a₁,w₁,hq,.head step_block (Steps.trans harr (.one step_inBlock))⟩|exit PQ=>by_cases hid:PQ=id;(·simp only[Exit.inBlock,hid,gh]at hq;exact⟨.normal,a₁,w₁,hq,.head step_block (harr k (by simp[exitTo,hid]))⟩);·simp only[Exit.inBlock,hid,iO]at hq;refine⟨.exit PQ,a₁,w₁,hq,λk' hk=>.head step_block (harr k' ?_)⟩;(have:(id==PQ)=false:=by simp;exact λh=>hid h.symm);simp[exitTo,this,hk]|goto l=>exact⟨_,a₁,w₁,hq,λk' hk=>.head step_block (harr k' (by simp[gotoIn,hk]))⟩|ret=>exact⟨_,a₁,w₁,hq,.of_steps (.one step_block) harr⟩|panic ch=>exact⟨_,a₁,w₁,hq,.of_steps (.one step_block) harr⟩|outgrown=>exact⟨_,a₁,w₁,hq,.of_steps (b:=b) (k:=k) (cs:=cs) (e:=.outgrown) (.one step_block) harr⟩
theorem apI(I:Nat->Act->World->Prop)(n:Nat)(h₀:I n a w)(round:∀n a w,I n a w->oH P c (Exit.then (λa' w'=>∃m,m<n/\I m a' w') Q) a w):oH P (Code.loop c) Q a w:=by
 intro b k cs hb;have key:∀n a w,I n a w->∃e a' w',Q e a' w'/\Arrives P (lone (b.at a (.code c::.inLoop c::k)) cs w) b k cs e a' w':=by intro n;induction n using Nat.strongRecOn with|_ n ih=>intro a w hI;obtain⟨e,a₁,w₁,hq,harr⟩:=round n a w hI b (.inLoop c::k) cs hb;cases e with|normal=>obtain⟨m,hlt,agQ⟩:=hq;obtain⟨e₂,a₂,w₂,hq₂,harr₂⟩:=ih m hlt a₁ w₁ agQ;exact⟨e₂,a₂,w₂,hq₂,.of_steps (Steps.trans harr (.one step_inLoop)) harr₂⟩|exit id=>exact⟨_,a₁,w₁,hq,.pass (x:=.inLoop c) rfl (λ_ _=>.inl (by simp)) harr⟩|goto l=>exact⟨_,a₁,w₁,hq,.pass (x:=.inLoop c) rfl (λ_ _=>.inl (by simp)) harr⟩|ret=>exact⟨_,a₁,w₁,hq,.pass (x:=.inLoop c) rfl (λ_ _=>.inl (by simp)) harr⟩|panic ch=>exact⟨_,a₁,w₁,hq,.pass (x:=.inLoop c) rfl (λ_ _=>.inl (by simp)) harr⟩|outgrown=>exact⟨_,a₁,w₁,hq,.pass (x:=.inLoop c) rfl (λ_ _=>.inl (by simp)) harr⟩
 obtain⟨e,a',w',hq,harr⟩:=key n a w h₀;exact⟨e,a',w',hq,.of_steps (.one step_loop) harr⟩
theorem adP{f:FuncId}{fn:Func}{args:Array Value}{R:Ending->World->Prop}(hf:P.funcs[f]?=some fn)(hb:fn.body=some c)(h:oH P c (bodyPost P fn R) {tmps:=args++Array.replicate (fn.ntmps-args.size) undef,defers:=[]} w):Calls P f args w R:=by
 intro cs;let b:Frame:={(default:Frame)with fn:=f,kind:=.normal};have henter:Frame.enter P f args .normal=b.at {tmps:=args++Array.replicate (fn.ntmps-args.size) undef,defers:=[]} [.code c]:=by simp[Frame.enter,Frame.at,hf,hb,b]
 obtain⟨e,a',w',hq,harr⟩:=h b [] cs rfl;rw[<-henter]at harr;cases e with|normal=>obtain⟨hd,v,hr,hR⟩:=hq;exact⟨.returned v,w',_,hR,Steps.trans harr (.one step_end),rfl,rfl,hd,rfl,fn,hf,hr⟩|ret=>obtain⟨hd,v,hr,hR⟩:=hq;obtain⟨todo,hs⟩:=harr;exact⟨.returned v,w',_,hR,hs,rfl,rfl,hd,rfl,fn,hf,hr⟩|panic chain=>obtain⟨hd,hR⟩:=hq;obtain⟨todo,hs⟩:=harr;exact⟨.panicked chain,w',_,hR,hs,rfl,rfl,hd,fn,hf⟩|exit id=>exact hq.elim|goto l=>exact hq.elim|outgrown=>exact⟨.outgrown,w',b,hq,harr.resolve_left (by simp[b]),rfl,trivial⟩
theorem apK{id c:Nat}{o:Oper}{rest:List Nat}{buf:Array Value}{z:Value}(hr:List.range ops.size=0::rest)(h0:ops[0]?=some o)(hg:o.guard=none)(hx:(execOp a.eval o).run P w=.ok (.comm #[rcase c z] false .select) w)(hc:w.heap[c]?=some (.chan cap buf false s r false))(h1:0<buf.size->wpOps P ops Q rest (a.put o.dst (.tuple #[goInt 0,.bool true,buf.getD 0 undef])) (w.setChan c cap (buf.extract 1 buf.size) false s (r+1) false))(h2:buf=#[]->wpOps P ops Q rest (a.put o.dst (.tuple #[goInt (-1),.bool false,z])) w):oH P (Code.region id ops false) Q a w:=by
 intro b k cs hb;have hwant:Region.wanted o (yielded ops a.tmps)=true:=by simp[Region.wanted,hg]
 have hk:b.kind≠.early:=by rw[hb];decide
 have hs:=stepG_comm (main:=true) (b:=b) (k:=k) (cs:=cs) (rest:=rest) h0 hwant hk hx;have hst:step P (lone (b.at a (.code (.region id ops false)::k)) cs w)=.next (lone (b.at a (.inRegion ops (0::rest)::k)) cs w):=by rw[<-hr];exact step_region
 have hf:∀u,(b.at a (.inRegion ops (0::rest)::k)).finish u=b.at (a.put o.dst u) (.inRegion ops rest::k):=λu=>by rw[Frame.finish_at,h0];rfl
 by_cases hsome:0<buf.size;·obtain⟨e,a',w',q,r⟩:=wp_ops rest _ _ (h1 hsome) b k cs;have h3:=step_lone_select_recv_buf hs hc hsome;rw[hf,<-lone_eq_solo,<-lone_eq_solo]at h3;exact⟨e,a',w',q,.of_steps (.head hst (.one h3)) r⟩
 ·have he:buf=#[]:=Array.size_eq_zero_iff.1 (by omega);obtain⟨e,a',w',q,r⟩:=wp_ops rest _ _ (h2 he) b k cs;subst he;have h3:=step_lone_select_default hs hc;rw[hf,<-lone_eq_solo,<-lone_eq_solo]at h3;exact⟨e,a',w',q,.of_steps (.head hst (.one h3)) r⟩
theorem Y5(o:Oper)(l:List Oper):wpOps P (o::l).toArray Q (List.range' 1 l.length)=wpList P (o::l).toArray Q l:=wpOps_eq_wpList l 1 (λj=>by simp[Nat.add_comm])
theorem alT(o:Oper)(l:List Oper):List.range ((o::l).toArray).size=0::List.range' 1 l.length:=by simp[List.range_succ_eq_map,List.range'_eq_map_range,Nat.add_comm]
theorem apJ{id c:Nat}{o:Oper}{l:List Oper}{buf:Array Value}{z:Value}(hg:o.guard=none)(hx:(execOp a.eval o).run P w=.ok (.comm #[rcase c z] false .select) w)(hc:w.heap[c]?=some (.chan cap buf false s r false))(h1:0<buf.size->wpList P (o::l).toArray Q l (a.put o.dst (.tuple #[goInt 0,.bool true,buf.getD 0 undef])) (w.setChan c cap (buf.extract 1 buf.size) false s (r+1) false))(h2:buf=#[]->wpList P (o::l).toArray Q l (a.put o.dst (.tuple #[goInt (-1),.bool false,z])) w):oH P (Code.region id (o::l).toArray false) Q a w:=apK (alT o l) rfl hg hx hc (λh=>by rw[Y5];exact h1 h) (λh=>by rw[Y5];exact h2 h)
end
end br
namespace br
open Go.RowKit aD av aM
theorem BI{v0 v1 v2 v3 v4 v5 v6 v7 v8 v9 v10 v11 v12 v13 v14:Value}(h:w.heap[b]?=some (.cells #[v0,v1,v2,v3,v4,v5,v6,v7,v8,v9,v10,v11,v12,v13,v14] t)):w.cell? ⟨b,0,none⟩=some v0/\w.cell? ⟨b,1,none⟩=some v1/\w.cell? ⟨b,2,none⟩=some v2/\w.cell? ⟨b,3,none⟩=some v3/\w.cell? ⟨b,4,none⟩=some v4/\w.cell? ⟨b,5,none⟩=some v5/\w.cell? ⟨b,6,none⟩=some v6/\w.cell? ⟨b,7,none⟩=some v7/\w.cell? ⟨b,8,none⟩=some v8/\w.cell? ⟨b,9,none⟩=some v9/\w.cell? ⟨b,10,none⟩=some v10/\w.cell? ⟨b,11,none⟩=some v11/\w.cell? ⟨b,12,none⟩=some v12/\w.cell? ⟨b,13,none⟩=some v13/\w.cell? ⟨b,14,none⟩=some v14:=⟨ar h rfl,ar h rfl,ar h rfl,ar h rfl,ar h rfl,ar h rfl,ar h rfl,ar h rfl,ar h rfl,ar h rfl,ar h rfl,ar h rfl,ar h rfl,ar h rfl,ar h rfl⟩
end br
namespace rw
open Go.RowKit aD av aM rd
theorem ic{x:Nat}(h:w.heap[x]?=some o):x<w.heap.size:=(jT.1 h).1
theorem Es(h:w.alloc A=W):W.heap[w.heap.size]?=some A/\Below w.heap.size w W/\W.heap.size=w.heap.size+1:=by subst h;exact⟨cj _ _,(aN _ _).alloc (aC _) _,by simp⟩
theorem EF{B:Obj}(h:(w.alloc A).alloc B=W):W.heap[w.heap.size]?=some A/\W.heap[w.heap.size+1]?=some B/\Below w.heap.size w W/\W.heap.size=w.heap.size+2:=by subst h;exact⟨heap_alloc2_old _ _ _,heap_alloc2_new _ _ _,((aN _ _).alloc (aC _) _).alloc (by simp) _,by simp⟩
theorem ZF(w:World)(g:Nat)(cs:Array Value):(w.setRow g cs).heap.size=w.heap.size:=by simp[World.setRow]
theorem ur{B:Nat}{a:World}(h:Below B a w){g:Nat}(hg:B<=g)(cs:Array Value):Below B a (w.setRow g cs):=⟨h.os,h.tape,h.output,by rw[ZF];exact h.size,λk hk=>(setRow_other w g k cs (by omega)).trans (h.block k hk)⟩
theorem Vf(w:World)(g:Nat)(cs:Array Value):w.grownBy (w.setRow g cs) (some g):=⟨rfl,rfl,rfl,Nat.le_of_eq (ZF w g cs).symm,λk _ hne=>setRow_other w g k cs (λe=>hne (by rw[e]))⟩
theorem yK:(prog.info? 36).map (·.size)=some 15:=by kernel_rfl
theorem ak3{p:ay}(h1:∃a b c,p.fv=.slice a b c)(h2:∃a b c,p.ae=.slice a b c):(aL p).all (·.oneCell')=true:=by obtain⟨a,b,c,h1⟩:=h1;obtain⟨d,e,f,h2⟩:=h2;simp[aL,h1,h2,Value.oneCell']
section
variable {ops:Array Oper} {rest:List Oper} {o:Oper} {a:Act} {w:World} {Q:Exit→Act→World→Prop} {b:Nat} {p q:ay}
theorem vP{x:Operand}(hgd:o.guard=none)(ho:o.op=.load 36 x)(hx:a.eval x=.pointer (some ⟨b,0,none⟩))(hb:w.heap[b]?=some (.cells (aL p) 36))(h:wpList prog ops Q rest (a.put o.dst (.agg (aL p))) w):wpList prog ops Q (o::rest) a w:=AK hgd 36 x ho b hx 36 _ (0,0) _ hb underlying36 rfl yK h
theorem st{x y:Operand}(hgd:o.guard=none)(ho:o.op=.store 36 x y)(hx:a.eval x=.pointer (some ⟨b,0,none⟩))(hy:a.eval y=.agg (aL q))(hb:w.heap[b]?=some (.cells (aL p) 36))(h1:∃a b c,q.fv=.slice a b c)(h2:∃a b c,q.ae=.slice a b c)(h:wpList prog ops Q rest (a.put o.dst undef) (w.setRow b (aL q))):wpList prog ops Q (o::rest) a w:=yX hgd 36 x y ho b _ hx hy 36 _ hb yK rfl (ak3 h1 h2) h
end
theorem M9{X:World}{z:ay}(hz:X.heap[N]?=some (.cells (aL z) 36))(v0 v1 v2 v3 v4 v5 v6 v7 v8 v9 v10 v11 v12 v13 v14:Value):∃Y,Y=(((((((((((((((X.setCell ⟨N,0,none⟩ v0).setCell ⟨N,1,none⟩ v1).setCell ⟨N,2,none⟩ v2).setCell ⟨N,3,none⟩ v3).setCell ⟨N,4,none⟩ v4).setCell ⟨N,5,none⟩ v5).setCell ⟨N,6,none⟩ v6).setCell ⟨N,7,none⟩ v7).setCell ⟨N,8,none⟩ v8).setCell ⟨N,9,none⟩ v9).setCell ⟨N,10,none⟩ v10).setCell ⟨N,11,none⟩ v11).setCell ⟨N,12,none⟩ v12).setCell ⟨N,13,none⟩ v13).setCell ⟨N,14,none⟩ v14)/\Y.heap[N]?=some (.cells #[v0,v1,v2,v3,v4,v5,v6,v7,v8,v9,v10,v11,v12,v13,v14] 36)/\(∀b,b≠N->Y.heap[b]?=X.heap[b]?)/\∀n w,n<=N->Below n w X->Below n w Y:=by
 have e:((((((((((((((((aL z).setIfInBounds 0 v0).setIfInBounds 1 v1).setIfInBounds 2 v2).setIfInBounds 3 v3).setIfInBounds 4 v4).setIfInBounds 5 v5).setIfInBounds 6 v6).setIfInBounds 7 v7).setIfInBounds 8 v8).setIfInBounds 9 v9).setIfInBounds 10 v10).setIfInBounds 11 v11).setIfInBounds 12 v12).setIfInBounds 13 v13).setIfInBounds 14 v14)=#[v0,v1,v2,v3,v4,v5,v6,v7,v8,v9,v10,v11,v12,v13,v14]:=by kernel_rfl
 have hb:=br.b6 (i:=14) v14 (br.b6 (i:=13) v13 (br.b6 (i:=12) v12 (br.b6 (i:=11) v11 (br.b6 (i:=10) v10 (br.b6 (i:=9) v9 (br.b6 (i:=8) v8 (br.b6 (i:=7) v7 (br.b6 (i:=6) v6 (br.b6 (i:=5) v5 (br.b6 (i:=4) v4 (br.b6 (i:=3) v3 (br.b6 (i:=2) v2 (br.b6 (i:=1) v1 (br.b6 (i:=0) v0 hz))))))))))))));rw[e]at hb;refine⟨_,rfl,hb,λb hb=>?_,λn w hn h=>?_⟩;·(repeat refine(ck _ _ _ _ hb).trans ?_);rfl
 ·(repeat refine Below.setCell ?_ hn _);exact h
theorem Et(h:w.ownsRow C e sz v n xs)(hD:D<=C)(he:e≠36)(hN:∀c t,w.heap[N]?=some (.cells c t (0,0))->t=36)(hk:∀b,b≠N->b<w.heap.size->w'.heap[b]?=w.heap[b]?):w'.ownsRow D e sz v n xs:=Ht (br.bM h λb hb=>by obtain⟨c,hc⟩:=br.aU h hb;exact hk b (λe'=>he (hN _ _ (e'▸hc))) (ic hc)) hD
end rw
namespace bJ
open Go.RowKit aD av aM rd
def wC(w:World)(v:Value)(fs:List (List UInt8×Int)):Prop:=∃q cap,v=.slice q fs.length cap/\fs.length<=maxLen/\∀(j:Nat) f,fs[j]?=some f->∃g,q=some ⟨g,0,none⟩/\g<w.heap.size/\w.cell? ⟨g,j*2,none⟩=some (.string (bs f.1))/\w.cell? ⟨g,j*2+1,none⟩=some (.int .i64 f.2)
def rC(w:World)(v:Value)(cs:List Int):Prop:=∃q cap,v=.slice q cs.length cap/\cs.length<=maxLen/\∀(j:Nat) c,cs[j]?=some c->∃g,q=some ⟨g,0,none⟩/\g<w.heap.size/\w.cell? ⟨g,j,none⟩=some (.int .i64 c)
end bJ
namespace ew
open Go.RowKit aD av aM
open bJ (wC rC)
def ze(w:World)(v:Value)(fs:List (List UInt8×Int)):Prop:=∃q cap,v=.slice q fs.length cap/\fs.length<=maxLen/\∀(j:Nat) f,fs[j]?=some f->∃g o,q=some ⟨g,o,none⟩/\g<w.heap.size/\w.cell? ⟨g,o+j*2,none⟩=some (.string (bs f.1))/\w.cell? ⟨g,o+j*2+1,none⟩=some (.int .i64 f.2)
def zw(w:World)(v:Value)(cs:List Int):Prop:=∃q cap,v=.slice q cs.length cap/\cs.length<=maxLen/\∀(j:Nat) c,cs[j]?=some c->∃g o,q=some ⟨g,o,none⟩/\g<w.heap.size/\w.cell? ⟨g,o+j,none⟩=some (.int .i64 c)
theorem UJ{fs:List (List UInt8×Int)}(h:wC w v fs):ze w v fs:=by obtain⟨q,cap,h1,h2,h3⟩:=h;exact⟨q,cap,h1,h2,λj f hf=>by obtain⟨g,a,b,c,d⟩:=h3 j f hf;exact⟨g,0,a,b,by rw[iW];exact c,by rw[iW];exact d⟩⟩
theorem Yg{cs:List Int}(h:rC w v cs):zw w v cs:=by obtain⟨q,cap,h1,h2,h3⟩:=h;exact⟨q,cap,h1,h2,λj f hf=>by obtain⟨g,a,b,c⟩:=h3 j f hf;exact⟨g,0,a,b,by rw[iW];exact c⟩⟩
theorem drewN_drewN(w:World)(a b:Nat):(w.drewN a).drewN b=w.drewN (a+b):=by simp[World.drewN,Nat.add_assoc]
theorem asU{a b:List α}{x:α}(h:a.take k=b.take k)(ha:a[k]?=some x)(hb:b[k]?=some x):a.take (k+1)=b.take (k+1):=by rw[jL,jL,h,ha,hb]
theorem asT{a b:List α}(h:a.take k=b.take k)(ha:a.length<=k)(hb:b.length<=k):a=b:=by rwa[iV ha,iV hb]at h
theorem SU{a b:List α}{x y:α}(ha:a[k]?=some x)(hb:b[k]?=some y)(h:x≠y):a≠b:=λe=>by rw[e,hb]at ha;exact h (iA ha).symm
theorem as1(cs ds:List Int)(v1 v2:Value)(w:World)(h1:zw w v1 cs)(h2:zw w v2 ds):Calls prog 121 #[v1,v2] w λe w'=>e=.returned (.bool (decide (cs=ds)))/\∃m,w'=w.drewN m:=by
 obtain⟨q1,k1,rfl,l1,h1⟩:=h1;obtain⟨q2,k2,rfl,l2,h2⟩:=h2;have H1:=ac h1;have cg:=ac h2;unfold maxLen at l1 l2;clear h1 h2;by_cases hl:cs.length=ds.length;·(have hlb:((cs.length:Int)==(ds.length:Int))=true:=by rw[hl];simp);(have yG:((cs.length:Int)!=(ds.length:Int))=false:=by rw[hl];simp);have fH:=ac hl;obtain⟨A,hA⟩:∃A,A=decide (cs=ds):=⟨_,rfl⟩;rw[<-hA];have bO:=ac hA;clear hl hA;go_enter func121,ntmps121;go_wp2_with fail;go_loopw[13] (λi wx=>∃(k n:Nat),k<=cs.length/\i=.int .i64 k/\wx=w.drewN n/\cs.take k=ds.take k) (λi _=>cs.length-(intOf i).toNat);(case atStart=>exact⟨0,0,cm _,rfl,rfl,rfl⟩);case round=>obtain⟨k,n,hk,rfl,rfl,ht⟩:=hrel;have mB:=ac ht;clear ht;by_cases hlt:k<cs.length;(·(have J4:k<ds.length:=by rw[<-fH.aa];exact hlt);obtain⟨c,hc⟩:∃c,cs[k]?=some c:=⟨_,cS hlt⟩;obtain⟨d,hd⟩:∃d,ds[k]?=some d:=⟨_,cS J4⟩;obtain⟨g1,o1,rfl,hg1,m1⟩:=H1.aa k c hc;obtain⟨g2,o2,rfl,hg2,m2⟩:=cg.aa k d hd;have HC:=ac hc;have HD:=ac hd;clear hc hd;by_cases GM:c=d;(·subst GM;go_wp2;go_quiet(fail);go_wp2;go_roundw;(case rel=>exact⟨k+1,_,by omega,by go_num,rfl,asU mB.aa HC.aa HD.aa⟩);case measure=>simp[intOf];omega);·have hb:(c==d)=false:=cn.2 GM;(have hb2:(c !=d)=true:=by simp[GM]);have RD:=ac GM;clear GM;go_wp2;go_quiet(fail);go_wp2;go_ret;exact⟨gw (by rw[bO.aa,dO (SU HC.aa HD.aa RD.aa)]),_,drewN_drewN _ _ _⟩);·go_wp2;go_ret;exact⟨gw (by rw[bO.aa,cZ (asT mB.aa (by omega) (by rw[<-fH.aa];omega))]),_,rfl⟩
 ·have hlb:((cs.length:Int)==(ds.length:Int))=false:=cn.2 (by omega);have hne:decide (cs=ds)=false:=dO λe=>hl (by rw[e]);rw[hne];clear hl hne;go_enter func121,ntmps121;go_wp2;go_ret;exact⟨rfl,0,rfl⟩
theorem asV{a b:List UInt8}(h:a≠b):((bs a).toList==(bs b).toList)=false:=by rw[wz,wz,dS,dS];exact cn.2 h
theorem as4(c d:List UInt8×Int)(w:World):(binOp .neq 95 (.agg #[.string (bs c.1),.int .i64 c.2]) (.agg #[.string (bs d.1),.int .i64 d.2])).run prog w=.ok (.bool (!decide (c=d))) w:=by
 have hS:prog.underlying 95=some (.struct (prog.fieldsOf 95)):=by kernel_rfl
 have hp:prog.stoodInHeld 95=false:=by kernel_rfl
 rw[run_neq_struct,show(10000:Nat)=9999+1 from rfl,run_equalIn_agg w 9999 95 _ _ hS hp];simp only[Program.fieldsOf,underlying95];have u1:=underlying3;have u2:=underlying9;go_simp;obtain⟨c1,c2⟩:=c;obtain⟨d1,d2⟩:=d;by_cases h1:c1=d1;·subst h1;by_cases h2:c2=d2;(·subst h2;simp);·simp[h2]
 ·(have hb:¬(bs c1).toList=(bs d1).toList:=by rw[wz,wz,dS,dS];exact h1);simp[h1,hb]
theorem as5(op:BinOp)(x y:Operand)(xs ys:Array Value)(w:World):(eqGuard op 95 x y (.agg xs) (.agg ys)).run prog w=.ok () w:=run_eqGuard_agg w op 95 x y xs ys (by kernel_rfl)
theorem as0(cs ds:List (List UInt8×Int))(v1 v2:Value)(w:World)(h1:ze w v1 cs)(h2:ze w v2 ds):Calls prog 120 #[v1,v2] w λe w'=>e=.returned (.bool (decide (cs=ds)))/\∃m,w'=w.drewN m:=by
 obtain⟨q1,k1,rfl,l1,h1⟩:=h1;obtain⟨q2,k2,rfl,l2,h2⟩:=h2;have H1:=ac h1;have cg:=ac h2;unfold maxLen at l1 l2;clear h1 h2;by_cases hl:cs.length=ds.length;·(have hlb:((cs.length:Int)==(ds.length:Int))=true:=by rw[hl];simp);(have yG:((cs.length:Int)!=(ds.length:Int))=false:=by rw[hl];simp);have fH:=ac hl;obtain⟨A,hA⟩:∃A,A=decide (cs=ds):=⟨_,rfl⟩;rw[<-hA];have bO:=ac hA;clear hl hA;go_enter func120,ntmps120;go_wp2_with fail;go_loopw[13] (λi wx=>∃(k n:Nat),k<=cs.length/\i=.int .i64 k/\wx=w.drewN n/\cs.take k=ds.take k) (λi _=>cs.length-(intOf i).toNat);(case atStart=>exact⟨0,0,cm _,rfl,rfl,rfl⟩);case round=>obtain⟨k,n,hk,rfl,rfl,ht⟩:=hrel;have mB:=ac ht;clear ht;by_cases hlt:k<cs.length;(·(have J4:k<ds.length:=by rw[<-fH.aa];exact hlt);obtain⟨c,hc⟩:∃c,cs[k]?=some c:=⟨_,cS hlt⟩;obtain⟨d,hd⟩:∃d,ds[k]?=some d:=⟨_,cS J4⟩;obtain⟨g1,o1,rfl,hg1,m1,YF⟩:=H1.aa k c hc;obtain⟨g2,o2,rfl,hg2,m2,asf⟩:=cg.aa k d hd;have HC:=ac hc;have HD:=ac hd;clear hc hd;have hn:=λw=>as4 c d w;have hg:=λop x y xs ys w=>as5 op x y xs ys w;by_cases GM:c=d;(·rw[cZ GM]at hn;have RD:=ac GM;clear GM;go_wp2;go_quiet(fail);go_wp2;go_roundw;(case rel=>exact⟨k+1,_,by omega,by go_num,rfl,asU mB.aa HC.aa (by rw[HD.aa,RD.aa])⟩);case measure=>simp[intOf];omega);·rw[dO GM]at hn;have RD:=ac GM;clear GM;go_wp2;go_quiet(fail);go_wp2;go_ret;exact⟨gw (by rw[bO.aa,dO (SU HC.aa HD.aa RD.aa)]),_,drewN_drewN _ _ _⟩);·go_wp2;go_ret;exact⟨gw (by rw[bO.aa,cZ (asT mB.aa (by omega) (by rw[<-fH.aa];omega))]),_,rfl⟩
 ·have hlb:((cs.length:Int)==(ds.length:Int))=false:=cn.2 (by omega);have hne:decide (cs=ds)=false:=dO λe=>hl (by rw[e]);rw[hne];clear hl hne;go_enter func120,ntmps120;go_wp2;go_ret;exact⟨rfl,0,rfl⟩
end ew
end Go.Proofs.YtnmfmoimjkoieaaGreatDoor
