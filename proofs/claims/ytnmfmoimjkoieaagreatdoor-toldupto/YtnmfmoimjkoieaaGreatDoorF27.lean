import Derived.Test.YtnmfmoimjkoieaaGreatDoorF24
import Derived.Test.YtnmfmoimjkoieaaGreatDoorF25
import Derived.Test.YtnmfmoimjkoieaaGreatDoorF26
set_option maxHeartbeats 25600000
set_option maxRecDepth 100000
set_option linter.all false
namespace Go.Proofs.YtnmfmoimjkoieaaGreatDoor
open Go.Proofs.Tryz
variable{R:List br.bh}{n:Nat}{v:Value}
namespace br
open Go.RowKit aD av aM
theorem MO(R:List bh)(t:List UInt8):∀(f i j:Nat),i<=j->o9 R t f i j<=j|0,i,j,h=>h|f+1,i,j,h=>by unfold o9;by_cases hlt:i<j;(·rw[ax hlt];split;(·split;(·exact MO R t f _ _ (by omega));·exact bi (MO R t f _ _ (by omega)) (by omega));·exact h);·rw[au hlt];exact h
theorem MP(R:List bh)(t:List UInt8):eF R t<=R.length:=MO R t _ _ _ (cm _)
theorem S7{t:List UInt8}(h:qE R t=true):eF R t<R.length:=by
 unfold qE at h;split at h;·rename_i m hm;exact(dw.1 hm).1
 ·cases h
theorem Ti(l:List UInt8):(bs l).toList.isEmpty=l.isEmpty:=by rw[wz,dS]
def jw(R:List bh)(m:bh):List bh:=if m.az=[]then(if qE R m.ak then R.eraseIdx (eF R m.ak)else R)else if qE R m.ak then R.set (eF R m.ak) m else if R.length<8 then R.take (eF R m.ak)++[m]++R.drop (eF R m.ak)else R
theorem amH(R:List bh)(i:Nat)(m:bh)(hi:i<R.length):(R.flatMap bz).take (i*4)++bz m++(R.flatMap bz).drop (i*4+(bz m).length)=(R.set i m).flatMap bz:=by rw[List.set_eq_take_append_cons_drop,ax hi,Gh px,px,show i*4+4=(i+1)*4 by omega,Dx px];simp[uj]
structure Mv (B:Nat) (aH:dD) (aI:Value) (R':List bh) (w w':World) (v':Value):Prop where
 blk:w'.heap[B]?=some (.cells (jX { aH with rv:=v' } aI) 131)
 but:But (fun b=>b=B∨aH.rv.ownBlock=some b) w w'
 own:w'.ownsRow 0 206 4 v' R'.length (R'.flatMap bz)
 loc:v'.ownBlock=aH.rv.ownBlock∨∃ b,v'.ownBlock=some b∧w.heap.size≤b
theorem ajE(B:Nat)(aH:dD)(aI:Value)(R:List bh)(m:bh)(w:World)(hB:w.heap[B]?=some (.cells (jX aH aI) 131))(hv:w.ownsRow 0 206 4 aH.rv R.length (R.flatMap bz))(hl:R.length<=1000)(hp:m.az=[]):Calls prog 141 #[.pointer (some ⟨B,11,none⟩),ft m] w λe w'=>e=.returned (.tuple #[])/\∃v',Mv B aH aI (jw R m) w w' v':=by obtain⟨t,pl,dm,rt⟩:=m;simp only at hp;subst hp;have hc:w.cell? ⟨B,11,none⟩=some aH.rv:=ar hB rfl;have hlt:=aG hB;obtain⟨q,bj,hq⟩:=bI hv;have hn0:=cj w (.cells #[.string (bs t),.string (bs []),.int .i64 dm,.bool rt] 206);have ju:=(aN w.heap.size w).alloc (aC _) (.cells #[.string (bs t),.string (bs []),.int .i64 dm,.bool rt] 206);unfold ft;go_enter func141,ntmps141;go_wp2_with fail;generalize w.alloc (.cells #[.string (bs t),.string (bs []),.int .i64 dm,.bool rt] 206)=W0 at *;have DR:=(ju.cell (p:=⟨B,11,none⟩) hlt).trans hc;have d0:W0.cell? ⟨w.heap.size,0,none⟩=some (.string (bs t)):=ar hn0 rfl;have qN:=(ju.block _ hlt).trans hB;have ah0:=aG qN;have Pk:=aG hn0;have PJ:=gm hv ju;have jY:=ac (Th aH.rv R t W0.drew PJ hl);rw[hq]at DR;have bH:=ac hq;rw[hq]at jY;have wJ:=ac hn0;have kY:=ac ju;have cz:=ac hv;have aB:=ac hB;go_region_with(refine jY.aa.mono ?_;rintro e w1 ⟨rfl,aW⟩;have bD:=ac aW;clear aW);all_goals have oq:Below w.heap.size w w1:=kY.aa.drew.trans (bD.aa.mono kY.aa.size);have yx:=(oq.block _ hlt).trans aB.aa;have z1:=(bD.aa.block _ Pk).trans wJ.aa;have d1:w1.cell? ⟨w.heap.size,1,none⟩=some (.string (bs [])):=ar z1 rfl;have c1:w1.cell? ⟨B,11,none⟩=some aH.rv:=ar yx rfl;have f1:w1.frozen? ⟨B,11,none⟩=false:=cM yx;have dc:=aG yx;have hl2:=aG z1;have Wh:(bs []).toList.isEmpty=true:=Ti [];have ez:=gm cz.aa oq;have ki:=ac oq;have ik:=ac yx;have dz:=ac ez;rw[bH.aa]at c1;cases hF:qE R t with|false=>(have hks:jw R ⟨t,[],dm,rt⟩=R:=by simp[jw,hF]);have ud:=ac hks;go_wp2;go_end0;rw[ud.aa];exact⟨rfl,aH.rv,ik.aa,But.of_below ki.aa,dz.aa,ai rfl⟩|true=>(have hks:jw R ⟨t,[],dm,rt⟩=R.eraseIdx (eF R t):=by simp[jw,hF]);have hil:=S7 hF;have ud:=ac hks;generalize eF R t=i at *;have lX:=ac (afh aH.rv R i (i+1) w1 dz.aa hil rfl);(have DT:((i+1:Nat):Int)=(i:Int)+1:=by omega);rw[DT,bH.aa]at lX;go_wp2_with fail;refine lX.aa.mono ?_;rintro e w2 ⟨v',rfl,iD,hloc,how⟩;rw[<-bH.aa]at iD hloc;(have vI:¬(aH.rv.ownBlock=some B):=λe=>by obtain⟨cur,gW⟩:=aU dz.aa e;have:=ik.aa;rw[gW]at this;simp at this);have cJ:=iD.blk vI ik.aa;have c2:w2.cell? ⟨B,11,none⟩=some aH.rv:=ar cJ rfl;have f2:w2.frozen? ⟨B,11,none⟩=false:=cM cJ;have rT:=aG cJ;obtain⟨q2,k2,hq2⟩:=bI how;rw[bH.aa]at c2;have HOW:=ac how;have vg:=ac hloc;have zh:=ac iD;have bp:=ac cJ;have wM:=ac hq2;have qx:=ac vI;subst hq2;go_wp2;go_end0;rw[ud.aa];refine⟨rfl,_,b6 _ bp.aa,((But.of_below ki.aa).trans zh.aa (λ_ _ e=>ag e)).trans (But.set (F:=λb=>b=B\/aH.rv.ownBlock=some b) w2 ⟨B,11,none⟩ _ (ai rfl)) (λ_ _ e=>e),bM HOW.aa (λb hb=>?_),ai vg.aa⟩;exact ck _ _ _ _ (λe=>qx.aa (by rw[<-vg.aa,hb];exact bq some e))
theorem ajF(B:Nat)(aH:dD)(aI:Value)(R:List bh)(m:bh)(w:World)(hB:w.heap[B]?=some (.cells (jX aH aI) 131))(hv:w.ownsRow 0 206 4 aH.rv R.length (R.flatMap bz))(hl:R.length<=1000)(hp:m.az≠[]):Calls prog 141 #[.pointer (some ⟨B,11,none⟩),ft m] w λe w'=>e=.returned (.tuple #[])/\∃v',Mv B aH aI (jw R m) w w' v':=by
 obtain⟨t,pl,dm,rt⟩:=m;simp only at hp;have Wh:(bs pl).toList.isEmpty=false:=by rw[Ti];cases pl with|nil=>exact(hp rfl).elim|cons _ _=>rfl
 have hc:w.cell? ⟨B,11,none⟩=some aH.rv:=ar hB rfl;have hlt:=aG hB;obtain⟨q,bj,hq⟩:=bI hv;have hn0:=cj w (.cells #[.string (bs t),.string (bs pl),.int .i64 dm,.bool rt] 206);have ju:=(aN w.heap.size w).alloc (aC _) (.cells #[.string (bs t),.string (bs pl),.int .i64 dm,.bool rt] 206);unfold ft;go_enter func141,ntmps141;go_wp2_with fail;generalize w.alloc (.cells #[.string (bs t),.string (bs pl),.int .i64 dm,.bool rt] 206)=W0 at *;have DR:=(ju.cell (p:=⟨B,11,none⟩) hlt).trans hc;have d0:W0.cell? ⟨w.heap.size,0,none⟩=some (.string (bs t)):=ar hn0 rfl;have qN:=(ju.block _ hlt).trans hB;have ah0:=aG qN;have Pk:=aG hn0;have PJ:=gm hv ju;have jY:=ac (Th aH.rv R t W0.drew PJ hl);rw[hq]at DR;have bH:=ac hq;rw[hq]at jY;have wJ:=ac hn0;have kY:=ac ju;have cz:=ac hv;have aB:=ac hB;go_region_with(refine jY.aa.mono ?_;rintro e w1 ⟨rfl,aW⟩;have bD:=ac aW;clear aW);all_goals have oq:Below w.heap.size w w1:=kY.aa.drew.trans (bD.aa.mono kY.aa.size);have yx:=(oq.block _ hlt).trans aB.aa;have z1:=(bD.aa.block _ Pk).trans wJ.aa;have d1:w1.cell? ⟨w.heap.size,1,none⟩=some (.string (bs pl)):=ar z1 rfl;have d2:w1.cell? ⟨w.heap.size,2,none⟩=some (.int .i64 dm):=ar z1 rfl;have d3:w1.cell? ⟨w.heap.size,3,none⟩=some (.bool rt):=ar z1 rfl;have aqv:w1.cell? ⟨w.heap.size,0,none⟩=some (.string (bs t)):=ar z1 rfl;have c1:w1.cell? ⟨B,11,none⟩=some aH.rv:=ar yx rfl;have f1:w1.frozen? ⟨B,11,none⟩=false:=cM yx;have dc:=aG yx;have hl2:=aG z1;have arb:=Wh;have ez:=gm cz.aa oq;have ki:=ac oq;have ik:=ac yx;have dz:=ac ez;rw[bH.aa]at c1;cases hF:qE R t with|true=>(have hks:jw R ⟨t,pl,dm,rt⟩=R.set (eF R t) ⟨t,pl,dm,rt⟩:=by simp[jw,hF,hp]);have hil:=S7 hF;have ud:=ac hks;generalize eF R t=i at *;obtain⟨g,rfl,hg,hkc,hcm,_⟩:=fE (by rw[<-bH.aa];exact dz.aa) (show 0<R.length by omega);unfold maxLen at hcm;obtain⟨m0,hm0⟩:∃m0,R[i]?=some m0:=⟨_,cS hil⟩;have A7:=dz.aa;rw[bH.aa]at A7;have e0:w1.cell? ⟨g,i*4,none⟩=some (.string (bs m0.ak)):=iX (wr:=w1) A7 (by omega) hm0 rfl 0 (by omega) rfl;have e1:w1.cell? ⟨g,i*4+1,none⟩=some (.string (bs m0.az)):=iX (wr:=w1) A7 (by omega) hm0 rfl 1 (by omega) rfl;have e2:w1.cell? ⟨g,i*4+2,none⟩=some (.int .i64 m0.qos):=iX (wr:=w1) A7 (by omega) hm0 rfl 2 (by omega) rfl;have e3:w1.cell? ⟨g,i*4+3,none⟩=some (.bool m0.aF):=iX (wr:=w1) A7 (by omega) hm0 rfl 3 (by omega) rfl;obtain⟨cur,gW⟩:=aU A7 (b:=g) rfl;have q0:w1.frozen? ⟨g,i*4,none⟩=false:=cM gW;have q1:w1.frozen? ⟨g,i*4+1,none⟩=false:=cM gW;have q2:w1.frozen? ⟨g,i*4+2,none⟩=false:=cM gW;have q3:w1.frozen? ⟨g,i*4+3,none⟩=false:=cM gW;(have ahC:g≠B:=λe=>by have:=ik.aa;rw[<-e,gW]at this;simp at this);have hgl:=aG gW;have jV:=ac A7;go_wp2_with fail;go_region;all_goals go_wp2;go_end0;rw[ud.aa];have h9:=Cy (o:=i*4) (vs:=bz ⟨t,pl,dm,rt⟩) (show w1.drew.ownsRow 0 206 4 _ _ _ from jV.aa) (by rw[px];omega);rw[amH R i ⟨t,pl,dm,rt⟩ hil]at h9;have pq:But (λb=>b=g) w1 (w1.drew.setCells g (i*4) (bz ⟨t,pl,dm,rt⟩)):=(But.of_below (aN _ _).drew).trans (But.cells (F:=λb=>b=g) rfl _ w1.drew _) (λ_ _ e=>e);refine⟨rfl,aH.rv,pq.blk (λe=>ahC e.symm) ik.aa,(But.of_below ki.aa).trans pq (λb _ e=>ag (by rw[bH.aa,e];rfl)),?_,ai rfl⟩;rw[SJ,bH.aa];exact h9|false=>by_cases h8:R.length<8;(·(have hks:jw R ⟨t,pl,dm,rt⟩=R.take (eF R t)++[⟨t,pl,dm,rt⟩]++R.drop (eF R t):=by simp[jw,hF,hp,h8]);have hil:=MP R t;have ud:=ac hks;generalize eF R t=i at *;have N8:=(aN w1.heap.size w1).drew.alloc (aC _) (.cells #[.string (bs t),.string (bs pl),.int .i64 dm,.bool rt] 206);have hvb:=cj w1.drew (.cells #[.string (bs t),.string (bs pl),.int .i64 dm,.bool rt] 206);have rJ:=ac (ai2 aH.rv R i ⟨t,pl,dm,rt⟩ w1.heap.size _ (gm dz.aa N8) hl hil hvb (λe=>by obtain⟨cur,hc⟩:=aU dz.aa e;have:=aG hc;omega));rw[bH.aa]at rJ;have Ie:=ac N8;(have vI:¬(aH.rv.ownBlock=some B):=λe=>by obtain⟨cur,gW⟩:=aU dz.aa e;have:=ik.aa;rw[gW]at this;simp at this);have qx:=ac vI;go_wp2_with fail;go_region_with(refine rJ.aa.mono ?_;rintro e w2 ⟨v',rfl,iD,hloc,how⟩;rw[<-bH.aa]at iD hloc;rw[show(R.take i++[(⟨t,pl,dm,rt⟩:bh)]++R.drop i).length=R.length+1 by simp;omega]at how;have cJ:=iD.blk qx.aa ((Ie.aa.block _ dc).trans ik.aa);have c2:w2.cell? ⟨B,11,none⟩=some aH.rv:=ar cJ rfl;have f2:w2.frozen? ⟨B,11,none⟩=false:=cM cJ;have rT:=aG cJ;obtain⟨q2,k2,hq2⟩:=bI how;rw[bH.aa]at c2;have HOW:=ac how;have vg:=ac hloc;have zh:=ac iD;have bp:=ac cJ;subst hq2);all_goals go_wp2;go_end0;rw[ud.aa];refine⟨rfl,_,b6 _ bp.aa,(((But.of_below ki.aa).trans (But.of_below (F:=λ_=>False) Ie.aa) (λ_ _ f=>f.elim)).trans zh.aa (λ_ _ e=>ag e)).trans (But.set (F:=λb=>b=B\/aH.rv.ownBlock=some b) w2 ⟨B,11,none⟩ _ (ai rfl)) (λ_ _ e=>e),?_,vg.aa.imp id (λ⟨b,e1,e2⟩=>⟨b,e1,bi ki.aa.size (bi Ie.aa.size e2)⟩)⟩;rw[show(R.take i++[(⟨t,pl,dm,rt⟩:bh)]++R.drop i).length=R.length+1 by simp;omega];refine bM HOW.aa (λb hb=>ck _ _ _ _ (λe=>?_));rcases vg.aa with h|⟨b',h1,h2⟩;(·rw[h]at hb;exact qx.aa (hb.trans (bq some e)));·rw[h1]at hb;cases hb;simp only at e;have:=Ie.aa.size;omega);·(have hks:jw R ⟨t,pl,dm,rt⟩=R:=by simp[jw,hF,hp,h8]);have ud:=ac hks;go_wp2;go_end0;rw[ud.aa];exact⟨rfl,aH.rv,ik.aa,But.of_below ki.aa,dz.aa,ai rfl⟩
theorem ajD(B:Nat)(aH:dD)(aI:Value)(R:List bh)(m:bh)(w:World)(hB:w.heap[B]?=some (.cells (jX aH aI) 131))(hv:w.ownsRow 0 206 4 aH.rv R.length (R.flatMap bz))(hl:R.length<=1000):Calls prog 141 #[.pointer (some ⟨B,11,none⟩),ft m] w λe w'=>e=.returned (.tuple #[])/\∃v',Mv B aH aI (jw R m) w w' v':=by
 by_cases hp:m.az=[];·exact ajE B aH aI R m w hB hv hl hp
 ·exact ajF B aH aI R m w hB hv hl hp
end br
namespace br
open Go.RowKit aD av aM Go.Maps
theorem Wb{sb b:Nat}{V:eK}(hv:v.ownBlock=V.fv.ownBlock\/∃b,v.ownBlock=some b/\n<=b)(h:eK.has {V with fv:=v} sb b):V.has sb b\/n<=b:=by
 rcases h with h|h|h;·exact ai (ai h)
 ·rcases hv with e|⟨b',e,hb⟩;(·exact ai (ag (ai (e▸h))));·have h2:v.ownBlock=some b:=h;rw[e]at h2;cases h2;exact ag hb
 ·exact ai (ag (ag h))
theorem bG.KB{A:dQ}{F:Nat->Prop}{a a':World}(h:bG A F a a')(hF:∀b,F b->b<n):SF n a a':=by obtain⟨F',_,k2,_⟩:=h;exact⟨k2.size,λg h1 h2=>k2.ah g h2 (λe=>by have:=hF g e;omega)⟩
theorem akD(last:Int)(l:List lV)(hl:l.length<65000):∃k,Ho last l=nth last k/\busy l (nth last k)=false:=by
 have hex:∃j,j<=l.length/\busy l (nth last j)=false:=by apply H4;intro hn;(have hall:∀j,j<l.length+1->busy l (nth last j)=true:=λj hj=>by cases hb:busy l (nth last j)with|true=>rfl|false=>exact(hn ⟨j,by omega,hb⟩).elim);have:=adi (l.length+1) (by omega) hall;omega
 have hmin:∀n,(∃j,j<=n/\busy l (nth last j)=false)->∃k,k<=n/\busy l (nth last k)=false/\∀j,j<k->busy l (nth last j)=true:=by intro n;induction n with|zero=>rintro⟨j,hj,hb⟩;(obtain rfl:j=0:=by omega);exact⟨0,aC _,hb,λj hj=>by omega⟩|succ n ih=>rintro⟨j,hj,hb⟩;by_cases hjn:j<=n;(·obtain⟨k,h1,h2⟩:=ih ⟨j,hjn,hb⟩;exact⟨k,by omega,h2⟩);·(have:j=n+1:=by omega);subst this;by_cases hx:∃j,j<=n/\busy l (nth last j)=false;(·obtain⟨k,h1,h2⟩:=ih hx;exact⟨k,by omega,h2⟩);·refine⟨n+1,aC _,hb,λi hi=>?_⟩;cases hc:busy l (nth last i)with|true=>rfl|false=>exact(hx ⟨i,by omega,hc⟩).elim
 obtain⟨k,hk,hb,hlt⟩:=hmin _ hex;refine⟨k,?_,hb⟩;have:=akC (l:=l) (last:=last) (l.length+1) k 0 (λj _ hj=>hlt j (by omega)) (by rw[iW];exact hb) (by omega);rw[iW]at this;exact this
structure MA (S:eY):Prop where
 last:0≤S.last
 win:1≤S.window∧S.window≤8
 und:(S.under.length:Int)≤S.window
 aqP:S.waiting = []∨(S.under.length:Int)=S.window
 ids:(S.under.map lV.id).Nodup
 aJ:∀ f∈S.bn,f.1.length≤65535
 ajJ:S.known.Nodup
 uM:∀ id∈S.known,1≤id∧id≤65535
structure IK (R:List bh):Prop where
 top:∀ m∈R,m.ak.length≤65535
 len:R.length≤8
theorem MA.aqe{S:eY}(h:MA S)(m:bh)(hu:(S.under.length:Int)<S.window)(r:List bh)(hr:r=[]\/((S.under.length:Int)+1=S.window)):MA (acQ {S with waiting:=r} m):=by
 have hl:S.under.length<65000:=by have:=h.win;omega
 obtain⟨k,e,hb⟩:=akD S.last S.under hl;have hr2:=akN S.last k;refine⟨by show 0<=Ho S.last S.under;rw[e];omega,h.win,?_,?_,?_,h.aJ,h.ajJ,h.uM⟩;·show(((S.under++[_]).length:Nat):Int)<=S.window;rw[bT,uk];omega
 ·show r=[]\/(((S.under++[_]).length:Nat):Int)=S.window;rw[bT,uk];exact hr.imp (λe=>e) (λe=>by omega)
 ·show((S.under++[_]).map lV.id).Nodup;rw[FK,List.nodup_append];refine⟨h.ids,by simp,λa ha b hb' e'=>?_⟩;simp only[oZ,zC,jW]at hb';subst e';subst hb';change Ho S.last S.under∈S.under.map lV.id at ha;rw[e]at ha;obtain⟨u,hu1,hu2⟩:=i7.1 ha;(have:busy S.under (nth S.last k)=true:=by unfold busy;rw[List.any_eq_true];exact⟨u,hu1,by simp[hu2]⟩);rw[hb]at this;cases this
theorem afB(l:List (List UInt8×Int))(f:List UInt8):∀g∈l5 l f,g∈l:=by
 intro g hg;unfold l5 at hg;split at hg;·exact List.mem_of_mem_eraseIdx hg
 ·exact hg
theorem anC{l:List (List UInt8×Int)}{f:List UInt8×Int}(h:∀g∈l,g.1.length<=65535)(hf:f.1.length<=65535):∀g∈(jJ l f).getD l,g.1.length<=65535:=by
 unfold jJ;intro g hg;split at hg;·simp only[Bo]at hg;rcases List.mem_or_eq_of_mem_set hg with h1|h1;(·exact h g h1);·subst h1;exact hf
 ·split at hg;(·exact h g hg);·simp only[Bo]at hg;rcases mE.1 hg with h1|h1;(·exact h g h1);·simp only[jW]at h1;subst h1;exact hf
theorem IK.ah(h:IK R)(m:bh)(hm:m.ak.length<=65535):IK (jw R m):=by
 unfold jw;split;·split;(·exact⟨λx hx=>h.top x (List.mem_of_mem_eraseIdx hx),bi (List.length_eraseIdx_le _ _) h.len⟩);·exact h
 ·split;(·refine⟨λx hx=>?_,by rw[SJ];exact h.len⟩;rcases List.mem_or_eq_of_mem_set hx with h1|h1;(·exact h.top x h1);·subst h1;exact hm);·split;(·rename_i hl;refine⟨λx hx=>?_,by simp;omega⟩;rcases mE.1 hx with h1|h1;(·rcases mE.1 h1 with h2|h2;(·exact h.top x (List.mem_of_mem_take h2));·simp only[jW]at h2;subst h2;exact hm);·exact h.top x (List.mem_of_mem_drop h1));·exact h
end br
namespace br
open Go.RowKit aD av aM rd ew b7 bJ Go.Maps
theorem Yf{w:World}{C:Nat}{l:List Int}(h:w.ownsRow C 3 1 v l.length (kT l))(hl:l.length<=1000000):rC w v l:=by obtain⟨q,cap,rfl⟩:=bI h;refine⟨q,cap,rfl,by unfold maxLen;omega,λj c hj=>?_⟩;have hlt:=(dw.1 hj).1;obtain⟨g,rfl,h1,h2,h3,h4⟩:=fE h (by omega);exact⟨g,rfl,h1,h4 j _ (by simp[kT,hj])⟩
end br
end Go.Proofs.YtnmfmoimjkoieaaGreatDoor
