import Derived.Test.YtnmfmoimjkoieaaGreatDoorF42
set_option maxHeartbeats 25600000
set_option maxRecDepth 100000
set_option linter.all false
namespace Go.Proofs.YtnmfmoimjkoieaaGreatDoor
open Go.Proofs.Tryz
variable{w:World}{A B H:br.aj}{b k:Nat}{p:aM.ay}{fs:List (List UInt8×Int)}{cs:List Int}{l:List UInt8}
namespace lt
open Go.RowKit aD av aM br dr cT
open rd (aL ey bA)
theorem Es{W:World}{A:Obj}(h:w.alloc A=W):W.heap[w.heap.size]?=some A/\Below w.heap.size w W:=by subst h;exact⟨cj _ _,(aN _ _).alloc (aC _) _⟩
theorem ak5(o:fT)(h:w.heap[b]?=some (.cells (cW o) 100)):w.rangeAt b 5 (aL o.p).toList:=λj v hj=>by
 have hj':(aL o.p)[j]?=some v:=by simpa using hj
 have hl:j<15:=(jT.1 hj').1;refine ar h ?_;unfold cW;rw[Array.getElem?_append_left (by simp[bw];omega),Array.getElem?_append_right (by simp)];simpa[bw,aL]using hj'
theorem ak4(o:fT)(h:w.heap[b]?=some (.cells (cW o) 100)):w.cell? ⟨b,0,none⟩=some (.int .i64 o.kind)/\w.cell? ⟨b,1,none⟩=some (.int .i64 o.conn)/\w.cell? ⟨b,3,none⟩=some (.int .i64 o.cut):=by refine⟨ar h ?_,ar h ?_,ar h ?_⟩<;>simp[cW,bw]
theorem aiZ:(prog.info? 36).map (·.size)=some 15:=by kernel_rfl
theorem anh(af sb:Nat)(o:fT)(T:List UInt8)(w:World)(hK:o.kind=1)(Q:World->Prop)(jY:∀a,Below w.heap.size w a->Calls prog 71 #[.agg (aL o.p)] a λe a1=>∃p',e=.returned (.agg (aL p'))/\Below a.heap.size a a1/\∀a2,Below a1.heap.size a1 a2->Calls prog 70 #[.agg (aL p')] a2 λe a3=>e=.returned (.string (bs T))/\Below a2.heap.size a2 a3)(c1:¬(0<o.cut/\o.cut<(T.length:Int))->∀a,Below w.heap.size w a->a.heap[w.heap.size]?=some (.cells (cW o) 100)->Calls prog 72 #[.pointer (some ⟨af,0,none⟩),.pointer (some ⟨sb,0,none⟩),.int .i64 o.conn,.string (bs T)] a λe a1=>e=.returned (.bool true)/\Q a1)(c2:∀c:Nat,o.cut=(c:Int)->0<c->c<T.length->∀a,Below w.heap.size w a->a.heap[w.heap.size]?=some (.cells (cW o) 100)->Calls prog 72 #[.pointer (some ⟨af,0,none⟩),.pointer (some ⟨sb,0,none⟩),.int .i64 o.conn,.string (bs (T.take c))] a λe a1=>e=.returned (.bool true)/\a1.heap[w.heap.size]?=some (.cells (cW o) 100)/\∀kK,Below a1.heap.size a1 kK->Calls prog 72 #[.pointer (some ⟨af,0,none⟩),.pointer (some ⟨sb,0,none⟩),.int .i64 o.conn,.string (bs (T.drop c))] kK λe a2=>e=.returned (.bool true)/\Q a2):Calls prog 46 #[.pointer (some ⟨af,0,none⟩),.pointer (some ⟨sb,0,none⟩),.agg (cW o)] w λe w'=>e=.returned (.bool true)/\Q w':=by
 have jy:=ac jY;have C1:=ac c1;have Lx:=ac c2;have vo:=ac λ(b:Nat) (W:World) (h:W.heap[b]?=some (.cells (cW o) 100))=>ak5 o h;have HC:=ac λ(b:Nat) (W:World) (h:W.heap[b]?=some (.cells (cW o) 100))=>ak4 o h;clear jY c1 c2;generalize cW o=A at *;go_enter func46,ntmps46;go_upto_region 1 with fail;generalize hW:w.alloc _=W;obtain⟨hN,hB⟩:=Es hW;obtain⟨q0,q1,q3⟩:=HC.aa _ _ hN;rw[hK]at q0;have hR:=vo.aa _ _ hN;have HN:=ac hN;have aB:=ac hB;have aT:=ac hR;clear hW hN hB hR;go_wp2_with(first|refine wpList_load_mid rfl 36 (.tmp 24) rfl w.heap.size 5 rfl (aL o.p).toList _ aT.aa underlying36 rfl aiZ ?_|fail);refine(jy.aa W aB.aa).mono ?_;rintro e a1 ⟨p',rfl,hb1,hgo⟩;have HG:=ac (hgo _ (aN _ _));have bD:=ac (aB.aa.trans (hb1.mono aB.aa.size));have dH:=ac ((hb1.block _ (ic HN.aa)).trans HN.aa);clear hb1 hgo q0 q1 q3 aB HN aT jy;clear W;go_wp2_with fail;refine HG.aa.mono ?_;rintro e a2 ⟨rfl,hb2⟩;have bp:=ac (bD.aa.trans (hb2.mono bD.aa.size));have lR:=ac ((hb2.block _ (ic dH.aa)).trans dH.aa);obtain⟨q0,q1,q3⟩:=HC.aa _ _ lR.aa;have hs:(bs T).size=T.length:=by simp[bs,ByteArray.size]
 clear hb2 HG bD dH vo q0;clear a1;by_cases hcut:0<o.cut/\o.cut<(T.length:Int);·obtain⟨c,hc⟩:∃c:Nat,o.cut=(c:Int):=⟨o.cut.toNat,by omega⟩;have nT:=ac (Lx.aa c hc (by omega) (by omega));(have e1:(0:Int)<(c:Int):=by omega);(have e2:(c:Int)<(T.length:Int):=by omega);(have e3:(c:Int)<=(T.length:Int):=by omega);(have e4:(0:Int)<=(c:Int):=by omega);(have e5:c<=T.length:=by omega);(have x1:(bs T).extract 0 c=bs (T.take c):=by simp[bs,ByteArray.ext_iff]);(have x2:(bs T).extract c T.length=bs (T.drop c):=by simp[bs,ByteArray.ext_iff];exact iV (by simp));rw[hc]at q3;have wE:=ac hc;clear hcut C1 Lx hc;go_wp2_with fail;go_region_with(go_at_call 72;refine(nT.aa _ bp.aa.drew lR.aa).mono ?_;rintro e a3 ⟨rfl,BW,hgo⟩;have Ij:=ac hgo;obtain⟨_,k1,k3⟩:=HC.aa _ _ BW;rw[wE.aa]at k3;clear hgo BW);all_goals go_wp2_with fail;go_region_with(go_at_call 72;refine(Ij.aa _ (aN _ _).drew).mono ?_;rintro e a4 ⟨rfl,hq⟩;have bH:=ac hq;clear hq);all_goals go_wp2_with fail;go_ret;exact⟨rfl,bH.aa⟩
 ·have nT:=ac (C1.aa hcut _ bp.aa lR.aa);clear C1 Lx;by_cases h0:0<o.cut;(·have e2:¬o.cut<(T.length:Int):=λh=>hcut ⟨h0,h⟩;clear hcut;go_wp2_with fail;refine nT.aa.mono ?_;rintro e a3 ⟨rfl,hq⟩;have bH:=ac hq;clear hq;go_wp2_with fail;go_ret;exact⟨rfl,bH.aa⟩);·clear hcut;go_wp2_with fail;refine nT.aa.mono ?_;rintro e a3 ⟨rfl,hq⟩;have bH:=ac hq;clear hq;go_wp2_with fail;go_ret;exact⟨rfl,bH.aa⟩
end lt
namespace lt
open aD av aM br b7
open rd (cG jd eA iL bA)
theorem U9(p:ay)(fs:List (List UInt8×Int))(cs:List Int)(hb:(eT p fs cs).length<=300):cG (eG p fs cs)≠.inl true/\(∀q n,cG (eG p fs cs)=.inr (q,n)->n=(eG p fs cs).length/\∃p0,jd ((l6 p).toNat/16) ((l6 p).toNat%16)=some p0/\cC p0 (eT p fs cs)=some q)/\∀c,0<c->c<(eG p fs cs).length->∀r,cG ((eG p fs cs).take c)≠.inr r:=by
 have hl:=KE hb (eT p fs cs);unfold eG;rw[KF];generalize eT p fs cs=B at *;generalize l6 p=x;generalize iP B.length=L at *;have h1:¬(L++B).length<L.length+B.length:=by simp
 have h2:((L++B).drop L.length).take B.length=B:=by simp
 refine⟨λh=>?_,λq n h=>?_,λc h0 hc r h=>?_⟩;·simp only[cG]at h;cases hf:jd (x.toNat/16) (x.toNat%16)with|none=>rw[hf]at h;cases h|some p0=>rw[hf]at h;simp only[hl,au h1,h2]at h;cases hB:cC p0 B with|none=>rw[hB]at h;cases h|some q=>rw[hB]at h;cases h
 ·simp only[cG]at h;cases hf:jd (x.toNat/16) (x.toNat%16)with|none=>rw[hf]at h;cases h|some p0=>rw[hf]at h;simp only[hl,au h1,h2]at h;cases hB:cC p0 B with|none=>rw[hB]at h;cases h|some q'=>rw[hB]at h;cases h;exact⟨by simp;omega,p0,rfl,hB⟩
 ·obtain⟨x',r',p',m,k,e1,e2,e3,e4,_⟩:=afc h;obtain⟨j,rfl⟩:∃j,c=j+1:=⟨c-1,by omega⟩;rw[FL]at e1;obtain⟨rfl,rfl⟩:=List.cons.inj e1;(have hj:j<(L++B).length:=by simpa using hc);by_cases hk:L.length<=j;(·rw[aj2 hl hk]at e3;cases e3;rw[dY]at e4;simp at hj;omega);·rw[aj1 hl (by omega)]at e3;cases e3
theorem agf(p:ay)(h0:p.qos=0)(hd:p.dup=false):((l6 p).toNat:Int)=(16*p.kind+(if p.kind=3 then dA p.aF 1 else iL p.kind))%256:=by
 have:vF p=if p.kind=3 then dA p.aF 1 else iL p.kind:=by unfold vF;rw[h0,hd];simp[dA]
 unfold l6 bk;rw[this];generalize(16*p.kind+_)=n;rw[IP];omega
structure MC (p:ay) (fs:List (List UInt8×Int)) (cs:List Int):Prop where
 qos:p.qos=0
 dup:p.dup=false
 aR:p.aR=true
 kind:¬ (4≤p.kind∧p.kind≤7)
 aJ:∀ f∈fs,f.1.length≤40
 zQ:cs.length≤9
theorem agp{q:ay}{gs:List (List UInt8×Int)}{ds:List Int}(h:MC p fs cs)(hk:p.kind%16=1)(hq:q.kind=1)(h0:0<=q.qos/\q.qos<=2)(hb:dR (pd q) q gs ds=eT p fs cs):q.aR=true/\q.qos=0:=by
 unfold dR at hb;rw[ax hq]at hb;by_cases h1:p.kind=1;·unfold eT at hb;rw[ax h1]at hb;have h8:=bq (λl=>l[7]?) hb;simp[fe,fO]at h8;(have hc:(pd q).toNat=(pd p).toNat:=by rw[h8]);(have ow:∀(b:Bool)(n:Int),dA b n=0/\b=false\/dA b n=n/\b=true:=λb n=>by cases b<;>simp[dA]);have i1:=ow q.aR 2;have i2:=ow q.will 4;have i3:=ow q.aF 32;have i4:=ow p.will 4;have i5:=ow p.aF 32;unfold pd bk at hc;rw[h.aR,h.qos,show dA true 2=2 from rfl,IP,IP]at hc;generalize dA q.aR 2=a1 at *;generalize dA q.will 4=a2 at *;generalize dA q.aF 32=a3 at *;generalize dA p.will 4=a4 at *;generalize dA p.aF 32=a5 at *;(have aio:q.qos=0:=by omega);rcases i1 with⟨i1,_⟩|⟨_,i1⟩;(·omega);·exact⟨i1,aio⟩
 ·exfalso;unfold eT at hb;rw[au h1,au (show¬p.kind=2 by omega),au (show¬p.kind=3 by omega),au (show¬(p.kind=12\/p.kind=13\/p.kind=14)by omega)]at hb;cases fs with|nil=>have:=bq List.length hb;have:=h.zQ;simp[fe,fO,gb]at *;omega|cons f r=>have h3:=bq (λl=>l[2]?) hb;have hf:=h.aJ f zD;(have e:(f.1.length:Int)/256=0:=by omega);simp[fe,fO,gb,kP,iR,e,bk]at h3
theorem agq(h:MC p fs cs)(hb:(eT p fs cs).length<=300):∀q n,cG (eG p fs cs)=.inr (q,n)->Bp q.1:=by
 intro q n hd;obtain⟨_,p0,hf,hB⟩:=(U9 p fs cs hb).2.1 q n hd;obtain⟨b1,b2,b3⟩:=ada hf hB;have hx:=agf p h.qos h.dup;have aiC:(l6 p).toNat<256:=UInt8.toNat_lt _;have aru:=h.kind;have hbr:dA p.aF 1=0\/dA p.aF 1=1:=by cases p.aF<;>simp[dA]
 unfold iL at hx;generalize(l6 p).toNat=x at *;generalize dA p.aF 1=rr at *;have hS:=(Tf hf hB).Ew;unfold jd at hf;split at hf;·cases hf
 ·split at hf;(·split at hf;(·rename_i DZ hk3 hfl;cases hf;unfold iL at hfl;have ain:q.1.kind=((x/16:Nat):Int):=b2;refine⟨λe=>by omega,λe=>agp h ?_ e ⟨hS.2.2.1,hS.2.2.2.1⟩ b1,λe=>?_⟩;(·split at hx<;>(try split at hx)<;>omega);·split at hx<;>(try split at hx)<;>split at hfl<;>omega);·cases hf);·rename_i DZ hk3;split at hf;(·cases hf);·cases hf;have ain:q.1.kind=3:=b2;refine⟨λ_=>?_,λe=>by omega,λe=>by omega⟩;have hq:q.1.qos=((x%16/2%4:Nat):Int):=(b3 rfl).2.1;split at hx<;>(try split at hx)<;>omega
end lt
namespace lt
open aD av aM br dr
open rd (cG)
def rG(H:aj):Prop:=∀j c,H.aA j=some c->c.wait=[]
def lh(H' H:aj):Prop:=∀j c,H'.aA j=some c->∃c0,H.aA j=some c0/\c.wait=c0.wait
theorem lh.refl(H:aj):lh H H:=λ_ c e=>⟨c,e,rfl⟩
theorem lh.trans{C:aj}(h:lh A B)(g:lh B C):lh A C:=λj c e=>by obtain⟨c1,e1,w1⟩:=h j c e;obtain⟨c2,e2,w2⟩:=g j c1 e1;exact⟨c2,e2,w1.trans w2⟩
theorem lh.wt(h:lh A B)(g:rG B):rG A:=λj c e=>by obtain⟨c1,e1,w1⟩:=h j c e;exact w1.trans (g j c1 e1)
theorem QT{H':aj}{f:b9->b9}(hf:∀c,(f c).wait=c.wait)(h:H'.aA=upd H.aA k ((H.aA k).map f)):lh H' H:=λj c e=>by
 rw[h]at e;unfold upd at e;split at e;·rename_i bF;obtain⟨c0,e0,rfl⟩:=iz.1 e;exact⟨c0,by rw[bF];exact e0,hf c0⟩
 ·exact⟨c,e,rfl⟩
theorem aag(H:aj)(k:Nat):lh (H.shut k) H:=λj c e=>by
 have e:upd H.aA k none j=some c:=e;unfold upd at e;split at e;·cases e
 ·exact⟨c,e,rfl⟩
theorem Ld(H:aj)(k:Nat):lh (H.cut k) H:=by unfold aj.cut;split<;>exact aag H k
theorem Nk(H:aj)(k:Nat):(H.cut k).aA k=none:=by unfold aj.cut;split<;>exact ax rfl
theorem ans(H:aj)(c:List UInt8):lh (H.off c) H:=by
 unfold aj.off;split;·exact Ld H _
 ·exact lh.refl H
theorem anp(H:aj)(k:Nat)(F:bR):lh (H.cN k F) H:=QT (k:=k) (f:=λc=>{c with aJ:=F}) (λ_=>rfl) rfl
theorem anr(H:aj)(k:Nat)(p:ay):lh (H.join k p) H:=QT (k:=k) (f:=λc=>{c with bg:=some (ji p),aJ:=[]}) (λ_=>rfl) rfl
theorem ant(H:aj)(k:Nat)(q:bX.lK):lh (bV k H q).1 H:=by
 unfold bV;repeat' split
 all_goals first|exact lh.refl H|exact anp H k _|exact aag H k|exact Ld H k|exact(anr _ k _).trans (ans H _)
theorem anq(H:aj)(k:Nat):lh (H.hear k) H:=QT (k:=k) (f:=λc=>{c with heard:=H.now}) (λ_=>rfl) rfl
def zK(k:Nat)(H:aj):Prop:=∀j c,H.aA j=some c->j≠k->c.wait=[]
theorem lh.Q9(h:lh A B)(g:zK k B):zK k A:=λj c e n=>by obtain⟨c1,e1,w1⟩:=h j c e;exact w1.trans (g j c1 e1 n)
theorem zK.none(h:zK k H)(hn:H.aA k=none):rG H:=λj c e=>h j c e (λbF=>by rw[bF,hn]at e;cases e)
theorem step_shut(H:aj)(k:Nat)(q:bX.lK)(h:(bV k H q).2.2=true):(bV k H q).1.aA k=none:=by
 unfold bV at h⊢;repeat' split
 all_goals first|exact Nk H k|exact ax rfl|(simp_all;done)
theorem apP(h:zK k H):rG (H.cI k []):=λj c e=>by
 have e:upd H.aA k ((H.aA k).map λc=>{c with wait:=[]}) j=some c:=e;unfold upd at e;split at e;·obtain⟨c0,e0,rfl⟩:=iz.1 e;rfl
 ·exact h j c e (by assumption)
theorem apD(h:rG H)(k:Nat)(l:List UInt8):zK k (H.cI k l):=λj c e n=>by have e:upd H.aA k ((H.aA k).map λc=>{c with wait:=l}) j=some c:=e;unfold upd at e;rw[au n]at e;exact h j c e
theorem NL(H:aj)(k:Nat)(l:List UInt8)(h:cG l=.inl false):(iq k H l).1=H.cut k:=by unfold iq bX.j5 bX.pz;rw[h];rfl
theorem Uy(H:aj)(k:Nat)(l:List UInt8)(h:cG l=.inl true):(iq k H l).1=H.cI k l:=by unfold iq bX.j5 bX.pz;rw[h]
theorem Ux(H:aj)(k:Nat){q:bX.lK}{n:Nat}(hpl:o7 l)(hR:cG l=.inr (q,n)):(iq k H l).1=if(bV k (H.hear k) q).2.2 then(bV k (H.hear k) q).1 else(bV k (H.hear k) q).1.cI k []:=by have hdr:l.drop n=[]:=List.drop_of_length_le (hpl q.1 q.2.1 q.2.2 n hR).2;unfold iq bX.j5 bX.pz;simp only[hR,hdr];cases hcl:(bV k (H.hear k) q).2.2 with|true=>(have e:br.stepT k H q=((bV k (H.hear k) q).1,(bV k (H.hear k) q).2.1.map some,true):=by unfold br.stepT;rw[hcl]);rw[e];simp only;rw[NU];rfl|false=>(have e:br.stepT k H q=((bV k (H.hear k) q).1,(bV k (H.hear k) q).2.1.map some,false):=by unfold br.stepT;rw[hcl]);(have:bX.pz (br.stepT k) none l.length (bV k (H.hear k) q).1 []=((bV k (H.hear k) q).1,[],some []):=by cases l.length<;>rfl);rw[e];simp only[this];rfl
theorem Uz{T:List UInt8}(h1:cG T≠.inl true)(hpl:o7 T)(hW:zK k H):rG (iq k H T).1:=by cases hR:cG T with|inl b=>(cases b with|true=>exact absurd hR h1|false=>rw[NL H k T hR];exact((Ld H k).Q9 hW).none (Nk H k))|inr qn=>have hS:=(ant (H.hear k) k qn.1).Q9 ((anq H k).Q9 hW);rw[Ux H k hpl hR];split;(·exact hS.none (step_shut _ _ _ (by assumption)));·exact apP hS
theorem Nj(H:aj)(k:Nat):(H.cut k).now=H.now:=by unfold aj.cut;split<;>rfl
theorem ang(H:aj)(k:Nat)(q:bX.lK):(bV k H q).1.now=H.now:=by
 unfold bV;repeat' split
 all_goals first|rfl|exact Nj H k|(show(H.off _).now=H.now;unfold aj.off;split;exact Nj H _;rfl)
theorem NJ(H:aj)(k:Nat)(hpl:o7 l):(iq k H l).1.now=H.now:=by cases hR:cG l with|inl b=>(cases b with|true=>rw[Uy H k l hR];rfl|false=>rw[NL H k l hR];exact Nj H k)|inr qn=>have hS:(bV k (H.hear k) qn.1).1.now=H.now:=ang _ _ _;rw[Ux H k hpl hR];split<;>exact hS
end lt
end Go.Proofs.YtnmfmoimjkoieaaGreatDoor
