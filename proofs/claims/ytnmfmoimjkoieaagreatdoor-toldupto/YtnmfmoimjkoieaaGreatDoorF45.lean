import Derived.Test.YtnmfmoimjkoieaaGreatDoorF43
import Derived.Test.YtnmfmoimjkoieaaGreatDoorF44
import Derived.DataShut
import Derived.Deep.SlicePairs
import Derived.Test.YtnmfmoimjkoieaaGreatDoorCards
set_option maxHeartbeats 25600000
set_option maxRecDepth 100000
set_option linter.all false
namespace Go.Proofs.YtnmfmoimjkoieaaGreatDoor
open Go.Proofs.Tryz Tryz
variable{Z:lt.Pl}{b n1 n2 n5 af N sr mX g fuel:Nat}{o:Obj}{H:br.aj}{w w' a:World}{p:aM.ay}{fs:List (List UInt8×Int)}{cs:List Int}{bW bc:Addr}{v:Value}{cur:Array Value}{os:List lt.fT}{vs:List Value}
namespace lt
open Go.RowKit aD av aM br dr cT b7
open rd (aL cG)
def Pl.hold(Z:Pl)(b:Nat)(o:Obj):Pl:={Z with dW:=λx=>if x=b then some o else Z.dW x}
theorem Pp{x:Nat}(h:x≠b):(Z.hold b o).dW x=Z.dW x:=au h
theorem Xy:(Z.hold b o).dW b=some o:=ax rfl
theorem Pl.ok.hold(h:Z.ok)(b:Nat)(o:Obj):(Z.hold b o).ok:=⟨h.n0,h.n1,h.rd,h.bf,h.sb⟩
theorem dN.hold(h:dN Z H n1 n2 n5 w)(hb:Below w.heap.size w w')(hn:w.heap.size<=b)(ho:w'.heap[b]?=some o):dN (Z.hold b o) H n1 n2 n5 w':=by
 obtain⟨F,G,B,hD⟩:=h.duo;have hE:=hD.below hb;refine⟨⟨F,G,B,⟨hE.p,hE.d,hE.b,hE.s,hE.ln,hE.lu,hE.bs,hE.o,hE.ob,λx o' hx=>?_,hE.io⟩⟩,h.ok,h.mK,h.tm⟩;have hx:(if x=b then some o else Z.dW x)=some o':=hx;split at hx;·rename_i e;cases hx;rw[e];exact⟨ho,λf=>by have:=hD.lt (ai f);omega,λf=>by have:=hD.lt (ag (ai f));omega,λf=>by have:=hD.lt (ag (ag (ai f)));omega,λf=>yP f⟩
 ·exact hE.k x o' hx
theorem dN.ail(h:dN Z H n1 n2 n5 w)(hb:Below w.heap.size w w'){c:Nat}{p:Obj}(hn:w.heap.size<=b/\w.heap.size<=c)(ho:w'.heap[b]?=some o)(hp:w'.heap[c]?=some p):dN ((Z.hold b o).hold c p) H n1 n2 n5 w':=by
 obtain⟨F,G,B,hD⟩:=h.duo;have hE:=hD.below hb;refine⟨⟨F,G,B,⟨hE.p,hE.d,hE.b,hE.s,hE.ln,hE.lu,hE.bs,hE.o,hE.ob,λx o' hx=>?_,hE.io⟩⟩,h.ok,h.mK,h.tm⟩;have hnew:∀x,w.heap.size<=x->¬F x/\¬G x/\¬B x/\¬lg (.slice none 0 0) [] x:=λx hx=>⟨λf=>by have:=hD.lt (ai f);omega,λf=>by have:=hD.lt (ag (ai f));omega,λf=>by have:=hD.lt (ag (ag (ai f)));omega,λf=>yP f⟩;have hx:(if x=c then some p else if x=b then some o else Z.dW x)=some o':=hx;split at hx;·rename_i e;cases hx;rw[e];exact⟨hp,hnew c hn.2⟩
 ·split at hx;(·rename_i e;cases hx;rw[e];exact⟨ho,hnew b hn.1⟩);·exact hE.k x o' hx
theorem dN.held(h:dN (Z.hold b o) H n1 n2 n5 w):w.heap[b]?=some o:=by obtain⟨F,G,B,hD⟩:=h.duo;exact(hD.k b o (ax rfl)).1
theorem dN.drop(h:dN (Z.hold b o) H n1 n2 n5 w)(hz:Z.dW b=none):dN Z H n1 n2 n5 w:=by obtain⟨F,G,B,hD⟩:=h.duo;exact⟨⟨F,G,B,⟨hD.p,hD.d,hD.b,hD.s,hD.ln,hD.lu,hD.bs,hD.o,hD.ob,λx o' hx=>hD.k x o' ((au (λe=>by rw[e,hz]at hx;cases hx)).trans hx),hD.io⟩⟩,h.ok,h.mK,h.tm⟩
theorem dN.fresh(h:dN Z H n1 n2 n5 w){x:Nat}(hx:w.heap.size<=x):Z.dW x=none:=by obtain⟨F,G,B,hD⟩:=h.duo;exact hD.fresh hx
def SQ(Z:Pl)(t:Int)(n1 n2 n5:Nat)(w:World):Prop:=∃H m1 m2 m5,H.now<=t+100000/\m1<=n1+24000/\m2<=n2+8/\m5<=n5+2/\dN Z H m1 m2 m5 w/\rG H
theorem QQ(hZ:Z.ok)(h:dN Z H n1 n2 n5 w)(n:Int)(d:List UInt8)(h0:0<d.length)(hd:d.length<=1000000)(hpl:∀(k:Nat) c,k<8->n=(k:Int)->H.aA k=some c->o7 (c.wait++d)/\c.wait.length+d.length<=1000000)(bK:n1+12000<=4000000000000)(bY:n2+4<=4000000000000)(uI:n5+1<=4000000000000):Calls prog 72 #[.pointer (some ⟨Z.af,0,none⟩),.pointer (some ⟨Z.sb,0,none⟩),.int .i64 n,.string (bs d)] w λe w'=>e=.returned (.bool true)/\∃H' m1,m1<=n1+12000/\dN Z H' m1 (n2+4) (n5+1) w'/\((∃(k:Nat) (c:b9),k<8/\n=(k:Int)/\H.aA k=some c/\H'=(iq k H (c.wait++d)).1)\/(H'=H/\(0<=n->n<8->H.aA n.toNat=none))):=by
 by_cases hc:∃(k:Nat) (c:b9),k<8/\n=(k:Int)/\H.aA k=some c;·obtain⟨k,c,hk,rfl,hc⟩:=hc;obtain⟨p1,p2⟩:=hpl k c hk rfl hc;refine(afT hZ h hk hc d h0 p1 p2 bK bY uI).mono ?_;rintro e w' ⟨rfl,m,hm,hS⟩;exact⟨rfl,_,_,by omega,hS,ai ⟨k,c,hk,rfl,hc,rfl⟩⟩
 ·(have hno:0<=n->n<8->H.aA n.toNat=none:=λa b=>by cases e:H.aA n.toNat with|none=>rfl|some c=>exact absurd ⟨n.toNat,c,by omega,by omega,e⟩ hc);refine(afU hZ h n hno d h0 hd bK bY uI).mono ?_;rintro e w' ⟨rfl,hS⟩;exact⟨rfl,_,_,by omega,hS,ag ⟨rfl,hno⟩⟩
theorem adb(h1:p.aq.length<=20)(h2:p.ak.length<=40)(h3:p.az.length<=100)(h4:fs.length<=3)(h5:∀f∈fs,f.1.length<=40)(h6:cs.length<=9):(eT p fs cs).length<=176:=by
 have hf:∀(k8:Bool)(gs:List (List UInt8×Int)),(∀f∈gs,f.1.length<=40)->(gs.flatMap (kP k8)).length<=43*gs.length:=λk8 gs=>by induction gs with|nil=>intro _;simp|cons f r ih=>intro h;have i1:=ih (λg hg=>h g (Dd _ hg));have i2:=h f zD;cases k8<;>simp[kP,iR,gb]at * <;>omega
 have:=hf (p.kind==8) fs h5;unfold eT;generalize fs.flatMap (kP (p.kind==8))=X at *;repeat' split
 all_goals simp[iR,gb]
 all_goals omega
def lH(p:ay)(fs:List (List UInt8×Int))(cs:List Int):List UInt8:=eG (ml p p.fv p.ae) (kz fs) (cs.take 9)
theorem amP(hp:p.qos=0/\p.dup=false/\p.aR=true/\¬(4<=p.kind/\p.kind<=7)):2<=(lH p fs cs).length/\(lH p fs cs).length<=1000/\cG (lH p fs cs)≠.inl true/\o7 (lH p fs cs)/\∀c,0<c->c<(lH p fs cs).length->∀r,cG ((lH p fs cs).take c)≠.inr r:=by
 have lv:∀f∈kz fs,f.1.length<=40:=λf hf=>by obtain⟨g,_,rfl⟩:=i7.1 hf;exact bi (by rw[dY];exact Nat.min_le_left _ _) (aC 40)
 have Cb:(cs.take 9).length<=9:=by rw[dY];exact Nat.min_le_left _ _
 have hB:(eT (ml p p.fv p.ae) (kz fs) (cs.take 9)).length<=176:=adb (by simp[ml];omega) (by simp[ml];omega) (by simp[ml];omega) (by rw[QO];omega) lv Cb;have hS:MC (ml p p.fv p.ae) (kz fs) (cs.take 9):=⟨hp.1,hp.2.1,hp.2.2.1,hp.2.2.2,lv,Cb⟩;obtain⟨f1,f2,f3⟩:=U9 (ml p p.fv p.ae) (kz fs) (cs.take 9) (by omega);have hl:1<=(r8 (eT (ml p p.fv p.ae) (kz fs) (cs.take 9)).length).length/\(r8 (eT (ml p p.fv p.ae) (kz fs) (cs.take 9)).length).length<=2:=by unfold r8;split<;>simp
 refine⟨?_,?_,f1,λq gs ds n hd=>⟨agq hS (by omega) _ n hd,Nat.le_of_eq (f2 _ n hd).1.symm⟩,f3⟩;·unfold lH eG;simp;omega
 ·unfold lH eG;simp;omega
theorem adu(p:ay)(a b c d:Value)(fs:List (List UInt8×Int))(cs:List Int):eG (ml p a b) fs cs=eG (ml p c d) fs cs:=rfl
theorem am6(hZ:Z.ok)(h:dN Z H n1 n2 n5 w)(hW:rG H)(o:fT)(fs:List (List UInt8×Int))(cs:List Int)(hK:o.kind=1)(hf:kD w o.p.fv fs)(hc:mD w o.p.ae cs)(hfc:∀a n c,o.p.fv=.slice a n c->n<=c)(hcc:∀a n c,o.p.ae=.slice a n c->n<=c)(hk:qz o.p.ah)(hi:qz o.p.id)(hp:o.p.qos=0/\o.p.dup=false/\o.p.aR=true/\¬(4<=o.p.kind/\o.p.kind<=7))(bK:n1+24000<=4000000000000)(bY:n2+8<=4000000000000)(uI:n5+2<=4000000000000):Calls prog 46 #[.pointer (some ⟨Z.af,0,none⟩),.pointer (some ⟨Z.sb,0,none⟩),.agg (cW o)] w λe w'=>e=.returned (.bool true)/\SQ Z H.now n1 n2 n5 w':=by
 obtain⟨t1,t2,t3,t4,t5⟩:=amP (fs:=fs) (cs:=cs) hp;refine anh Z.af Z.sb o (lH o.p fs cs) w hK _ (λa hb=>?_) (λ_ a hb hN=>?_) (λc hcut h0 hl a hb hN=>?_);·refine(amU o.p fs cs a (hf.below hb) (hc.below hb) hfc hcc).mono ?_;rintro e a1 ⟨fv,ae,rfl,g1,g2,g3⟩;refine⟨_,rfl,g3,λa2 hb2=>?_⟩;(have hB:(eT (ml o.p fv ae) (kz fs) (cs.take 9)).length<=1000:=by(have:(eT (ml o.p fv ae) (kz fs) (cs.take 9)).length<=(lH o.p fs cs).length:=by unfold lH;rw[adu o.p o.p.fv o.p.ae fv ae];unfold eG;simp;omega);omega);exact yj (ml o.p fv ae) (kz fs) (cs.take 9) a2 hk hi (by simp[ml];omega) (by simp[ml];omega) (by simp[ml];omega) (g1.below hb2) (g2.below hb2) (by omega)
 ·have hS:=h.hold hb (aC _) hN;refine(QQ (hZ.hold _ _) hS o.conn (lH o.p fs cs) (by omega) (by omega) (λk c _ _ e=>by rw[hW k c e];exact⟨t4,by simp;omega⟩) (by omega) (by omega) (by omega)).mono ?_;rintro e a1 ⟨rfl,H',m1,hm,hS1,hH⟩;(have rV:H'.now=H.now/\rG H':=by rcases hH with⟨k,c,_,_,e,rfl⟩|⟨rfl,_⟩;(·rw[hW k c e];exact⟨NJ H k t4,Uz t3 t4 (λj c e _=>hW j c e)⟩);·exact⟨rfl,hW⟩);exact⟨rfl,H',_,_,_,by omega,by omega,by omega,by omega,hS1.drop (h.fresh (aC _)),rV.2⟩
 ·have hS:=h.hold hb (aC _) hN;have hpt:o7 ((lH o.p fs cs).take c):=λp gs ds n hd=>absurd hd (t5 c h0 hl _);(have hlt:((lH o.p fs cs).take c).length=c:=by rw[dY];omega);have Xi:((lH o.p fs cs).drop c).length=(lH o.p fs cs).length-c:=eX;refine(QQ (hZ.hold _ _) hS o.conn ((lH o.p fs cs).take c) (by omega) (by omega) (λk c _ _ e=>by rw[hW k c e];exact⟨hpt,by simp;omega⟩) (by omega) (by omega) (by omega)).mono ?_;rintro e a1 ⟨rfl,H',m1,hm,hS1,hH⟩;refine⟨rfl,hS1.held,λkK hb1=>?_⟩;have jZ:=hS1.below hb1;(have bK:H'.now=H.now:=by rcases hH with⟨k,c0,mO,zT,e,rfl⟩|⟨rfl,hno⟩;(·rw[hW k c0 e];exact NJ H k hpt);·rfl);(have hst:(∀(k:Nat) c1,k<8->o.conn=(k:Int)->H'.aA k=some c1->c1.wait=(lH o.p fs cs).take c/\zK k H')/\((∀k:Nat,k<8->o.conn=(k:Int)->H'.aA k=none)->rG H'):=by rcases hH with⟨k,c0,mO,zT,e,rfl⟩|⟨rfl,hno⟩;(·rw[hW k c0 e,lf];cases hR:cG ((lH o.p fs cs).take c)with|inl b=>(cases b with|true=>rw[Uy H k _ hR];refine⟨λj c1 _ bF e1=>?_,λhn=>?_⟩;(·(have hjk:j=k:=by omega);subst hjk;rw[oh,e,uq,ax rfl]at e1;cases e1;exact⟨rfl,apD hW j _⟩);·have:=hn k mO zT;rw[oh,e]at this;cases this|false=>rw[NL H k _ hR];exact⟨λj c1 _ bF e1=>(by rw[show j=k by omega,Nk]at e1;cases e1),λ_=>(Ld H k).wt hW⟩)|inr r=>exact absurd hR (t5 c h0 hl r));·exact⟨λj c1 h8 bF e1=>(by have:=hno (by omega) (by omega);rw[bF]at this;simp at this;rw[this]at e1;cases e1),λ_=>hW⟩);refine(QQ (hZ.hold _ _) jZ o.conn ((lH o.p fs cs).drop c) (by omega) (by omega) (λk c1 mO zT e1=>by rw[(hst.1 k c1 mO zT e1).1,um];exact⟨t4,by omega⟩) (by omega) (by omega) (by omega)).mono ?_;rintro e a2 ⟨rfl,cg,m2,hm2,fq,xb⟩;(have rV:cg.now=H'.now/\rG cg:=by rcases xb with⟨k,c1,mO,zT,e1,rfl⟩|⟨rfl,hno⟩;(·obtain⟨i1,i2⟩:=hst.1 k c1 mO zT e1;rw[i1,um];exact⟨NJ _ k t4,Uz t3 t4 i2⟩);·refine⟨rfl,hst.2 λk h8 zT=>?_⟩;have:=hno (by omega) (by omega);rw[zT]at this;simpa using this);exact⟨rfl,cg,_,_,_,by omega,by omega,by omega,by omega,fq.drop (h.fresh (aC _)),rV.2⟩
structure MB (w:World) (o:fT):Prop where
 aJ:∃ fs,kD w o.p.fv fs
 zQ:∃ cs,mD w o.p.ae cs
 NI:∀ a n c,o.p.fv=.slice a n c→n≤c
 cc:∀ a n c,o.p.ae=.slice a n c→n≤c
 ah:qz o.p.ah
 id:qz o.p.id
 pl:o.kind=1→o.p.qos=0∧o.p.dup=false∧o.p.aR=true∧¬ (4≤o.p.kind∧o.p.kind≤7)
 kind:o.kind≤6∧o.kind≠2
 s:o.s.length≤1000000000
theorem am8(hZ:Z.ok)(h:dN Z H n1 n2 n5 w)(hW:rG H)(o:fT)(ho:MB w o)(yI:H.now+100000<=500000000000000000)(bK:n1+24000<=4000000000000)(bY:n2+8<=4000000000000)(uI:n5+2<=4000000000000):Calls prog 46 #[.pointer (some ⟨Z.af,0,none⟩),.pointer (some ⟨Z.sb,0,none⟩),.agg (cW o)] w λe w'=>e=.returned (.bool true)/\SQ Z H.now n1 n2 n5 w':=by
 obtain⟨fs,hf⟩:=ho.aJ;obtain⟨cs,hc⟩:=ho.zQ;have aQ:∃a b c,o.p.fv=.slice a b c:=by obtain⟨q,k,e,_⟩:=hf;exact⟨_,_,_,e⟩
 have hcv:∃a b c,o.p.ae=.slice a b c:=by obtain⟨q,k,e,_⟩:=hc;exact⟨_,_,_,e⟩
 have hk:=ho.kind;rcases(show o.kind<=0\/o.kind=1\/o.kind=3\/o.kind=4\/o.kind=5\/o.kind=6 by omega)with e|e|e|e|e|e;·refine(anf Z.af Z.sb o w e aQ hcv).mono ?_;rintro e w' ⟨rfl,hb⟩;exact⟨rfl,H,_,_,_,by omega,by omega,by omega,by omega,h.below hb,hW⟩
 ·exact am6 hZ h hW o fs cs e hf hc ho.NI ho.cc ho.ah ho.id (ho.pl e) bK bY uI
 ·refine(am5 hZ h o e aQ hcv).mono ?_;rintro e w' ⟨rfl,H',i1,i2,i3⟩;exact⟨rfl,H',_,_,_,by omega,by omega,by omega,by omega,i3,λj c e=>(i2 j c e).elim (hW j c) id⟩
 ·refine(Z2 hZ h o e aQ hcv (by omega) (by omega)).mono ?_;rintro e w' ⟨rfl,H',m,hm,i2,i3⟩;exact⟨rfl,H',_,_,_,by rw[i2.1];omega,by omega,by omega,by omega,i3,λj c e=>by obtain⟨c0,e0,_,e2⟩:=i2.2 j c e;exact e2.trans (hW j c0 e0)⟩
 ·refine(am9 hZ h o e aQ hcv yI (by omega) (by omega)).mono ?_;rintro e w' ⟨rfl,H',m,hm,i1,i2,i3⟩;exact⟨rfl,H',_,_,_,i1,by omega,by omega,by omega,i3,λj c e=>by obtain⟨c0,e0,e2⟩:=i2 j c e;exact e2.trans (hW j c0 e0)⟩
 ·refine(Z4 h o e aQ hcv ho.s).mono ?_;rintro e w' ⟨rfl,hS⟩;exact⟨rfl,H,_,_,_,by omega,by omega,by omega,by omega,hS,hW⟩
end lt
namespace lt
open Go.RowKit aD av aM br dr cT
open rd (aL bA)
def lookO(c:List UInt8):fT:=⟨6,0,0,0,c,bA,false⟩
def Na(n:Int):fT:=⟨4,n,0,0,[],bA,false⟩
def SP(DB:Nat)(rM:List (List UInt8))(w:World):Prop:=∃q cap,w.cell? ⟨DB,155,none⟩=some (.slice q rM.length cap)/\∀i c,rM[i]?=some c->∃g sp,q=some ⟨g,0,none⟩/\w.cell? ⟨g,i,none⟩=some (.pointer (some ⟨sp,0,none⟩))/\w.cell? ⟨sp,0,none⟩=some (.string (bs c))
theorem afP(af sb DB:Nat)(w:World)(rM:List (List UInt8))(S:World->Prop)(S2:Nat->World->Prop)(hcl:rM.length<=8)(h0:S w)(hr:∀a,S a->a.cell? ⟨sb,1,none⟩=some (.pointer (some ⟨DB,0,none⟩))/\SP DB rM a)(ny:∀a c,S a->c∈rM->Calls prog 46 #[.pointer (some ⟨af,0,none⟩),.pointer (some ⟨sb,0,none⟩),.agg (cW (lookO c))] a λe a1=>e=.returned (.bool true)/\S a1)(h2:∀a,S a->S2 0 a)(iK:∀n a,n<8->S2 n a->Calls prog 46 #[.pointer (some ⟨af,0,none⟩),.pointer (some ⟨sb,0,none⟩),.agg (cW (Na (n:Int)))] a λe a1=>e=.returned (.bool true)/\S2 (n+1) a1):Calls prog 47 #[.pointer (some ⟨af,0,none⟩),.pointer (some ⟨sb,0,none⟩)] w λe w'=>e=.returned (.bool true)/\S2 8 w':=by
 have aT:=ac hr;have H3:=ac ny;have cg:=ac h2;have lJ:=ac iK;have dx:=ac h0;clear hr ny h2 iK h0;go_enter func47,ntmps47;go_wp2_with fail;go_loopw[5] (λt wr=>∃i:Nat,t=.int .i64 (i:Int)/\i<=rM.length/\S wr) (λt _=>rM.length-(intOf t).toNat);case atStart=>exact⟨0,rfl,cm _,dx.aa⟩
 case round=>obtain⟨i,rfl,hi,hS⟩:=hrel;obtain⟨s1,q,cap,XJ,hel⟩:=aT.aa _ hS;have HS:=ac hS;have tZ:=ac hel;clear hS hel dx;by_cases hz:i=rM.length;(·(have D6:¬((i:Int)<(rM.length:Int)):=by omega);have aaW:=ac (cg.aa _ HS.aa);clear HS tZ aT H3 hz hi;go_wp2_with fail;go_loopw[7] (λt wr=>∃n:Nat,t=.int .i64 (n:Int)/\n<=8/\S2 n wr) (λt _=>8-(intOf t).toNat);(case atStart=>exact⟨0,rfl,by omega,aaW.aa⟩);case round=>obtain⟨n,rfl,hn,hS⟩:=hrel;have HS:=ac hS;clear hS;by_cases hz:n=8;(·subst hz;go_wp2_with fail;go_ret;exact⟨rfl,HS.aa⟩);·(have hlt:(n:Int)<8:=by omega);have Lz:=lJ.aa n wr (by omega) HS.aa;simp only[cW,Na,bw,bA,x4,Bh,lf]at Lz;have Rf:=ac Lz;clear Lz hz;go_wp2_with fail;refine Rf.aa.mono ?_;rintro e w1 ⟨rfl,hS1⟩;have bN:=ac hS1;clear hS1 Rf;go_wp2_with fail;go_roundw;(case measure=>simp[intOf];omega);case rel=>exact⟨n+1,by go_num,by omega,bN.aa⟩);·(have hlt:(i:Int)<(rM.length:Int):=by omega);obtain⟨c,hc⟩:∃c,rM[i]?=some c:=⟨rM[i]'(by omega),cS _⟩;obtain⟨g,sp,hq,r1,r2⟩:=tZ.aa i c hc;subst hq;have LA:=H3.aa wr c HS.aa (ld hc);simp only[cW,lookO,bw,bA,x4,Bh,lf]at LA;have Rk:=ac LA;(have O3:¬((i:Int)<0):=by omega);clear LA tZ;go_wp2_with fail;refine Rk.aa.mono ?_;rintro e w1 ⟨rfl,hS1⟩;have bN:=ac hS1;clear hS1 Rk;go_wp2_with fail;go_roundw;(case measure=>simp[intOf];omega);case rel=>exact⟨i+1,by go_num,by omega,bN.aa⟩
theorem afp{D:bb}{G:Nat->Prop}(hA:jz D H [] G w)(hO:bZ H):SP D.B (H.aO.map Prod.fst) w:=by
 obtain⟨V,h,rfl⟩:=hA;obtain⟨q,cap,hq⟩:=bI h.aO;refine⟨q,cap,by rw[dU,<-hq];exact ar h.blk (pj V (j:=0) (by decide)),λi c hc=>?_⟩;rw[oY]at hc;obtain⟨x,hx,rfl⟩:=iz.1 hc;have hu:(H.aO.map λx=>fN (fw V x.2))[i]?=some (fN (fw V x.2)):=by rw[oY,hx];rfl
 obtain⟨g,cap',e1,e2,e3⟩:=lw.KS h.aO i _ hu;rw[hq]at e1;cases e1;obtain⟨h8,c,p,i1,i2,i3⟩:=(hO.aO x).1 (ld hx);have hp:=h.pl x.2 h8;rw[i1]at hp;cases hcn:V.aZ x.2 with|none=>rw[hcn]at hp;cases hp|some BG=>obtain⟨c',d⟩:=BG;rw[hcn]at hp;cases hp;have hS:=h.sat x.2 _ d p h8 hcn i2;(have hsp:fw V x.2=d.sp:=by unfold fw;rw[hcn]);refine⟨g,d.sp,rfl,by rw[<-hsp];exact e3,?_⟩;rw[<-i3];exact ar hS.blk rfl
theorem am4(hZ:Z.ok)(h:dN Z H n1 n2 n5 w)(bK:n1+200000<=4000000000000)(bY:n2+80<=4000000000000):Calls prog 47 #[.pointer (some ⟨Z.af,0,none⟩),.pointer (some ⟨Z.sb,0,none⟩)] w λe w'=>e=.returned (.bool true)/\∃H m1 m2,dN Z H m1 m2 n5 w':=by
 refine(afP Z.af Z.sb Z.D.B w (H.aO.map Prod.fst) (dN Z H n1 n2 n5) (λn a=>∃H m1 m2,m1<=n1+12000*n/\m2<=n2+4*n/\dN Z H m1 m2 n5 a) (by rw[dU];exact h.ok.len) h (λa hS=>?_) (λa c hS hc=>?_) (λa hS=>⟨H,n1,n2,by omega,by omega,hS⟩) (λn a hn hS=>?_)).mono ?_;·obtain⟨F,G,B,hD⟩:=hS.duo;exact⟨hD.side.2,afp hD.d h.ok⟩
 ·obtain⟨x,hx,rfl⟩:=i7.1 hc;obtain⟨_,c,p,i1,i2,i3⟩:=(h.ok.aO x).1 hx;exact Z4 hS (lookO x.1) rfl ⟨_,_,_,rfl⟩ ⟨_,_,_,rfl⟩ (by rw[show(lookO x.1).s=p.aq from i3.symm];have:=(h.ok.hel _ c p i1 i2).cl;omega)
 ·obtain⟨H',m1,m2,i1,i2,i3⟩:=hS;refine(Z2 hZ i3 (Na n) rfl ⟨_,_,_,rfl⟩ ⟨_,_,_,rfl⟩ (by omega) (by omega)).mono ?_;rintro e a1 ⟨rfl,cg,m,hm,_,jZ⟩;exact⟨rfl,cg,_,_,by omega,by omega,jZ⟩
 ·rintro e w' ⟨rfl,H',m1,m2,_,_,hS⟩;exact⟨rfl,H',m1,m2,hS⟩
theorem Z3(h:dN Z H n1 n2 n5 w):Calls prog 13 #[.pointer (some ⟨Z.af,0,none⟩)] w λe w'=>e=.returned (.bool true)/\Below w.heap.size w w':=by obtain⟨F,G,B,hD⟩:=h.duo;obtain⟨v,xs,hT,_⟩:=hD.b;exact lb.PX w Z.af Z.sv v xs hT.fI hT.no.1 hT.no.2.1 hT.no.2.2.1 hT.no.2.2.2
end lt
namespace lt
open Go.RowKit aD av aM br dr cT
theorem aml{X:World}{old c:Array Value}{t:TypeId}(h:(w.alloc (.cells old t)).setRow w.heap.size c=X):X.heap[w.heap.size]?=some (.cells c t)/\Below w.heap.size w X:=by subst h;exact⟨yS _ _ _ _ _ _ (cj _ _),ur ((aN _ _).alloc (aC _) _) (aC _) _⟩
theorem alK(af sb sr mX m bj:Nat)(dm:Option Addr)(w:World)(A:Nat->Array Value)(S:Nat->World->Prop)(E:World->Prop)(hm:m<=1048576)(h0:S 0 w)(hb:∀i a a',S i a->Below a.heap.size a a'->S i a')(hr:∀a,(∃i,S i a)\/E a->a.cell? ⟨af,0,none⟩=some (.slice (some ⟨sr,0,none⟩) 1 mX)/\a.cell? ⟨sr,0,none⟩=some (.pointer (some ⟨sb,0,none⟩)))(hop:∀i a,i<m->S i a->∃g o,dm=some ⟨g,o,none⟩/\a.rangeAt g (o+i*21) (A i).toList/\(A i).size=21/\(A i).all (·.oneCell')=true)(jb:∀i w0 a,i<m->S i w0->Below w0.heap.size w0 a->Calls prog 45 #[.agg (A i)] a λe a1=>∃(A':Array Value) (fx:Bool),e=.returned (.agg A')/\A'.size=21/\A'.all (·.oneCell')=true/\A'[20]?=some (.bool fx)/\Below a.heap.size a a1/\∀a2,Below w0.heap.size w0 a2->a1.heap.size<=a2.heap.size->(∀b,a.heap.size<=b->b<a1.heap.size->a2.heap[b]?=a1.heap[b]?)->Calls prog 46 #[.pointer (some ⟨af,0,none⟩),.pointer (some ⟨sb,0,none⟩),.agg A'] a2 λe a3=>e=.returned (.bool true)/\S (i+1) a3)(vB:∀a,(∃i,S i a)\/E a->Calls prog 13 #[.pointer (some ⟨af,0,none⟩)] a λe a1=>e=.returned (.bool true)/\Below a.heap.size a a1)(I3:∀a,S m a->Calls prog 47 #[.pointer (some ⟨af,0,none⟩),.pointer (some ⟨sb,0,none⟩)] a λe a1=>e=.returned (.bool true)/\E a1):Calls prog 17 #[.pointer (some ⟨af,0,none⟩),.slice dm m bj,.bool true] w λe w'=>e=.returned (.bool true)/\∃a,E a/\Below a.heap.size a w':=by
 have aB:=ac hb;have aT:=ac hr;have L8:=ac hop;have tV:=ac jb;have CU:=ac vB;have Rg:=ac I3;have dx:=ac h0;have fh:=ac yJ;obtain⟨s1,s2⟩:=hr w (ai ⟨0,h0⟩);clear hb hr hop jb vB I3 h0;go_enter func17,ntmps17;go_wp2_with fail;clear s1 s2;go_loopw[8] (λt wr=>∃i:Nat,t=.int .i64 (i:Int)/\i<=m/\S i wr) (λt _=>m-(intOf t).toNat);case atStart=>exact⟨0,rfl,cm _,dx.aa⟩
 case round=>obtain⟨i,rfl,hi,hS⟩:=hrel;have HS:=ac hS;clear hS dx;by_cases hz:i=m;(·subst hz;(have D6:¬((i:Int)<(i:Int)):=by omega);have Rh:=ac (Rg.aa wr HS.aa);have zo:=ac (aT.aa wr (ai ⟨_,HS.aa⟩));clear L8 tV aB Rg;go_wp2_with fail;go_loopw[13] (λt wx=>(t=.int .i64 0/\wx=wr)\/(t=.int .i64 1/\E wx)) (λt _=>1-(intOf t).toNat);(case atStart=>exact ai ⟨rfl,rfl⟩);case round=>rcases hrel with⟨rfl,rfl⟩|⟨rfl,hE⟩;(·obtain⟨s1,s2⟩:=zo.aa;go_wp2_with fail;refine Rh.aa.mono ?_;rintro e a1 ⟨rfl,hE⟩;have cu:=ac hE;clear hE Rh s1 s2;go_wp2_with fail;go_roundw;(case measure=>simp[intOf]);case rel=>exact ag ⟨by go_num,cu.aa⟩);·have H2:=ac (CU.aa _ (ag hE));have cu:=ac hE;clear hE;go_wp2_with fail;refine H2.aa.mono ?_;rintro e a1 ⟨rfl,hb⟩;have qm:=ac hb;clear hb;go_wp2_with fail;go_ret;exact⟨rfl,_,cu.aa,qm.aa⟩);·(have hlt:(i:Int)<(m:Int):=by omega);(have O3:¬((i:Int)<0):=by omega);(have him:i<m:=by omega);obtain⟨g,o,hq,hrg,hsz,hone⟩:=L8.aa i wr him HS.aa;subst hq;have vo:=ac hrg;have LX:Hid ((prog.info? 100).map (·.size)=some (A i).size):=ac (by rw[hsz];exact yJ);have RS:Hid ((prog.info? 100).map (·.size)=some (A i).toList.length):=ac (by rw[ES,hsz];exact yJ);have fB:=ac hsz;have zn:=ac hone;clear hz hrg hsz hone;go_upto_region 7 with(first|refine wpList_load_mid rfl 100 (.tmp 32) rfl g (o+i*21) rfl (A i).toList _ vo.aa underlying100 rfl RS.aa ?_|refine yX rfl 100 (.tmp 9) (.tmp 33) rfl wr.heap.size (A i) rfl rfl 100 _ (cj _ _) LX.aa fB.aa.symm zn.aa ?_|fail);generalize hX:World.setRow (wr.alloc _) wr.heap.size (A i)=X;obtain⟨hN,zX⟩:=aml hX;have HN:=ac hN;have kG:=ac zX;have EU:=ac (tV.aa i wr X him HS.aa zX);clear hX hN zX vo RS zn L8 tV;go_wp2_with(first|refine AK rfl 100 (.tmp 9) rfl wr.heap.size rfl 100 (A i) (0,0) _ HN.aa underlying100 rfl LX.aa ?_|fail);refine EU.aa.mono ?_;rintro e a1 ⟨A',fx,rfl,hs',ho',XW,hb1,hst⟩;have JD:=(hb1.block _ (ic HN.aa)).trans HN.aa;have RR:Hid ((prog.info? 100).map (·.size)=some A'.size):=ac (by rw[hs'];exact yJ);have Sn:=ac (fB.aa.trans hs'.symm);have Sd:=ac ho';have dH:=ac JD;have Sw:=ac XW;have bD:=ac hb1;have HST:=ac hst;clear hs' ho' JD XW hb1 hst EU;go_upto_region 8 with(first|refine yX rfl 100 (.tmp 9) (.tmp 36) rfl wr.heap.size A' rfl rfl 100 _ dH.aa RR.aa Sn.aa Sd.aa ?_|fail);generalize hY:World.setRow a1 wr.heap.size A'=Y;(obtain⟨Oo,BS,XG,VH⟩:Y.heap[wr.heap.size]?=some (.cells A' 100)/\Below wr.heap.size wr Y/\a1.heap.size<=Y.heap.size/\∀b,X.heap.size<=b->Y.heap[b]?=a1.heap[b]?:=by subst hY;have arB:=ic HN.aa;exact⟨yS _ _ _ _ _ _ dH.aa,ur (kG.aa.trans (bD.aa.mono kG.aa.size)) (aC _) _,by simp[World.setRow],λb hb=>setRow_other _ _ _ _ (by omega)⟩);have V3:=aB.aa i _ _ HS.aa BS;obtain⟨s1,s2⟩:=aT.aa Y (ai ⟨i,V3⟩);have c20:Y.cell? ⟨wr.heap.size,20,none⟩=some (.bool fx):=ar Oo Sw.aa;have abI:=ac Oo;have ST:=ac (HST.aa Y BS XG (λb h1 _=>VH b h1));clear hY Oo BS XG VH V3 HST dH HN kG bD Sw fB LX Sn Sd HS;clear a1 X;simp only[Act.put];cases fx;all_goals go_wp2_with(first|refine AK rfl 100 (.tmp 9) rfl wr.heap.size rfl 100 A' (0,0) _ abI.aa underlying100 rfl RR.aa ?_|fail);refine ST.aa.mono ?_;rintro e a3 ⟨rfl,fq⟩;have H2:=ac (CU.aa a3 (ai ⟨_,fq⟩));have gf:=ac fq;clear fq;go_wp2_with fail;refine H2.aa.mono ?_;rintro e a4 ⟨rfl,hb4⟩;have eW:=ac (aB.aa _ _ _ gf.aa hb4);clear hb4 gf H2;go_wp2_with fail;go_roundw;(case measure=>simp[intOf];omega);case rel=>exact⟨i+1,by go_num,by omega,eW.aa⟩
theorem ai0:(prog.info? 105).map (λi=>(i.zero,i.size,i.bytes))=some (some (.pointer none),1,8):=by kernel_rfl
theorem alJ(af m bj:Nat)(dm:Option Addr)(w:World)(hs:w.cell? ⟨af,0,none⟩=some (.slice none 0 0))(vB:Calls prog 13 #[.pointer (some ⟨af,0,none⟩)] w λe a1=>e=.returned (.bool true)/\Below w.heap.size w a1):Calls prog 17 #[.pointer (some ⟨af,0,none⟩),.slice dm m bj,.bool true] w λe w'=>e=.returned (.bool true)/\Below w.heap.size w w':=by
 have CU:=ac vB;clear vB;have h1:¬(0:Int)<(m:Int)\/(0:Int)<(m:Int):=by omega
 go_enter func17,ntmps17;rcases h1 with h1|h1;all_goals go_wp2_with fail;refine wp_loop_once ?_;go_wp2_with fail;refine wp_loop_once ?_;go_wp2_with fail;refine CU.aa.mono ?_;rintro e a1 ⟨rfl,hb⟩;have aB:=ac hb;clear hb;go_wp2_with fail;go_ret;exact⟨rfl,aB.aa⟩
theorem alg(af:Nat)(C c:Array Value)(w:World)(hbk:w.heap[af]?=some (.cells c 29))(hc0:c[0]?=some (.slice none 0 0))(hC:C.size=2)(Q:Nat->Nat->World->Prop)(lj:∀a,Below w.heap.size w a->Calls prog 43 #[.agg C] a λe a1=>∃gq,e=.returned (.tuple #[.pointer (some ⟨gq,0,none⟩),.int .i64 0])/\Below a.heap.size a a1/\∀a2,Below a1.heap.size a1 a2->Calls prog 44 #[.agg C] a2 λe a3=>∃gI,e=.returned (.pointer (some ⟨gI,0,none⟩))/\Below a2.heap.size a2 a3/\Q gq gI a3):Calls prog 16 #[.pointer (some ⟨af,0,none⟩),.agg C] w λe w'=>e=.returned (.bool true)/\∃(a3:World) (gq gI sb sr cap:Nat) (cur:Array Value),Q gq gI a3/\Below w.heap.size w a3/\a3.heap.size<=sb/\a3.heap.size<=sr/\sb≠sr/\w'.heap[sb]?=some (.cells #[.pointer (some ⟨gq,0,none⟩),.pointer (some ⟨gI,0,none⟩)] 107)/\w'.heap[sr]?=some (.cells cur 105)/\cur[0]?=some (.pointer (some ⟨sb,0,none⟩))/\w'.heap[af]?=some (.cells (c.setIfInBounds 0 (.slice (some ⟨sr,0,none⟩) 1 cap)) 29)/\But (λb=>b=af) a3 w':=by
 have nU:=ac lj;have hlb:=ic hbk;have ik:=ac hbk;have RB:=ac hc0;have AY:Hid ((prog.info? 40).map (·.size)=some C.size):=ac (by rw[hC];kernel_rfl);clear lj hbk hc0;go_enter func16,ntmps16;go_upto_region 1 with fail;generalize hW:w.alloc _=W;obtain⟨hN,hB⟩:=Es hW;have HN:=ac hN;have aB:=ac hB;clear hW hN hB;go_wp2_with(first|refine AK rfl 40 (.tmp 3) rfl w.heap.size rfl 40 C (0,0) _ HN.aa underlying40 rfl AY.aa ?_|fail);refine(nU.aa W aB.aa).mono ?_;rintro e a1 ⟨gq,rfl,hb1,hgo⟩;have dH:=ac ((hb1.block _ (ic HN.aa)).trans HN.aa);have bD:=ac (aB.aa.trans (hb1.mono aB.aa.size));have HG:=ac (hgo a1 (aN _ _));clear hb1 hgo HN aB nU;go_wp2_with(first|refine AK rfl 40 (.tmp 3) rfl w.heap.size rfl 40 C (0,0) _ dH.aa underlying40 rfl AY.aa ?_|fail);refine HG.aa.mono ?_;rintro e a3 ⟨gI,rfl,hb3,hQ⟩;have GL:=((bD.aa.trans (hb3.mono bD.aa.size)).block _ hlb).trans ik.aa;have c0:a3.cell? ⟨af,0,none⟩=some (.slice none 0 0):=ar GL RB.aa;have fz:a3.frozen? ⟨af,0,none⟩=false:=cM GL;have rT:=ic GL;have fy:=ac (bD.aa.trans (hb3.mono bD.aa.size));have aa0:=ac GL;have bH:=ac hQ;clear hb3 GL HG dH bD hQ;obtain⟨i0,hi0,hz0,hz1,hz2⟩:=fK ai0;go_wp2_with(first|(at_builtin;refine jx _ rfl (.tmp 22) (.tmp 27) 23 rfl a3.heap.size 105 i0 (.pointer none) 1 8 underlying23 hi0 hz0 hz1 hz2 rfl (by decide) (.slice none 0 0) 0 [] rfl (mG _ _ _ _) ⟨a3.heap.size+1,0,none⟩ 1 1 [.pointer (some ⟨a3.heap.size,0,none⟩)] rfl rfl (by rw[show a3.heap.size+1=(a3.alloc (.cells #[.pointer (some ⟨gq,0,none⟩),.pointer (some ⟨gI,0,none⟩)] 107)).heap.size by simp];exact uu _ _ _) ?c2 ?c3 ?c4 ?c5 ?_));case c2=>first|(intro u hu;simp at hu;subst hu;rfl)|rfl
 case c3=>unfold maxLen;omega
 case c4=>omega
 case c5=>simp;omega
 intro v8 w8 hown hgrow _ hloc;have gD:∀b,b<a3.heap.size+2->w8.heap[b]?=((a3.alloc (.cells #[.pointer (some ⟨gq,0,none⟩),.pointer (some ⟨gI,0,none⟩)] 107)).alloc (.cells #[.pointer (some ⟨a3.heap.size,0,none⟩)] 105)).heap[b]?:=λb hb=>hgrow.block b (by simp;omega) (by simp[Value.ownBlock]);obtain⟨g,cap,cur,hv,hgb,WZ,hcap,_,hcs,hct⟩:∃g cap cur,v8=.slice (some ⟨g,0,none⟩) 1 cap/\a3.heap.size<=g/\w8.heap[g]?=some (.cells cur 105 (0,0))/\1<=cap/\cap<=maxLen/\cur.size=cap*1/\cur.toList.take (1*1)=[.pointer (some ⟨a3.heap.size,0,none⟩)]:=hown.2.resolve_left (λh=>by cases h.2);subst hv;have hg2:g=a3.heap.size+2:=by rcases hloc with e|e;(·cases e);·simpa[Value.ownBlock]using e
 have mQ:w8.heap[a3.heap.size]?=some (.cells #[.pointer (some ⟨gq,0,none⟩),.pointer (some ⟨gI,0,none⟩)] 107):=(gD _ (by omega)).trans (heap_alloc2_old _ _ _);have hold:∀b,b<a3.heap.size->w8.heap[b]?=a3.heap[b]?:=λb hb=>(gD b (by omega)).trans ((cU _ _ _ (by simp;omega)).trans (cU _ _ _ hb));have JN:=(hold af rT).trans aa0.aa;have c8:w8.cell? ⟨af,0,none⟩=some (.slice none 0 0):=ar JN RB.aa;have f8:w8.frozen? ⟨af,0,none⟩=false:=cM JN;have hc0:cur[0]?=some (.pointer (some ⟨a3.heap.size,0,none⟩)):=by have:=bq (λl=>l[0]?) hct;simpa using this
 have nI:=hgrow.size;have cv:=ac (And.intro hg2 (And.intro mQ (And.intro hold (And.intro JN (And.intro WZ (And.intro hc0 (And.intro hgrow.os (And.intro hgrow.tape (And.intro hgrow.output nI)))))))));clear gD mQ hold JN WZ hcs hct hgrow hown hloc hg2 hgb hcap hc0 c0 fz nI;go_wp2_with fail;go_ret;obtain⟨e1,e2,e3,e4,e5,e6,e7,e8,e9,e10⟩:=cv.aa;refine⟨rfl,a3,gq,gI,a3.heap.size,g,cap,cur,bH.aa,fy.aa,aC _,by omega,by omega,(ck _ _ _ _ (by simp;omega)).trans e2,(ck _ _ _ _ (by simp;omega)).trans e5,e6,b6 _ e4,⟨e7,e8,e9,?_,λb hb hn=>(ck _ _ _ _ hn).trans (e3 b hb)⟩⟩;have:(w8.setCell ⟨af,0,none⟩ (.slice (some ⟨g,0,none⟩) 1 cap)).heap.size=w8.heap.size:=by simp[World.setCell]
 simp at e10;omega
theorem alf(af:Nat)(C:Array Value)(w:World)(hC:C.size=2)(lj:∀a,Below w.heap.size w a->Calls prog 43 #[.agg C] a λe a1=>e=.returned (.tuple #[.pointer none,.int .i64 1])/\Below a.heap.size a a1)(vC:∀a,Below w.heap.size w a->Calls prog 44 #[.agg C] a λe a1=>e=.returned (.pointer none)/\Below a.heap.size a a1):Calls prog 16 #[.pointer (some ⟨af,0,none⟩),.agg C] w λe w'=>e=.returned (.bool true)/\Below w.heap.size w w':=by have nU:=ac lj;have y8:=ac vC;have AY:Hid ((prog.info? 40).map (·.size)=some C.size):=ac (by rw[hC];kernel_rfl);clear lj vC;go_enter func16,ntmps16;go_upto_region 1 with fail;generalize hW:w.alloc _=W;obtain⟨hN,hB⟩:=Es hW;have HN:=ac hN;have aB:=ac hB;clear hW hN hB;go_wp2_with(first|refine AK rfl 40 (.tmp 3) rfl w.heap.size rfl 40 C (0,0) _ HN.aa underlying40 rfl AY.aa ?_|fail);refine(nU.aa W aB.aa).mono ?_;rintro e a1 ⟨rfl,hb1⟩;have dH:=ac ((hb1.block _ (ic HN.aa)).trans HN.aa);have bD:=ac (aB.aa.trans (hb1.mono aB.aa.size));have HG:=ac (y8.aa a1 bD.aa);clear hb1 HN aB nU y8;go_wp2_with(first|refine AK rfl 40 (.tmp 3) rfl w.heap.size rfl 40 C (0,0) _ dH.aa underlying40 rfl AY.aa ?_|fail);refine HG.aa.mono ?_;rintro e a3 ⟨rfl,hb3⟩;have fy:=ac (bD.aa.trans (hb3.mono bD.aa.size));clear hb3 HG dH bD;go_wp2_with fail;go_ret;exact⟨rfl,fy.aa⟩
def v0:Nat->Value:=λ_=>.slice none 0 0
theorem Tg{sv:Value}(h:w.heap[af]?=some (.cells (lb.wY sv v0) 29)):y5 af sv 0 0 0 (λb=>¬b≠af) w:=by
 refine⟨v0,λ_=>[],⟨⟨h,λk _=>mG _ _ _ _,λk k' _ _ _ b e=>(by cases e),λk hk=>?_,λk hk=>cm _,λk hk u hu=>(by cases hu)⟩,⟨rfl,rfl,rfl,rfl⟩,⟨rfl,rfl⟩,⟨rfl,rfl⟩,rfl⟩,?_⟩;·exact λi u hu=>(by simp at hu)
 ·funext b;simp[lb.fR,lb.Df,v0,Value.ownBlock]
structure Lv (N:Nat) (af:Nat) (w:World) (Z:Pl) (sr mX:Nat) (cur:Array Value):Prop where
 ok:Z.ok
 n:Z.N=N
 hb:Z.af=af
 sv:Z.sv=.slice (some ⟨sr,0,none⟩) 1 mX
 dW:Z.dW=fun x=>if x=sr then some (.cells cur 105) else if x < w.heap.size∧x≠af then w.heap[x]? else none
 c0:cur[0]?=some (.pointer (some ⟨Z.sb,0,none⟩))
 gd:Z.D.N0=N
 sr:w.heap.size≤sr
 io:Z.Kz.os=w.os∧Z.Kz.output=w.output
theorem Y4(hg:kE N bW bc w)(jN:N<=af)(hbk:w.heap[af]?=some (.cells (lb.wY (.slice none 0 0) v0) 29))(win:Int)(bf:Nat)(h1:1<=win/\win<=8)(h2:bf<=8):Calls prog 16 #[.pointer (some ⟨af,0,none⟩),.agg #[.int .i64 win,.int .i64 (bf:Int)]] w λe w'=>e=.returned (.bool true)/\∃Z sr mX cur,Lv N af w Z sr mX cur/\Z.D.bW=bW/\Z.D.bc=bc/\dN Z dx 0 0 0 w':=by
 have DI:=hg.env.size;have hlb:=ic hbk;let P0:bb:=⟨N,w.heap.size,bW,bc,0,win,bf,none⟩;refine(alg af _ _ w hbk rfl rfl (λgq gI a3=>∃F G,nj {P0 with B:=gq} dx F a3/\jz {P0 with B:=gI} dx [] G a3/\(∀b,F b->w.heap.size<=b)/\(∀b,G b->w.heap.size<=b/\¬F b)) (λa hb=>?_)).mono ?_;·refine(alz P0 win bf a (hg.below (hb.mono DI)) ⟨rfl,rfl⟩ hb.size h1 h2).mono ?_;rintro e a1 ⟨B,F,rfl,hb1,hR,hF⟩;refine⟨B,rfl,hb1,λa2 hb2=>?_⟩;refine(aeJ P0 win bf a2 (hg.below ((hb.trans ((hb1.mono hb.size).trans (hb2.mono (bi hb.size hb1.size)))).mono DI)) h1 ⟨by omega,by omega⟩).mono ?_;rintro e a3 ⟨B',G,rfl,hb3,hD,hG⟩;refine⟨B',rfl,hb3,F,G,?_,hD,λb h=>bi hb.size (hF b h),λb h=>⟨?_,λhf=>?_⟩⟩;(·exact(uT _ _).ah F (λ_=>False) _ _ ((uT _ _).ah F (λ_=>False) _ _ hR (But.of_below hb2) (λ_ f=>f.elim)) (But.of_below hb3) (λ_ f=>f.elim));(·exact bi (bi hb.size (bi hb1.size hb2.size)) (hG b h));·have:=(uT _ _).lt _ _ hR b hf;have:=hG b h;have:=hb2.size;omega
 ·rintro e w' ⟨rfl,a3,gq,gI,sb,sr,cap,cur,⟨F,G,hR,hD,hF,hG⟩,hb,vL,lA,hne,i1,i2,i3,i4,i5⟩;have hsz:=hb.size;let Z:Pl:=⟨{P0 with B:=gq},{P0 with B:=gI},N,af,sb,.slice (some ⟨sr,0,none⟩) 1 cap,λx=>if x=sr then some (.cells cur 105)else if x<w.heap.size/\x≠af then w.heap[x]? else none,w⟩;have G0:∀x,F x->x<a3.heap.size:=λx hx=>(uT _ _).lt _ _ hR x hx;have Aq:∀x,G x->x<a3.heap.size:=λx hx=>(Dv _ _ _).lt _ _ hD x hx;refine⟨rfl,Z,sr,cap,cur,⟨⟨⟨rfl,rfl⟩,hlb,rfl,h2,by show N<=sb;omega⟩,rfl,rfl,rfl,rfl,i3,rfl,by omega,⟨rfl,rfl⟩⟩,rfl,rfl,⟨⟨F,G,_,⟨?_,?_,Tg (sv:=.slice (some ⟨sr,0,none⟩) 1 cap) (by simpa[lb.wY]using i4),i1,λx hx=>⟨λg=>(hG x g).2 hx,λb=>b (by have:=hF x hx;show x≠af;omega),by have:=G0 x hx;show x≠sb;omega⟩,λx hx=>⟨λb=>b (by have:=(hG x hx).1;show x≠af;omega),by have:=Aq x hx;show x≠sb;omega⟩,λx hx=>?_,⟨lU.nil _,List.Pairwise.nil⟩,λx hx=>(yP hx).elim,λx o hx=>?_,⟨i5.os.trans hb.os,i5.output.trans hb.output⟩⟩⟩,hok0,afq,anN⟩⟩;(·exact(uT _ _).ah F (λb=>b=af) _ _ hR i5 (λx hx=>⟨λf=>by have:=hF x f;omega,by rw[hx];exact jN⟩));(·exact(Dv _ _ _).ah G (λb=>b=af) _ _ hD i5 (λx hx=>⟨λf=>by have:=(hG x f).1;omega,by rw[hx];exact jN⟩));(·have hx:x=af:=y9.1 hx;exact⟨by rw[hx];exact jN,by rw[hx];show af≠sb;omega⟩);·have hx:(if x=sr then some (.cells cur 105)else if x<w.heap.size/\x≠af then w.heap[x]? else none)=some o:=hx;split at hx;(·rename_i e;cases hx;exact⟨by rw[e];exact i2,λf=>by have:=G0 x f;omega,λf=>by have:=Aq x f;omega,λf=>f (by show x≠af;omega),λf=>yP f⟩);·split at hx;(·rename_i e;exact⟨(i5.ah x (by omega) e.2).trans ((hb.block x e.1).trans hx),λf=>by have:=hF x f;omega,λf=>by have:=(hG x f).1;omega,λf=>f e.2,λf=>yP f⟩);·cases hx
end lt
namespace lt
open Go.RowKit aD av aM br dr cT
open rd (bA)
def wP(N:Nat)(w a:World):Prop:=N<=a.heap.size/\∀b,b<N->a.heap[b]?=w.heap[b]?
theorem Eo(hN:N<=w.heap.size)(hk:∀b,b<N->a.heap[b]?=w.heap[b]?):wP N w a:=by refine⟨?_,hk⟩;cases hz:N with|zero=>omega|succ n=>have:=hk n (by omega);rw[yZ (show n<w.heap.size by omega)]at this;have:=ic this;omega
theorem UK(h:kD w v fs)(hs:w.heap.size<=a.heap.size)(hk:∀b,b<w.heap.size->v.ownBlock=some b->a.heap[b]?=w.heap[b]?):kD a v fs:=by obtain⟨q,cap,h1,h2,h3⟩:=h;refine⟨q,cap,h1,h2,λj f hj=>?_⟩;obtain⟨g,o,e,hg,i1,i2⟩:=h3 j f hj;have hb:=hk g hg (by rw[h1,e];rfl);exact⟨g,o,e,by omega,(eo (w:=w) hb).trans i1,(eo (w:=w) hb).trans i2⟩
theorem ajb(h:mD w v cs)(hs:w.heap.size<=a.heap.size)(hk:∀b,b<w.heap.size->a.heap[b]?=w.heap[b]?):mD a v cs:=by obtain⟨q,cap,h1,h2,h3⟩:=h;refine⟨q,cap,h1,h2,λj f hj=>?_⟩;obtain⟨g,o,e,hg,i1⟩:=h3 j f hj;exact⟨g,o,e,by omega,(eo (w:=w) (hk g hg)).trans i1⟩
structure FM (w:World) (o:fT):Prop where
 aJ:∃ fs,kD w o.p.fv fs∧fs.length≤1048576
 zQ:∃ cs,mD w o.p.ae cs
 NI:∀ a n c,o.p.fv=.slice a n c→n≤c
 cc:∀ a n c,o.p.ae=.slice a n c→n≤c
 ah:qz o.p.ah
 id:qz o.p.id
 s:o.s.length≤1000000000
def Dg(w:World)(q:Option Addr)(os:List fT):Prop:=∀i o,os[i]?=some o->(∃g k,q=some ⟨g,k,none⟩/\g<w.heap.size/\w.rangeAt g (k+i*21) (cW o).toList)/\FM w o
theorem Hs(o:fT):(cW o).size=21:=by simp[cW,bw]
theorem Ql(o:fT)(h1:∃a b c,o.p.fv=.slice a b c)(h2:∃a b c,o.p.ae=.slice a b c):(cW o).all (·.oneCell')=true:=by obtain⟨a,b,c,h1⟩:=h1;obtain⟨d,e,f,h2⟩:=h2;simp[cW,bw,h1,h2,Value.oneCell']
theorem Y3(o:fT):(cW o)[20]?=some (.bool o.which):=by simp[cW,bw]
theorem apW(w:World):MB w wy:=⟨⟨[],BQ w⟩,⟨[],Ek w⟩,λa n c e=>(by cases e;exact aC _),λa n c e=>(by cases e;exact aC _),⟨by decide,by decide⟩,⟨by decide,by decide⟩,λe=>(by cases e),⟨by decide,by decide⟩,by decide⟩
theorem acS{w0 wa:World}(hB:Lv N af w0 Z sr mX cur)(hN:wa.heap.size=N)(DG:N<=af/\wP N wa w0){q:Option Addr}(hs:Dg wa q os)(hS:dN Z H n1 n2 n5 a):Dg a q os:=by
 subst hN;have fC:wP wa.heap.size wa a:=by obtain⟨F,G,B,hD⟩:=hS.duo;(have hk:∀b,b<wa.heap.size->a.heap[b]?=wa.heap[b]?:=λb hb=>by have hb0:=DG.2.2 b hb;have hsome:wa.heap[b]?=some wa.heap[b]:=yZ hb;(have hne:b≠sr:=by have:=hB.sr;have:=DG.2.1;omega);(have:Z.dW b=some wa.heap[b]:=by rw[hB.dW];simp only;rw[au hne,ax ⟨by have:=DG.2.1;omega,by omega⟩,hb0,hsome]);rw[(hD.k b _ this).1,hsome]);exact Eo (aC _) hk
 exact λi o ho=>by obtain⟨⟨g,k,e1,e2,e3⟩,hA⟩:=hs i o ho;obtain⟨fs,hf,hfl⟩:=hA.aJ;obtain⟨cs,hc⟩:=hA.zQ;exact⟨⟨g,k,e1,cw e2 fC.1,λj v hj=>(eo (w:=wa) (fC.2 g e2)).trans (e3 j v hj)⟩,⟨fs,UK hf fC.1 (λb hl _=>fC.2 b hl),hfl⟩,⟨cs,ajb hc fC.1 fC.2⟩,hA.NI,hA.cc,hA.ah,hA.id,hA.s⟩
theorem Z5(hok:Z.ok)(XJ:Z.sv=.slice (some ⟨sr,0,none⟩) 1 mX)(D3:Z.dW sr=some (.cells cur 105))(hc0:cur[0]?=some (.pointer (some ⟨Z.sb,0,none⟩)))(h:dN Z dx 0 0 0 w)(q:Option Addr)(bj:Nat)(os:List fT)(hs:∀{H n1 n2 n5 a},dN Z H n1 n2 n5 a->Dg a q os)(hm:os.length<=1048576):Calls prog 17 #[.pointer (some ⟨Z.af,0,none⟩),.slice q os.length bj,.bool true] w λe w'=>e=.returned (.bool true)/\∃H n1 n2 n5,dN Z H n1 n2 n5 w':=by
 have mP:∀{H n1 n2 n5 a},dN Z H n1 n2 n5 a->a.cell? ⟨Z.af,0,none⟩=some (.slice (some ⟨sr,0,none⟩) 1 mX)/\a.cell? ⟨sr,0,none⟩=some (.pointer (some ⟨Z.sb,0,none⟩)):=λ{H n1 n2 n5 a} hS=>by obtain⟨F,G,B,hD⟩:=hS.duo;obtain⟨v,xs,hT,_⟩:=hD.b;refine⟨?_,ar (hD.k sr _ D3).1 hc0⟩;rw[<-XJ];exact ar hT.fI.blk rfl
 let S:Nat->World->Prop:=λi a=>∃H n1 n2 n5,dN Z H n1 n2 n5 a/\rG H/\H.now<=100000*(i:Int)/\n1<=24000*i/\n2<=8*i/\n5<=2*i;let E:World->Prop:=λa=>∃H n1 n2 n5,dN Z H n1 n2 n5 a;refine(alK Z.af Z.sb sr mX os.length bj q w (λi=>cW (os.getD i wy)) S E hm ⟨dx,0,0,0,h,λ_ _ e=>(by cases e),by simp[dx],by omega,by omega,by omega⟩ (λi a a' ⟨H,n1,n2,n5,i1,i2⟩ hb=>⟨H,n1,n2,n5,i1.below hb,i2⟩) (λa ha=>?_) (λi a hi hS=>?_) (λi w1 a hi hS hb=>?_) (λa ha=>?_) (λa hS=>?_)).mono ?_;·rcases ha with⟨i,H,n1,n2,n5,i1,_⟩|⟨H,n1,n2,n5,i1⟩;(·exact mP i1);·exact mP i1
 ·obtain⟨H,n1,n2,n5,i1,_⟩:=hS;(have ho:os[i]?=some (os.getD i wy):=by rw[zz,cS hi];rfl);generalize os.getD i wy=o at ho⊢;obtain⟨⟨g,k,e1,e2,e3⟩,hA⟩:=hs i1 i o ho;refine⟨g,k,e1,e3,Hs o,Ql o ?_ ?_⟩;(·obtain⟨fs,⟨_,_,e,_⟩,_⟩:=hA.aJ;exact⟨_,_,_,e⟩);·obtain⟨cs,_,_,e,_⟩:=hA.zQ;exact⟨_,_,_,e⟩
 ·obtain⟨H,n1,n2,n5,i1,i2,i3,i4,i5,aiF⟩:=hS;(have ho:os[i]?=some (os.getD i wy):=by rw[zz,cS hi];rfl);generalize os.getD i wy=o at ho⊢;have hA:=(hs (i1.below hb) i o ho).2;obtain⟨fs,hf,hfl⟩:=hA.aJ;obtain⟨cs,hc⟩:=hA.zQ;(have aQ:∃a b c,o.p.fv=.slice a b c:=by obtain⟨_,_,e,_⟩:=hf;exact⟨_,_,_,e⟩);(have hcv:∃a b c,o.p.ae=.slice a b c:=by obtain⟨_,_,e,_⟩:=hc;exact⟨_,_,_,e⟩);(have hstep:∀(o':fT) a2,Below w1.heap.size w1 a2->MB a2 o'->Calls prog 46 #[.pointer (some ⟨Z.af,0,none⟩),.pointer (some ⟨Z.sb,0,none⟩),.agg (cW o')] a2 λe a3=>e=.returned (.bool true)/\S (i+1) a3:=λo' a2 hb2 J8=>by refine(am8 hok (i1.below hb2) i2 o' J8 (by omega) (by omega) (by omega) (by omega)).mono ?_;rintro e a3 ⟨rfl,H',m1,m2,m5,j1,j2,ma,qX,El,ajo⟩;exact⟨rfl,H',m1,m2,m5,El,ajo,by omega,by omega,by omega,by omega⟩);by_cases hbad:CS o;(·refine(alH o a aQ hcv hbad).mono ?_;rintro e a1 ⟨rfl,hb1⟩;exact⟨_,false,rfl,Hs _,Ql _ ⟨_,_,_,rfl⟩ ⟨_,_,_,rfl⟩,Y3 _,hb1,λa2 hb2 _ _=>hstep wy a2 hb2 (apW a2)⟩);·refine(alI o fs a hf hfl hcv hbad).mono ?_;rintro e a1 ⟨fv,rfl,hF,hcap,hnew,hb1⟩;(have ahB:∃a b c,fv=.slice a b c:=by obtain⟨_,_,e,_⟩:=hF;exact⟨_,_,_,e⟩);refine⟨_,o.which,rfl,Hs _,Ql _ ahB hcv,Y3 _,hb1,λa2 hb2 hs2 hk2=>hstep _ a2 hb2 ?_⟩;refine⟨⟨_,UK hF hs2 (λb hl e=>hk2 b (hnew b e) hl)⟩,(hs (i1.below hb2) i o ho).2.zQ,hcap,hA.cc,hA.ah,hA.id,λe=>⟨rfl,rfl,rfl,λhk=>hbad (ag (ag ⟨e,hk⟩))⟩,?_,hA.s⟩;unfold CS at hbad;show o.kind<=6/\o.kind≠2;omega
 ·rcases ha with⟨i,H,n1,n2,n5,i1,_⟩|⟨H,n1,n2,n5,i1⟩;(·exact Z3 i1);·exact Z3 i1
 ·obtain⟨H,n1,n2,n5,i1,i2,i3,i4,i5,aiF⟩:=hS;refine(am4 hok i1 (by omega) (by omega)).mono ?_;rintro e a1 ⟨rfl,H',m1,m2,hS⟩;exact⟨rfl,H',m1,m2,n5,hS⟩
 ·rintro e w' ⟨rfl,a,⟨H,n1,n2,n5,i1⟩,hb⟩;exact⟨rfl,H,n1,n2,n5,i1.below hb⟩
theorem U3{α:Type}(n:Nat)(f:α->List Value)(h:∀a,(f a).length=n):∀(l:List α)(k j:Nat)(a:α),l[k]?=some a->j<n->(l.flatMap f)[k*n+j]?=(f a)[j]?|x::l,0,j,a,hk,hj=>by cases hk;rw[nb,Nat.zero_mul,iW,vr (by rw[h];exact hj)]|x::l,k+1,j,a,hk,hj=>by rw[nb,rD (by rw[h,Nat.succ_mul];omega),h,show(k+1)*n+j-n=k*n+j by rw[Nat.succ_mul];omega];exact U3 n f h l k j a hk hj
def CF(b:Nat):List fT:=[⟨3,0,0,0,[],bA,false⟩,⟨1,0,0,0,[],{bA with kind:=1,aR:=true,aq:=[99]},false⟩,⟨1,0,0,0,[],{bA with kind:=8,id:=5,fv:=.slice (some ⟨b,0,none⟩) 1 1},false⟩,⟨1,0,0,0,[],{bA with kind:=3,ak:=[97],az:=[104,105]},false⟩]
theorem amx(h:w.heap[g]?=some (.cells (os.flatMap λo=>(cW o).toList).toArray 100))(i:Nat)(o:fT)(ho:os[i]?=some o):w.rangeAt g (0+i*21) (cW o).toList:=λj v hj=>by
 have hl:j<21:=by have:=(dw.1 hj).1;rw[ES,Hs]at this;exact this
 refine ar h ?_;rw[zB,iW,U3 21 _ (λa=>by rw[ES,Hs]) os i j o ho hl];exact hj
theorem amw(h1:w.heap[b]?=some (.cells #[.string (bs [97]),.int .i64 0] 95))(h2:w.heap[g]?=some (.cells ((CF b).flatMap λo=>(cW o).toList).toArray 100)):Dg w (some ⟨g,0,none⟩) (CF b):=λi o ho=>by
 refine⟨⟨g,0,rfl,ic h2,amx h2 i o ho⟩,?_⟩;have hf:kD w (.slice (some ⟨b,0,none⟩) 1 1) [([97],0)]:=⟨_,1,rfl,(by unfold maxLen;decide),λj f hj=>by cases j with|zero=>cases hj;exact⟨b,0,rfl,ic h1,ar h1 rfl,ar h1 rfl⟩|succ j=>simp at hj⟩;have hn:kD w (.slice none 0 0) []:=BQ w;have hi:mD w (.slice none 0 0) []:=Ek w;have key:∀o:fT,(o.p.fv=.slice none 0 0\/o.p.fv=.slice (some ⟨b,0,none⟩) 1 1)->o.p.ae=.slice none 0 0->o.p.ah=0->(o.p.id=0\/o.p.id=5)->o.s=[]->FM w o:=λo e1 e2 e3 e4 e5=>by refine⟨?_,⟨[],by rw[e2];exact hi⟩,λa n c e=>?_,λa n c e=>(by rw[e2]at e;cases e;exact aC _),(by rw[e3];exact⟨by decide,by decide⟩),(by rcases e4 with e|e<;>rw[e]<;>exact⟨by decide,by decide⟩),(by rw[e5];decide)⟩;(·rcases e1 with e|e;(·exact⟨[],by rw[e];exact hn,by decide⟩);·exact⟨_,by rw[e];exact hf,by decide⟩);·rcases e1 with e1|e1<;>rw[e1]at e<;>cases e<;>exact aC _
 match i,ho with|0,ho=>cases ho;exact key _ (ai rfl) rfl rfl (ai rfl) rfl|1,ho=>cases ho;exact key _ (ai rfl) rfl rfl (ai rfl) rfl|2,ho=>cases ho;exact key _ (ag rfl) rfl rfl (ag rfl) rfl|3,ho=>cases ho;exact key _ (ai rfl) rfl rfl (ai rfl) rfl|n+4,ho=>simp[CF]at ho
theorem agl(w:World)(S:World->Prop)(Q:World->Prop)(ja:∀a,Below w.heap.size w a->a.heap[w.heap.size]?=some (.cells (lb.wY (.slice none 0 0) v0) 29)->Calls prog 16 #[.pointer (some ⟨w.heap.size,0,none⟩),.agg #[.int .i64 1,.int .i64 1]] a λe a1=>e=.returned (.bool true)/\S a1)(hr:∀a,S a->∃q k,a.cell? ⟨w.heap.size,0,none⟩=some (.slice q 1 k))(jb:∀a a1 b,S a->Below a.heap.size a a1->a.heap.size<=b->a1.heap[b]?=some (.cells #[.string (bs [97]),.int .i64 0] 95)->a1.heap[b+1]?=some (.cells ((CF b).flatMap λo=>(cW o).toList).toArray 100)->Calls prog 17 #[.pointer (some ⟨w.heap.size,0,none⟩),.slice (some ⟨b+1,0,none⟩) 4 4,.bool true] a1 λe a2=>e=.returned (.bool true)/\Q a2):Calls prog 15 #[] w λe w'=>e=.returned (.bool true)/\Q w':=by have Rl:=ac ja;have aT:=ac hr;have tV:=ac jb;clear ja hr jb;go_enter func15,ntmps15;go_upto_region 2 with fail;generalize hW:w.alloc _=W;obtain⟨hN,hB⟩:=Es hW;have Rm:=ac (Rl.aa W hB hN);clear hW hN hB Rl;go_wp2_with fail;refine Rm.aa.mono ?_;rintro e a1 ⟨rfl,hS⟩;obtain⟨q,k,c0⟩:=aT.aa _ hS;have EU:=ac (λa2 b=>tV.aa a1 a2 b hS);clear hS tV aT Rm;go_upto_region 6 with fail;generalize hX:World.alloc (World.alloc a1 _) _=X;obtain⟨i1,i2,i3,_⟩:=EF hX;have Rn:=ac (EU.aa X a1.heap.size i3 (aC _) i1 (i2.trans (by kernel_rfl)));clear hX i1 i2 i3 EU;go_wp2_with fail;refine Rn.aa.mono ?_;rintro e a2 ⟨rfl,hQ⟩;have bH:=ac hQ;clear hQ Rn;go_wp2_with fail;go_ret;exact⟨rfl,bH.aa⟩
theorem am7(hS:dN Z H n1 n2 n5 w):w.cell? ⟨Z.af,0,none⟩=some Z.sv:=by obtain⟨F,G,B,hD⟩:=hS.duo;obtain⟨v,xs,hT,_⟩:=hD.b;exact ar hT.fI.blk rfl
theorem NZ {N:Nat} {bW bc:Addr} {w:World} (hg:kE N bW bc w) :
 Calls prog 15 #[] w fun e w'=>e=.returned (.bool true)∧kE N bW bc w'∧wP w.heap.size w w'∧w'.os=w.os∧w'.output=w.output:=by
 have DI:=hg.env.size
 refine agl w (fun a1=>∃ a Z sr mX cur,Below w.heap.size w a∧Lv N w.heap.size a Z sr mX cur∧Z.D.bW=bW∧Z.D.bc=bc∧dN Z dx 0 0 0 a1) _ (fun a hb hbk=>?_) (fun a hS=>?_) (fun a a1 b hS hb hn h1 h2=>?_)
 · refine (Y4 (hg.below (hb.mono DI)) DI hbk 1 1 ⟨by decide,by decide⟩ (by decide)).mono ?_
   rintro e a1 ⟨rfl,Z,sr,mX,cur,hB,e1,e2,hS⟩
   exact ⟨rfl,a,Z,sr,mX,cur,hb,hB,e1,e2,hS⟩
 · obtain ⟨a0,Z,sr,mX,cur,hb0,hB,e1,e2,hS⟩:=hS
   have:=am7 hS
   rw [hB.hb,hB.sv] at this
   exact ⟨_,_,this⟩
 · obtain ⟨a0,Z,sr,mX,cur,hb0,hB,e1,e2,hS⟩:=hS
   have D3:Z.dW sr=some (.cells cur 105):=by rw [hB.dW];exact ax rfl
   have Pe:sr < a.heap.size:=by
    obtain ⟨F,G,B,hD⟩:=hS.duo
    exact ic (hD.k sr _ D3).1
   have hs0:=hb0.size
   have lA:=hB.sr
   obtain ⟨zG,ez⟩:∃ O,O=Obj.cells #[.string (bs [97]),.int .i64 0] 95:=⟨_,rfl⟩
   obtain ⟨rF,iN⟩:∃ O,O=Obj.cells ((CF b).flatMap fun o=>(cW o).toList).toArray 100:=⟨_,rfl⟩
   rw [← ez] at h1
   rw [← iN] at h2
   have jZ:=hS.ail hb (b:=b) (c:=b+1) ⟨hn,by omega⟩ h1 h2
   have Xe:∀ x,x < a.heap.size→((Z.hold b zG).hold (b+1) rF).dW x=Z.dW x:=fun x hx=>(Pp (by omega)).trans (Pp (by omega))
   have:=Z5 (w:=a1) ((hB.ok.hold b zG).hold (b+1) rF) hB.sv ((Xe sr Pe).trans D3) hB.c0 jZ (some ⟨b+1,0,none⟩) 4 (CF b) (fun {H n1 n2 n5 a'} kQ=>by
    obtain ⟨F,G,B,hD⟩:=kQ.duo
    exact amw (ez ▸ (hD.k b zG ((Pp (by omega)).trans Xy)).1) (iN ▸ (hD.k (b+1) rF Xy).1)) (by simp [CF])
   rw [show ((Z.hold b zG).hold (b+1) rF).af=w.heap.size from hB.hb] at this
   refine this.mono ?_
   rintro e a2 ⟨rfl,H,n1,n2,n5,fq⟩
   obtain ⟨F,G,B,hD⟩:=fq.duo
   refine ⟨rfl,?_,Eo (aC _) fun x hx=>?_,(hD.io.1.trans hB.io.1).trans hb0.os,(hD.io.2.trans hB.io.2).trans hb0.output⟩
   · obtain ⟨V,hV,_⟩:=hD.d
     have:=hV.gd
     rw [show ((Z.hold b zG).hold (b+1) rF).D=Z.D from rfl,hB.gd,e1,e2] at this
     exact this
   · have hsome:w.heap[x]?=some w.heap[x]:=yZ hx
     have hz:Z.dW x=some w.heap[x]:=by
      rw [hB.dW]
      simp only
      rw [au (by omega),ax ⟨by omega,by omega⟩,hb0.block x hx,hsome]
     rw [(hD.k x _ ((Xe x (by omega)).trans hz)).1,hsome]
end lt
namespace lt
open Go.RowKit aD av aM br dr cT
theorem anO(w:World)(C:Array Value)(hC:C.size=2)(sc:Value)(Q:World->Prop)(cr:∀a af,Below w.heap.size w a->w.heap.size<=af->a.heap[af]?=some (.cells (lb.wY (.slice none 0 0) v0) 29)->Calls prog 15 #[] a λe a1=>e=.returned (.bool true)/\wP a.heap.size a a1/\Calls prog 16 #[.pointer (some ⟨af,0,none⟩),.agg C] a1 λe a2=>e=.returned (.bool true)/\Calls prog 17 #[.pointer (some ⟨af,0,none⟩),sc,.bool true] a2 λe a3=>e=.returned (.bool true)/\Q a3):Calls prog 5 #[.agg C,sc] w λe w'=>e=.returned (.bool true)/\Q w':=by have nT:=ac cr;have AY:Hid ((prog.info? 40).map (·.size)=some C.size):=ac (by rw[hC];kernel_rfl);clear cr;go_enter func5,ntmps5;go_upto_region 2 with fail;generalize hW:World.alloc (World.alloc w _) _=W;obtain⟨i1,i2,i3,i4⟩:=EF hW;have Ri:=ac (nT.aa W (w.heap.size+1) i3 (Nat.le_succ _) i2);have HN:=ac i1;clear hW i1 i2 i3 i4 nT;go_wp2_with fail;refine Ri.aa.mono ?_;rintro e a1 ⟨rfl,hk,hO⟩;have dH:=ac ((hk.2 _ (ic HN.aa)).trans HN.aa);have HO:=ac hO;clear hk hO Ri HN;go_wp2_with(first|refine AK rfl 40 (.tmp 2) rfl w.heap.size rfl 40 C (0,0) _ dH.aa underlying40 rfl AY.aa ?_|fail);refine HO.aa.mono ?_;rintro e a2 ⟨rfl,hP⟩;have dv:=ac hP;clear hP HO dH;go_wp2_with fail;refine dv.aa.mono ?_;rintro e a3 ⟨rfl,hQ⟩;have bH:=ac hQ;clear hQ dv;go_wp2_with fail;go_ret;exact⟨rfl,bH.aa⟩
theorem Le {bW bc:Addr} {w:World} (hg:kE w.heap.size bW bc w) (win bf:Int) (q:Option Addr) (bj:Nat) (os:List fT) (hs:Dg w q os) (hm:os.length≤1048576) :
 Calls prog 5 #[.agg #[.int .i64 win,.int .i64 bf],.slice q os.length bj] w fun e w'=>e=.returned (.bool true)∧wP w.heap.size w w'∧w'.os=w.os∧w'.output=w.output:=by
 refine anO w _ rfl _ _ fun a af hb jN hbk=>?_
 have DI:=hb.size
 have hlb:=ic hbk
 refine (NZ (hg.below hb)).mono ?_
 rintro e a1 ⟨rfl,hg1,hk1,Xx,J8⟩
 have OO:=(hk1.2 af hlb).trans hbk
 refine ⟨rfl,hk1,?_⟩
 by_cases hc:(1≤win∧win≤8)∧0≤bf∧bf≤8
 · obtain ⟨n,hn⟩:∃ n:Nat,bf=(n:Int):=⟨bf.toNat,by omega⟩
   subst hn
   refine (Y4 hg1 jN OO win n hc.1 (by omega)).mono ?_
   rintro e a2 ⟨rfl,Z,sr,mX,cur,hB,e1,e2,hS⟩
   refine ⟨rfl,?_⟩
   have D3:Z.dW sr=some (.cells cur 105):=by rw [hB.dW];exact ax rfl
   have Ao:wP w.heap.size w a1:=Eo (aC _) fun b hl=>(hk1.2 b (by omega)).trans (hb.block b hl)
   have:=Z5 hB.ok hB.sv D3 hB.c0 hS q bj os (fun {H n1 n2 n5 a'} kQ=>acS hB rfl ⟨jN,Ao⟩ hs kQ) hm
   rw [hB.hb] at this
   refine this.mono ?_
   rintro e a3 ⟨rfl,H,n1,n2,n5,fq⟩
   obtain ⟨F,G,B,hD⟩:=fq.duo
   refine ⟨rfl,Eo (aC _) fun x hx=>?_,((hD.io.1.trans hB.io.1).trans Xx).trans hb.os,((hD.io.2.trans hB.io.2).trans J8).trans hb.output⟩
   have hsome:w.heap[x]?=some w.heap[x]:=yZ hx
   have hz:Z.dW x=some w.heap[x]:=by
    rw [hB.dW]
    simp only
    rw [au (by have:=hB.sr;have:=Ao.1;omega),ax ⟨by have:=Ao.1;omega,by omega⟩,Ao.2 x hx,hsome]
   rw [(hD.k x _ hz).1,hsome]
 · have Ao:wP w.heap.size w a1:=Eo (aC _) fun b hl=>(hk1.2 b (by omega)).trans (hb.block b hl)
   have hbad:IZ win bf:=by unfold IZ;omega
   refine (alf af _ a1 rfl (fun a2 hb2=>(YO win bf a2 hbad).1) (fun a2 hb2=>(YO win bf a2 hbad).2)).mono ?_
   rintro e a2 ⟨rfl,hb2⟩
   refine ⟨rfl,?_⟩
   have hbk2:=(hb2.block af (ic OO)).trans OO
   obtain ⟨v,xs,hT,_⟩:=Tg hbk2
   exact (alJ af os.length bj q a2 (ar hbk2 rfl) (lb.PX a2 af _ v xs hT.fI hT.no.1 hT.no.2.1 hT.no.2.2.1 hT.no.2.2.2)).mono fun e a3 ⟨h,hb3⟩=>⟨h,Eo (aC _) fun x hx=>(hb3.block x (by have:=hb2.size;have:=Ao.1;omega)).trans ((hb2.block x (by have:=Ao.1;omega)).trans (Ao.2 x hx)),((hb3.os.trans hb2.os).trans Xx).trans hb.os,((hb3.output.trans hb2.output).trans J8).trans hb.output⟩
end lt
namespace told
open Go.RowKit aD av aM lt Go.ChangeShapes Go.WideShapes
open cT (kD mD qz)
open rd (aL)
section
variable {H:Type}
theorem adh(d:DataW H):1<=Rows.uptoBulk d:=by cases d with|lit l=>cases l<;>simp[Rows.uptoBulk]|_=>simp[Rows.uptoBulk]
theorem M0:∀l:List (DataW H),l.length<=Rows.uptoBulkAll l|[]=>cm _|d::r=>by have:=adh d;have:=M0 r;simp only[Rows.uptoBulkAll,dL];omega
theorem Tj:∀(l:List (DataW H))(d:DataW H),d∈l->Rows.uptoBulk d<=Rows.uptoBulkAll l|[],d,h=>by simp at h|e::r,d,h=>by simp only[Rows.uptoBulkAll];rcases qA.1 h with rfl|h;(·omega);·have:=Tj r d h;omega
def aac:Value->List UInt8| .string s=>s.data.toList|_=>[]
def YS:Value->Int| .int _ n=>n|_=>0
theorem X0{n:Int}(h:(Lit.int .i64 n).wf=true):qz n:=by have:=(Lit.wf_int_iff .i64 n).1 h;unfold qz;simpa[IntKind.min,IntKind.max,IntKind.signed,IntKind.bits]using this
theorem Bv(g o j:Nat):(⟨g,o,none⟩:Addr).add j=⟨g,o+j,none⟩:=by simp[Addr.add]
variable {enc:TypeId×Value→H} {W:World}
theorem ak8{x:DataW H×List MemPlace}(h:DataW.trod enc prog W 0 (λ_=>true) true fuel 33 [v]=some x):∃fs,kD W v fs/\(Rows.uptoBulk x.1<=1048576->fs.length<=1048576)/\∀a n c,v=.slice a n c->n<=c:=by
 rcases Deep.open_slice_pairs underlying33 underlying95 (by kernel_rfl) rfl rfl (by kernel_rfl) (by kernel_rfl) h with⟨h0,_⟩|⟨a,len,cap,m,n,V0,V1,D0,D1,P0,P1,h0,_,hl,hm,hmm,hx,hat⟩;·injection h0 with h0 _;subst h0;exact⟨[],⟨none,0,rfl,cm _,λj f hj=>by simp at hj⟩,λ_=>cm _,λa n c e=>(by cases e;exact aC _)⟩
 ·injection h0 with h0 _;subst h0;simp only[gh]at hmm;subst hmm;(have key:∀i,i<len->∃s z,V0 i=.string s/\V1 i=.int .i64 z/\D0 i=.lit (.string s.data.toList):=λi hi=>by obtain⟨_,_,g0,g1⟩:=hat i (by omega);obtain⟨s,e0,e1,_⟩:=DataW.trod_string underlying9 g0;obtain⟨z,e2,e3,_⟩:=u5 underlying3 g1;injection e0 with e0 _;injection e2 with e2 _;injection e1 with e1 _;exact⟨s,z,e0,e2,e1⟩);refine⟨(List.range len).map λi=>(aac (V0 i),YS (V1 i)),⟨some a,_,by rw[dU,List.length_range],by simp;omega,λj f hj=>?_⟩,λhb=>?_,λa n c e=>(by cases e;exact hl)⟩;(·(have hjl:j<len:=by have:=(dw.1 hj).1;simpa using this);obtain⟨s,z,e0,e1,_⟩:=key j hjl;(have DW:f=(s.data.toList,z):=by simp[hjl,e0,e1,aac,YS]at hj;exact hj.symm);subst DW;obtain⟨c0,c1,_,_⟩:=hat j (by omega);obtain⟨g,o,spot⟩:=a;(have hspot:spot=none:=by simpa[Addr.add]using World.cell?_spot (hat 0 (by omega)).1);subst hspot;rw[e0,Bv]at c0;rw[e1,Bv]at c1;exact⟨g,o,rfl,av.eU c0,by rw[BB];exact c0,by rw[Nat.add_assoc];exact c1⟩);·rw[hx]at hb;simp only[Rows.uptoBulk]at hb;have h1:=M0 ((List.range len).map λi=>(DataW.agg [D0 i,D1 i]:DataW H));simp only[dU,List.length_range]at h1;simp;omega
theorem open_int{x:DataW H×List MemPlace}(h:DataW.trod enc prog W 0 (λ_=>true) true fuel 34 [v]=some x):∃cs,mD W v cs/\∀a n c,v=.slice a n c->n<=c:=by
 rcases open_ints underlying34 underlying3 (by kernel_rfl) h with⟨h0,_⟩|⟨a,len,cap,zs,h0,_,hl,hm,hz,hx,hat,_⟩;·injection h0 with h0 _;subst h0;exact⟨[],⟨none,0,rfl,cm _,λj f hj=>by simp at hj⟩,λa n c e=>(by cases e;exact aC _)⟩
 ·injection h0 with h0 _;subst h0;simp only[gh]at hz;(have ah6:(zs.take len).length=len:=by rw[dY];omega);refine⟨zs.take len,⟨some a,cap,by rw[ah6],by omega,λj f hj=>?_⟩,λa n c e=>(by cases e;exact hl)⟩;·(have hjl:j<len:=by have:=(dw.1 hj).1;omega);have c0:=hat j (by omega);(have DW:zs.getD j 0=f:=by rw[x6 hjl]at hj;rw[zz,hj];rfl);rw[DW]at c0;obtain⟨g,o,spot⟩:=a;(have hspot:spot=none:=by simpa[Addr.add]using World.cell?_spot (hat 0 (by omega)));subst hspot;rw[Bv]at c0;exact⟨g,o,rfl,av.eU c0,c0⟩
theorem c3:prog.cellsOf 3=1:=by kernel_rfl
theorem c4:prog.cellsOf 4=1:=by kernel_rfl
theorem c9:prog.cellsOf 9=1:=by kernel_rfl
theorem cr:prog.cellsOf 33=1:=by kernel_rfl
theorem rJ:prog.cellsOf 34=1:=by kernel_rfl
theorem jb:prog.cellsOf 36=15:=by kernel_rfl
theorem alc{x:DataW H×List MemPlace}(h:DataW.trod enc prog W 0 (λ_=>true) true fuel 36 vs=some x):∃p,vs=(aL p).toList/\(Rows.uptoBulk x.1<=1048576->∀kind conn n cut s fx,s.length<=1048576->FM W ⟨kind,conn,n,cut,s,p,fx⟩):=by obtain⟨xs,n,_,rfl,hlen,hxl,hf⟩:=DataW.trod_struct underlying36 h;rw[jb]at hlen;match xs,hxl,vs,hlen with|[y0,y1,y2,y3,y4,nS,y6,uY,qh,tL,uX,qd,qf,y13,qg],_,[v0,v1,v2,v3,v4,v5,v6,v7,v8,v9,v10,v11,v12,v13,v14],_=>have g0:=hf 0 _ rfl;have g1:=hf 1 _ rfl;have g2:=hf 2 _ rfl;have g3:=hf 3 _ rfl;have g4:=hf 4 _ rfl;have g5:=hf 5 _ rfl;have g6:=hf 6 _ rfl;have g7:=hf 7 _ rfl;have g8:=hf 8 _ rfl;have g9:=hf 9 _ rfl;have g10:=hf 10 _ rfl;have g11:=hf 11 _ rfl;have g12:=hf 12 _ rfl;have g13:=hf 13 _ rfl;have g14:=hf 14 _ rfl;simp[c3,c4,c9,cr,rJ]at g0 g1 g2 g3 g4 g5 g6 g7 g8 g9 g10 g11 g12 g13 g14;obtain⟨n0,e0,d0,w0⟩:=u5 underlying3 g0;injection e0 with e0 _;subst e0 d0;obtain⟨n1,e1,d1⟩:=DataW.trod_bool underlying4 g1;injection e1 with e1 _;subst e1 d1;obtain⟨n2,e2,d2⟩:=DataW.trod_bool underlying4 g2;injection e2 with e2 _;subst e2 d2;obtain⟨n3,e3,d3,w3⟩:=u5 underlying3 g3;injection e3 with e3 _;subst e3 d3;obtain⟨n4,e4,d4,w4⟩:=DataW.trod_string underlying9 g4;injection e4 with e4 _;subst e4 d4;obtain⟨n5,e5,d5⟩:=DataW.trod_bool underlying4 g5;injection e5 with e5 _;subst e5 d5;obtain⟨n6,e6,d6,cQ⟩:=u5 underlying3 g6;injection e6 with e6 _;subst e6 d6;obtain⟨n7,e7,d7⟩:=DataW.trod_bool underlying4 g7;injection e7 with e7 _;subst e7 d7;obtain⟨n8,e8,d8,w8⟩:=u5 underlying3 g8;injection e8 with e8 _;subst e8 d8;obtain⟨n9,e9,d9⟩:=DataW.trod_bool underlying4 g9;injection e9 with e9 _;subst e9 d9;obtain⟨n10,e10,d10,Lq⟩:=DataW.trod_string underlying9 g10;injection e10 with e10 _;subst e10 d10;obtain⟨n11,e11,d11,xx⟩:=DataW.trod_string underlying9 g11;injection e11 with e11 _;subst e11 d11;obtain⟨n12,e12,d12,Q7⟩:=u5 underlying3 g12;injection e12 with e12 _;subst e12 d12;obtain⟨fs,cE,iB,nK⟩:=ak8 g13;obtain⟨cs,hcs,kc⟩:=open_int g14;refine⟨⟨n0,n1,n2,n3,n4.data.toList,n5,n6,n7,n8,n9,n10.data.toList,n11.data.toList,n12,v13,v14⟩,by simp[aL,BB],λhb _ _ _ _ s _ hs=>?_⟩;simp only[oZ,zC,Rows.uptoBulk,Rows.uptoBulkAll]at hb;exact⟨⟨fs,cE,iB (by omega)⟩,⟨cs,hcs⟩,nK,kc,X0 w3,X0 Q7,by show s.length<=_;omega⟩
theorem ja:prog.cellsOf 100=21:=by kernel_rfl
theorem alb{x:DataW H×List MemPlace}(h:DataW.trod enc prog W 0 (λ_=>true) true fuel 100 vs=some x):∃o,vs=(cW o).toList/\(Rows.uptoBulk x.1<=1048576->FM W o):=by
 obtain⟨xs,n,_,rfl,hlen,hxl,hf⟩:=DataW.trod_struct underlying100 h;rw[ja]at hlen;obtain⟨v0,v1,v2,v3,v4,r,rfl⟩:∃v0 v1 v2 v3 v4 r,vs=v0::v1::v2::v3::v4::r:=by rcases vs with _|⟨v0,_|⟨v1,_|⟨v2,_|⟨v3,_|⟨v4,r⟩⟩⟩⟩⟩;all_goals first|exact⟨_,_,_,_,_,_,rfl⟩|(simp at hlen)
 match xs,hxl with|[y0,y1,y2,y3,y4,nS,y6],_=>have g0:=hf 0 _ rfl;have g1:=hf 1 _ rfl;have g2:=hf 2 _ rfl;have g3:=hf 3 _ rfl;have g4:=hf 4 _ rfl;have g5:=hf 5 _ rfl;have g6:=hf 6 _ rfl;simp[c3,c4,c9,jb]at g0 g1 g2 g3 g4 g5 g6;obtain⟨n0,e0,d0,_⟩:=u5 underlying3 g0;obtain⟨n1,e1,d1,_⟩:=u5 underlying3 g1;obtain⟨n2,e2,d2,_⟩:=u5 underlying3 g2;obtain⟨n3,e3,d3,_⟩:=u5 underlying3 g3;obtain⟨n4,e4,d4,_⟩:=DataW.trod_string underlying9 g4;obtain⟨n6,e6,d6⟩:=DataW.trod_bool underlying4 g6;obtain⟨p,hp,hk⟩:=alc g5;injection e0 with e0 _;injection e1 with e1 _;injection e2 with e2 _;injection e3 with e3 _;injection e4 with e4 _;subst e0 e1 e2 e3 e4;(have hr:r=(aL p).toList++[.bool n6]:=by(have hd:r.drop 15=[.bool n6]:=by rw[<-e6,iV];simp at hlen⊢;omega);rw[<-um 15 r,hp,hd]);refine⟨⟨n0,n1,n2,n3,n4.data.toList,p,n6⟩,by rw[hr];simp[cW,br.bw,aL,BB],λhb=>?_⟩;simp only[oZ,zC,Rows.uptoBulk,Rows.uptoBulkAll,d4]at hb;exact hk (by omega) _ _ _ _ _ _ (by omega)
theorem ald{x:DataW H×List MemPlace}(h:DataW.trod enc prog W 0 (λ_=>true) true fuel 41 [v]=some x):∃q k os,v=.slice q os.length k/\(Rows.uptoBulk x.1<=1048576->Dg W q os/\os.length<=1048576):=by
 rcases Deep.open_slice underlying41 h with⟨h0,_⟩|⟨a,len,cap,m,n,D,Pl,h0,_,hl,hm,hmm,hx,hat⟩;·injection h0 with h0 _;subst h0;exact⟨none,0,[],rfl,λ_=>⟨λi o ho=>(by simp at ho),cm _⟩⟩
 ·injection h0 with h0 _;subst h0;simp only[gh]at hmm;subst hmm;rw[ja]at hat;(have key:∀i,∃o,i<len->W.cells? 0 (a.add (i*21)) 21=some (cW o).toList/\(Rows.uptoBulk (D i)<=1048576->FM W o):=λi=>by by_cases hi:i<len;(·obtain⟨cs',e1,e2⟩:=hat i (by omega);obtain⟨o,rfl,ho⟩:=alb e2;exact⟨o,λ_=>⟨e1,ho⟩⟩);·exact⟨wy,λh=>absurd h hi⟩);obtain⟨O,hO⟩:=Classical.axiomOfChoice key;refine⟨some a,m,(List.range len).map O,by simp,λhb=>?_⟩;rw[hx]at hb;simp only[Rows.uptoBulk]at hb;have h1:=M0 ((List.range len).map D);simp only[dU,List.length_range]at h1;refine⟨λi o ho=>?_,by simp;omega⟩;(have hil:i<len:=by have:=(dw.1 ho).1;simpa using this);(have aij:O i=o:=by simpa[hil]using ho);obtain⟨e1,e2⟩:=hO i hil;rw[aij]at e1 e2;obtain⟨_,yG,hc⟩:=World.cells?_some e1;have h2:=Tj _ _ (List.mem_map_of_mem (f:=D) (List.mem_range.2 hil));refine⟨?_,e2 (by omega)⟩;obtain⟨g,k,spot⟩:=a;have hc0:=hc 0 (by omega);rw[cS (by omega)]at hc0;(have hspot:spot=none:=by obtain⟨_,hl0,hcz⟩:=World.cells?_some (hO 0 (by omega)).1;have hz:=hcz 0 (by omega);rw[cS (by omega)]at hz;simpa[Addr.add]using World.cell?_spot hz);subst hspot;rw[Bv,Bv]at hc0;refine⟨g,k,rfl,av.eU hc0,λj u hj=>?_⟩;(have hjl:j<21:=by have:=(dw.1 hj).1;omega);have:=hc j hjl;rw[Bv,Bv]at this;rw[this];exact hj
end
end told
end Go.Proofs.YtnmfmoimjkoieaaGreatDoor
