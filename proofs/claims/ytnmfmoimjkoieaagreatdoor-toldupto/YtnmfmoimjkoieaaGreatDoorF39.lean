import Derived.Test.YtnmfmoimjkoieaaGreatDoorF23
import Derived.Test.YtnmfmoimjkoieaaGreatDoorF34
import Derived.Test.YtnmfmoimjkoieaaGreatDoorF38
set_option maxHeartbeats 25600000
set_option maxRecDepth 100000
set_option linter.all false
namespace Go.Proofs.YtnmfmoimjkoieaaGreatDoor
open Go.Proofs.Tryz
variable{fs l:br.bR}{w w' w1:World}{P D:br.bb}{V:dr.bB}{H H':br.aj}{os b:List br.aP}{k af x n1 n2 n5:Nat}{c:br.b9}{d:dr.eQ}{m:br.bh}{B G F:Nat->Prop}{p:aM.ay}{cs:List Int}{o:br.aP}{L:List (br.aP×Value)}{sv cF:Value}
namespace dr
open Go.RowKit aD av aM br Go.Maps b7 bJ cT
theorem afx(l:bR)(f:List UInt8):(l5 l f).Sublist l:=by
 unfold l5;split;·exact List.eraseIdx_sublist _ _
 ·exact List.Sublist.refl _
theorem NA:∀(fs l:bR),(ku l fs).Sublist l|[],_=>List.Sublist.refl _|f::fs,l=>(NA fs (l5 l f.1)).trans (afx l f.1)
theorem afz(l:bR){i:Nat}{g:List UInt8×Int}(hg:fs[i]?=some g):ku l (fs.take (i+1))=l5 (ku l (fs.take i)) g.1:=by unfold ku;rw[jL,hg];simp
theorem ado{id:Int}(h:1<=id/\id<=65535):xy w (jS id) (dF (jS id) [] []):=by
 rw[afK h];refine FZ (fs:=[]) (cs:=[]) Au ⟨by show(-9223372036854775808:Int)<=id;omega,by show id<=(9223372036854775807:Int);omega⟩ ⟨by simp[jS,fg],by simp[jS,fg],by simp[jS,fg]⟩ (BQ w) (Ek w) ?_;have eb:eT (jS id) [] []=gb id:=by unfold eT jS;simp
 rw[eb];simp[gb]
theorem adl:xy w rb (dF rb [] []):=by rw[afH];exact FZ (fs:=[]) (cs:=[]) Au Au ⟨by decide,by decide,by decide⟩ (BQ w) (Ek w) (by decide)
theorem bP.ahb(h:bP P w V H os){pp:ay}(hk:k<8)(hc:V.aZ k=some (c,d))(hh:c.bg=some pp)(p:ay)(hK:p.kind=10)(fs:bR)(hcv:∃a b c,p.ae=.slice a b c)(cE:w.ownsRow 0 95 2 p.fv fs.length (ct fs))(hfn:∀b,p.fv.ownBlock=some b->¬V.has P.B b)(uF:fs.length<=298/\1<=p.id/\p.id<=65535)(hno:(c.aJ.map Prod.fst).Nodup)(ahU:c.aJ.length<=1000)(hL:os.length<10000000000):Calls prog 137 #[.pointer (some ⟨P.B,0,none⟩),.int .i64 (k:Int),.agg (bw p)] w λe w'=>e=.returned (.tuple #[])/\∃V',bQ P V w V' (H.cN k (ku c.aJ fs)) (os++[⟨(k:Int),dF (jS p.id) [] [],false⟩]) w':=by
 obtain⟨q,cap,hq⟩:=bI cE;obtain⟨c1,c2,c3,hcv⟩:=hcv;have hc2:w.cell? ⟨P.B,3+k*19+2,none⟩=some (.pointer (some ⟨d.sp,0,none⟩)):=by have:=(F5 h.blk hk hc).2.2.1;unfold oF at this;rw[hh]at this;exact this
 have Ae:=λo=>gA hc2 o;have hlB:=eH hc2;simp only at hlB;have h8:(k:Int)<8:=by omega
 have HH:=ac h;have bO:=ac λo=>(aN w.heap.size w).alloc (aC _) o;have wF:=ac cE;have kH:=ac hfn;have xO:=ac hno;have HC:=ac hc;have ua:=ac hh;obtain⟨D,hD⟩:∃D,D=dF (jS p.id) [] []:=⟨_,rfl⟩;rw[<-hD];have aa3:=ac (λw=>show xy w (jS p.id) D by rw[hD];exact ado uF.2);simp only[bw,hq,hcv,hK];clear h cE hfn hno hc hh hD;go_enter func137,ntmps137;go_wp2_with fail;have dV:=bO.aa (.cells #[.int .i64 10,.bool p.aR,.bool p.will,.int .i64 p.ah,.string (bs p.aq),.bool p.aS,.int .i64 p.code,.bool p.dup,.int .i64 p.qos,.bool p.aF,.string (bs p.ak),.string (bs p.az),.int .i64 p.id,.slice q fs.length cap,.slice c1 c2 c3] 36);have hnew:=cj w (.cells #[.int .i64 10,.bool p.aR,.bool p.will,.int .i64 p.ah,.string (bs p.aq),.bool p.aS,.int .i64 p.code,.bool p.dup,.int .i64 p.qos,.bool p.aF,.string (bs p.ak),.string (bs p.az),.int .i64 p.id,.slice q fs.length cap,.slice c1 c2 c3] 36);have zj:=ac (gm wF.aa dV);have qx:=ac (λ(e:V.has P.B w.heap.size)=>ko _ (HH.aa.lt e));have nV:=ac (bQ.refl (HH.aa.down dV));have mz:=ac dV;have lc:=ac hnew;clear bO dV hnew;generalize w.alloc (.cells #[.int .i64 10,.bool p.aR,.bool p.will,.int .i64 p.ah,.string (bs p.aq),.bool p.aS,.int .i64 p.code,.bool p.dup,.int .i64 p.qos,.bool p.aF,.string (bs p.ak),.string (bs p.az),.int .i64 p.id,.slice q fs.length cap,.slice c1 c2 c3] 36)=W at *;go_loopw[7] (λiv wx=>∃(i:Nat) (bU:Value),i<=fs.length/\iv=.int .i64 i/\bQ P V W (V.fu k c d (ku c.aJ (fs.take i)) bU) (H.cN k (ku c.aJ (fs.take i))) os wx) (λiv _=>fs.length-(intOf iv).toNat);case atStart=>refine⟨0,d.bU,cm _,rfl,?_⟩;have e:ku c.aJ (fs.take 0)=c.aJ:=rfl;rw[e,QI HC.aa,PD nV.aa.1 hk HC.aa];exact nV.aa
 case round=>obtain⟨i,bU,hi,rfl,hd⟩:=hrel;generalize wr=W1 at *;have dK:=hd.2.1.blk qx.aa lc.aa;have m12:W1.cell? ⟨w.heap.size,12,none⟩=some (.int .i64 p.id):=ar dK rfl;have m13:W1.cell? ⟨w.heap.size,13,none⟩=some (.slice q fs.length cap):=ar dK rfl;have HD:=ac hd;clear dK hd;by_cases hlt:i<fs.length;(·obtain⟨f,hf⟩:∃f,fs[i]?=some f:=⟨_,cS hlt⟩;(have Ar:W1.ownsRow 0 95 2 (.slice q fs.length cap) fs.length (ct fs):=by rw[<-hq];exact bM zj.aa (λb hb=>HD.aa.2.1.ah b (by obtain⟨bX,e⟩:=aU zj.aa hb;exact aG e) (kH.aa b hb)));obtain⟨g,rfl,hg,xg,hcm,_⟩:=fE Ar (by omega);unfold maxLen at hcm;obtain⟨x0,x1⟩:=uy (wr:=W1) Ar hf rfl rfl;have hsl:=NA (fs.take i) c.aJ;have abd:=ac (afz c.aJ hf);have tU:=ac (HD.aa.1.drop hk (uU ..) ua.aa ((hsl.map Prod.fst).nodup xO.aa) (bi hsl.length_le ahU) f.1);clear hf Ar hsl;go_wp2_with fail;refine tU.aa.mono ?_;rintro e w5 ⟨rfl,ZV,uD⟩;have e1:=K6 V k c d (ku c.aJ (fs.take i)) (ku c.aJ (fs.take (i+1))) bU ZV;have e2:=Ez H k (ku c.aJ (fs.take i)) (ku c.aJ (fs.take (i+1)));rw[<-abd.aa,e1,e2]at uD;have cu:=ac (HD.aa.trans uD);clear uD e1 e2;go_wp2_with fail;exact⟨⟨i+1,ZV,by omega,by simp,cu.aa⟩,by simp[intOf];omega⟩);·have Ce:fs.take i=fs:=iV (by omega);rw[Ce]at HD;have oK:=ac (HD.aa.1.write (k:Int) (jS p.id) _ (aa3.aa _) ⟨_,_,_,rfl⟩ ⟨_,_,_,rfl⟩ (by omega));simp only[bw,jS,fg]at oK;go_wp2_with fail;refine oK.aa.mono ?_;rintro e w5 ⟨rfl,bC,uD⟩;have cu:=ac (bQ.after HH.aa mz.aa (HD.aa.trans uD));clear uD;go_wp2;go_end0;exact⟨rfl,_,cu.aa⟩
end dr
namespace dr
open Go.RowKit aD av aM br Go.Maps b7 bJ cT bX
def xA(l:bR):Prop:=(l.map Prod.fst).Nodup/\l.length<=6/\∀f∈l,0<=f.2
structure eP (H:aj):Prop where
 lI:H.aO.Pairwise (fun x y=>x.1 < y.1)
 aJ:∀ k c,H.aA k=some c→xA c.aJ
 ret:H.ret.Pairwise (fun x y=>x.ak < y.ak)∧∀ m∈H.ret,uo m∧m.qos=0∧m.aF=true
 will:∀ k c p,H.aA k=some c→c.bg=some p→p.will=true→uo (gj p)
theorem eP.of(h:eP H)(hc:∀k c,H'.aA k=some c->∃c0,H.aA k=some c0/\c.aJ=c0.aJ/\c.bg=c0.bg)(hs:H'.aO.Sublist H.aO)(hr:H'.ret=H.ret):eP H':=by
 refine⟨h.lI.sublist hs,λk c e=>?_,by rw[hr];exact h.ret,λk c p e e2 e3=>?_⟩;·obtain⟨c0,e1,e2,_⟩:=hc k c e;rw[e2];exact h.aJ k c0 e1
 ·obtain⟨c0,e1,_,e4⟩:=hc k c e;exact h.will k c0 p e1 (e4▸e2) e3
theorem ajC(R:List bh)(m:bh)(hs:R.Pairwise (λx y=>x.ak<y.ak)):(jw R m).Pairwise (λx y=>x.ak<y.ak):=by
 obtain⟨hA,hB⟩:=Tb R m.ak hs;have hle:=MP R m.ak;have hR:R=R.take (eF R m.ak)++R.drop (eF R m.ak):=(um _ _).symm;have hg:R[eF R m.ak]?=(R.drop (eF R m.ak))[0]?:=by rw[oX,mF]
 have rY:∀(b:bh)(r:List bh),R.drop (eF R m.ak)=b::r->R.set (eF R m.ak) m=R.take (eF R m.ak)++m::r:=λb r he=>by have hl:=bq List.length he;rw[eX,dL]at hl;rw[List.set_eq_take_append_cons_drop,ax (by omega),<-List.drop_drop,he];rfl
 have hsp:=hs;rw[hR,List.pairwise_append]at hsp;obtain⟨h1,h2,h3⟩:=hsp;unfold jw;split;·split;(·exact hs.sublist (List.eraseIdx_sublist _ _));·exact hs
 ·split;(·rename_i hb;unfold qE at hb;rw[hg]at hb;cases hd:R.drop (eF R m.ak)with|nil=>rw[hd]at hb;cases hb|cons b r=>rw[hd]at hb h2 h3;have hb:(nz b m.ak==0)=true:=hb;have e:b.ak=m.ak:=(Dq b m.ak).1 (by simpa using hb);rw[rY b r hd,List.pairwise_append];refine⟨h1,x7.2 ⟨λy hy=>by rw[<-e];exact(x7.1 h2).1 y hy,(x7.1 h2).2⟩,λa ha y hy=>?_⟩;rcases qA.1 hy with rfl|hy;(·exact hA a ha);·exact h3 a ha y (Dd _ hy));·split;(·rename_i hb _;rw[fS,List.pairwise_append];(have D4:∀y∈R.drop (eF R m.ak),m.ak<y.ak:=λy hy=>by unfold qE at hb;rw[hg]at hb;cases hd:R.drop (eF R m.ak)with|nil=>rw[hd]at hy;cases hy|cons b r=>rw[hd]at hb h2 hB hy;have hb:¬(nz b m.ak==0)=true:=hb;have e:b.ak≠m.ak:=λe=>hb (by rw[(Dq b m.ak).2 e];rfl);have e2:=hB b zD;(have e3:m.ak<b.ak:=by have:=List.not_lt.1 e2;rcases List.le_iff_lt_or_eq.1 this with e4|e4;(·exact e4);·exact absurd e4.symm e);rcases qA.1 hy with rfl|hy;(·exact e3);·exact List.lt_trans e3 ((x7.1 h2).1 y hy));refine⟨h1,x7.2 ⟨D4,h2⟩,λa ha y hy=>?_⟩;rcases qA.1 hy with rfl|hy;(·exact hA a ha);·exact h3 a ha y hy);·exact hs
theorem Uh(h:eP H)(m:bh)(hm:uo m)(hq:m.qos=0):eP (H.ia m):=by refine⟨h.lI,h.aJ,?_,h.will⟩;unfold aj.ia;simp only;cases hr:m.aF with|false=>simp only[kB,iO];exact h.ret|true=>simp only[gh];refine⟨ajC _ m h.ret.1,λx hx=>?_⟩;rcases Yt _ _ x hx with e|rfl;(·exact h.ret.2 x e);·exact⟨hm,hq,hr⟩
theorem BL(h:eP H)(k:Nat):eP (H.shut k):=h.of (λj c e=>by have e:(if j=k then none else H.aA j)=some c:=e;by_cases bF:j=k;(·rw[ax bF]at e;cases e);·rw[au bF]at e;exact⟨c,e,rfl,rfl⟩) (List.filter_sublist ..) rfl
theorem apB(hO:bZ H)(h:eP H)(hw:H.mo k=some m):uo m/\m.qos=0:=by unfold aj.mo at hw;cases hc:H.aA k with|none=>rw[hc]at hw;cases hw|some c=>rw[hc]at hw;cases hh:c.bg with|none=>simp[hh]at hw|some p=>simp only[Option.bind_some,hh]at hw;cases hp:p.will with|false=>simp[hp]at hw|true=>simp only[hp,gh,lT]at hw;subst hw;exact⟨h.will k c p hc hh hp,(hO.hel k c p hc hh).qos⟩
theorem Dw(hO:bZ H)(h:eP H)(k:Nat):eP (H.cut k):=by
 unfold aj.cut;split;·rename_i m hm;obtain⟨h1,h2⟩:=apB hO h hm;exact Uh (BL h k) m h1 h2
 ·exact BL h k
theorem aft(hO:bZ H)(h:eP H)(c:List UInt8):eP (H.off c):=by
 unfold aj.off;split;·exact Dw hO h _
 ·exact h
theorem Ue(h:eP H)(k:Nat)(f:b9->b9)(hf:∀c,(f c).bg=c.bg/\(f c).aJ=c.aJ)(e1:H'.aO=H.aO)(e2:H'.ret=H.ret)(e3:H'.aA=upd H.aA k ((H.aA k).map f)):eP H':=h.of (λj c e=>by rw[e3]at e;unfold upd at e;by_cases bF:j=k;(·rw[ax bF]at e;obtain⟨c0,e4,rfl⟩:=iz.1 e;exact⟨c0,by rw[bF];exact e4,(hf c0).2,(hf c0).1⟩);·rw[au bF]at e;exact⟨c,e,rfl,rfl⟩) (by rw[e1];exact List.Sublist.refl _) e2
theorem Ug(h:eP H)(k:Nat):eP (H.hear k):=Ue h k (λc=>{c with heard:=H.now}) (λ_=>⟨rfl,rfl⟩) rfl rfl rfl
theorem Ga(h:eP H)(k:Nat)(l:List UInt8):eP (H.cI k l):=Ue h k (λc=>{c with wait:=l}) (λ_=>⟨rfl,rfl⟩) rfl rfl rfl
theorem Uf(h:eP H)(k:Nat)(f:bR)(hf:xA f):eP (H.cN k f):=by
 have hcon:∀j c,(H.cN k f).aA j=some c->∃c0,H.aA j=some c0/\c.bg=c0.bg/\(c.aJ=c0.aJ\/c.aJ=f):=λj c e=>by have e:(if j=k then(H.aA k).map (λc=>{c with aJ:=f})else H.aA j)=some c:=e;by_cases bF:j=k;(·rw[ax bF]at e;obtain⟨c0,e4,rfl⟩:=iz.1 e;exact⟨c0,by rw[bF];exact e4,rfl,ag rfl⟩);·rw[au bF]at e;exact⟨c,e,rfl,ai rfl⟩
 refine⟨h.lI,λj c e=>?_,h.ret,λj c p e e2 e3=>?_⟩;·obtain⟨c0,e1,_,e2|e2⟩:=hcon j c e;(·rw[e2];exact h.aJ j c0 e1);·rw[e2];exact hf
 ·obtain⟨c0,e1,e4,_⟩:=hcon j c e;exact h.will j c0 p e1 (e4▸e2) e3
theorem afs(h:eP H)(k:Nat)(p:ay)(hn:p.aq ∉ H.aO.map Prod.fst)(hw:p.will=true->uo (gj p)):eP (H.join k p):=by
 have hcon:∀j c,(H.join k p).aA j=some c->(∃c0,H.aA j=some c0/\c=c0)\/(c.bg=some (ji p)/\c.aJ=[]):=λj c e=>by have e:(if j=k then(H.aA k).map (λc=>{c with bg:=some (ji p),aJ:=[]})else H.aA j)=some c:=e;by_cases bF:j=k;(·rw[ax bF]at e;obtain⟨c0,e4,rfl⟩:=iz.1 e;exact ag ⟨rfl,rfl⟩);·rw[au bF]at e;exact ai ⟨c,e,rfl⟩
 refine⟨MS _ _ _ h.lI hn,λj c e=>?_,h.ret,λj c p' e e2 e3=>?_⟩;·rcases hcon j c e with⟨c0,e1,rfl⟩|⟨_,e1⟩;(·exact h.aJ j c e1);·rw[e1];exact⟨by simp,by simp,by simp⟩
 ·rcases hcon j c e with⟨c0,e1,rfl⟩|⟨e1,_⟩;(·exact h.will j c p' e1 e2 e3);·rw[e1]at e2;cases e2;exact hw e3
theorem afu(h:eP H)(k:Nat):eP (H.uQ k):=by
 have hcon:∀j c,(H.uQ k).aA j=some c->H.aA j=some c\/(c.bg=none/\c.aJ=[]):=λj c e=>by have e:(if j=k then some (⟨[],0,none,[]⟩:b9)else H.aA j)=some c:=e;by_cases bF:j=k;(·rw[ax bF]at e;cases e;exact ag ⟨rfl,rfl⟩);·rw[au bF]at e;exact ai e
 refine⟨h.lI,λj c e=>?_,h.ret,λj c p e e2 e3=>?_⟩;·rcases hcon j c e with e1|⟨_,e1⟩;(·exact h.aJ j c e1);·rw[e1];exact⟨by simp,by simp,by simp⟩
 ·rcases hcon j c e with e1|⟨e1,_⟩;(·exact h.will j c p e1 e2 e3);·rw[e1]at e2;cases e2
theorem af0(h:xA l):∀(fs:bR),(∀f∈fs,0<=f.2)->xA (cd l fs).1:=by
 have:∀(fs:bR)(x:bR×bR×List Int),xA x.1->(∀f∈fs,0<=f.2)->xA (fs.foldl kd x).1:=λfs=>by induction fs with|nil=>exact λx h _=>h|cons a r ih=>intro x h hf;refine ih _ ?_ (λf hf'=>hf f (Dd _ hf'));show xA ((jJ x.1 a).getD x.1);have ha:=hf a zD;cases e:jJ x.1 a with|none=>exact h|some l'=>refine⟨aai h.1 e,?_⟩;rw[QU a x.1 h.1]at e;split at e;(·cases e;refine⟨by show(x.1.map _).length<=6;rw[dU];exact h.2.1,λf hf=>?_⟩;obtain⟨y,hy,rfl⟩:=i7.1 hf;unfold nN;split;(·exact ha);·exact h.2.2 y hy);·split at e;(·cases e);·cases e;refine⟨by show(x.1++[a]).length<=6;rw[bT];simp;omega,λf hf=>?_⟩;rcases mE.1 hf with hf|hf;(·exact h.2.2 f hf);·simp at hf;rw[hf];exact ha
 exact λfs hf=>this fs (l,[],[]) h hf
theorem afZ(h:xA l)(fs:bR):xA (ku l fs):=by have hs:=NA fs l;exact⟨(hs.map Prod.fst).nodup h.1,bi hs.length_le h.2.1,λf hf=>h.2.2 f (hs.subset hf)⟩
theorem KY(P:bb)(hO:bZ H)(hD:eP H)(hm:uo m)(hq:m.qos=0)(hL:os.length<1000000):MD P H os m:=λV' w' h=>by refine(h.KZ hO (λk c e f hf=>(hD.aJ k c e).2.2 f hf) m hm hq hL (λ_ w1 hb=>?_)).mono λe w'' ⟨h1,rv,aI,h2⟩=>⟨h1,_,h2⟩;have:=(h.down hb).aF m hO.ret.1;rw[ame m H.ret hD.ret.1]at this;exact this
theorem bP.F4 {P:bb} {w:World} {V:bB} {H:aj} {os:List aP} (h:bP P w V H os) (hO:bZ H) (hD:eP H) {k:Nat} {c:b9} {d:eQ} (hk:k < 8) (hc:V.aZ k=some (c,d)) (will:Bool) (hL:os.length < 100000) :
 Calls prog 105 #[.pointer (some ⟨P.B,0,none⟩),.int .i64 (k:Int),.bool will] w fun e w'=>e=.returned (.tuple #[])∧∃ V',bQ P V w V' (if will then H.cut k else H.shut k) (os ++ if will then H.dZ k else [⟨(k:Int),[],true⟩]) w':=by
 have hcon:H.aA k=some c:=by rw [h.pl k hk,hc];rfl
 exact h.close hO hD.lI hk hc will (by omega) fun p hp hw=>KY P (yT hO k) (BL hD k) (hD.will k c p hcon hp hw) (hO.hel k c p hcon hp).qos (by rw [bT];simp;omega)
theorem bP.hand {P:bb} {w:World} {V:bB} {H:aj} {os:List aP} (h:bP P w V H os) (hO:bZ H) (hD:eP H) {k:Nat} {c:b9} {d:eQ} (hk:k < 8) (hc:V.aZ k=some (c,d)) (p:ay) (fs:List (List UInt8×Int)) (cs:List Int) (hd:EZ p fs) (ht:za p fs) (hp:Bp p) (fv ae:Value) (aQ:w.ownsRow 0 95 2 fv fs.length (ct fs)) (hcv:∃ a b c,ae=.slice a b c) (hfn:∀ b,fv.ownBlock=some b→¬ V.has P.B b) (hL:os.length < 10000) :
 Calls prog 137 #[.pointer (some ⟨P.B,0,none⟩),.int .i64 (k:Int),.agg (bw { p with fv:=fv,ae:=ae })] w fun e w'=>e=.returned (.tuple #[])∧∃ V',bQ P V w V' (bV k H (p,fs,cs)).1 (os ++ (bV k H (p,fs,cs)).2.1) w':=by
 have hcon:H.aA k=some c:=by rw [h.pl k hk,hc];rfl
 have cE:∃ a b c,fv=.slice a b c:=by obtain ⟨q,k,e⟩:=bI aQ;exact ⟨_,_,_,e⟩
 have lv:H.ct k=c.aJ:=by unfold aj.ct;rw [hcon];rfl
 have hs2:=(F5 h.blk hk hc).2.2.1
 have qC:∀ {H':aj} {os':List aP} {w' w'':World} {e:Ending},Below w.heap.size w w'→(e=.returned (.tuple #[])∧∃ V',bQ P V w' V' H' os' w'')→e=.returned (.tuple #[])∧∃ V',bQ P V w V' H' os' w'':=fun hb ⟨h1,V',h2⟩=>⟨h1,V',bQ.after h hb h2⟩
 have DZ:=hd.kind
 have h6:=hp.rel
 cases hh:c.bg with
 | none =>
   have dC:H.mW k=false:=by unfold aj.mW;rw [hcon];simp [hh]
   have hcl:w.cell? ⟨P.B,3+k*19+2,none⟩=some (.pointer ((none:Option Nat).map fun b=>⟨b,0,none⟩)):=by unfold oF at hs2;rw [hh] at hs2;exact hs2
   by_cases h1:p.kind=1
   · by_cases JS:p.aq = []
     · have e:bV k H (p,fs,cs)=(H.shut k,[⟨(k:Int),dF (gu false 2) [] [],false⟩,⟨(k:Int),[],true⟩],true):=by unfold bV;simp [dC,h1,JS]
       rw [e]
       refine yz P.B k _ w _ hk cE hcv none hcl _ _ (ai ⟨h1,rfl,rfl⟩) fun w' hb=>?_
       refine ((h.down hb).aeq hO hD.lI hk hc hh { p with fv:=fv,ae:=ae } JS cE hcv (by omega)).mono fun e w'' hq=>qC hb ?_
       rw [fS] at hq
       exact hq
     · have e:bV k H (p,fs,cs)=((H.off p.aq).join k p,H.gY p.aq ++ [zM k],false):=by unfold bV;simp [dC,h1,JS]
       rw [e]
       refine yz P.B k _ w _ hk cE hcv none hcl _ _ (ai ⟨h1,rfl,rfl⟩) fun w' hb=>?_
       have hof:=Qk hO p.aq
       refine ((h.down hb).connect hO hD.lI hk hc hh { p with fv:=fv,ae:=ae } JS (hp.aA h1).1 cE hcv (by show os.length+(H.gY p.aq).length < 1000000;omega) (fun j c' p' e1 e2 e3=>KY P (yT hO j) (BL hD j) (hD.will j c' p' e1 e2 e3) (hO.hel j c' p' e1 e2).qos (by rw [bT];simp;omega))).mono fun e w'' hq=>qC hb ?_
       rw [fS] at hq
       exact hq
   · have e:bV k H (p,fs,cs)=(H.cut k,H.dZ k,true):=by unfold bV;simp [dC,h1]
     rw [e]
     refine yz P.B k _ w _ hk cE hcv none hcl _ _ (ag ⟨h1,rfl,rfl⟩) fun w' hb=>?_
     exact ((h.down hb).F4 hO hD hk hc true (by omega)).mono fun e w'' hq=>qC hb hq
 | some pp =>
   have dC:H.mW k=true:=by unfold aj.mW;rw [hcon];simp [hh]
   have hcl:w.cell? ⟨P.B,3+k*19+2,none⟩=some (.pointer ((some d.sp).map fun b=>⟨b,0,none⟩)):=by unfold oF at hs2;rw [hh] at hs2;exact hs2
   have hF:=hD.aJ k c hcon
   have hS:=h.sat k c d pp hk hc hh
   by_cases k3:p.kind=3
   · have e:bV k H (p,fs,cs)=(H.ia (gj p),H.ky (gj p),false):=by unfold bV;simp [dC,k3]
     rw [e]
     refine yz P.B k _ w _ hk cE hcv (some d.sp) hcl _ _ (ag (ai ⟨k3,rfl,rfl⟩)) fun w' hb=>?_
     obtain ⟨t1,t2⟩:=ht.ia k3 (hp.ia k3)
     refine adS P.B (k:Int) _ { p with fv:=fv,ae:=ae } w' _ (hp.ia k3) cE hcv fun w1 hb1 hlt=>?_
     refine (KY P hO hD (m:=gj p) ⟨t1,t2⟩ (hp.ia k3) (by omega) V w1 ((h.down hb).down hb1)).mono fun e w'' ⟨h1,V',h2⟩=>⟨h1,⟨V',bQ.after h (hb.trans (hb1.mono hb.size)) h2⟩,fun b eb=>?_⟩
     subst eb
     exact h2.2.1.ah _ hlt (fun e=>ko _ ((h.down hb).lt e))
   by_cases k4:p.kind=4∨p.kind=5∨p.kind=7
   · have e:bV k H (p,fs,cs)=(H,[],false):=by unfold bV;simp [dC,k3,k4]
     rw [e]
     refine yz P.B k _ w _ hk cE hcv (some d.sp) hcl _ _ (ag (ag (ai ⟨k4,rfl,rfl⟩))) fun w' hb=>?_
     refine (acD P.B d.sp (k:Int) { p with fv:=fv,ae:=ae } pp.aq k d.bU w' ((h.down hb).sat k c d pp hk hc hh).blk cE hcv).mono fun e w'' ⟨h1,h2⟩=>⟨h1,V,?_⟩
     rw [ek]
     exact ((bQ.refl h).down hb).down h2
   by_cases k8:p.kind=8
   · have e:bV k H (p,fs,cs)=(H.cN k (cd c.aJ fs).1,H.yU k c.aJ p.id fs,false):=by unfold bV;simp [dC,k8,lv]
     rw [e]
     refine yz P.B k _ w _ hk cE hcv (some d.sp) hcl _ _ (ag (ag (ag (ai ⟨k8,rfl,rfl⟩)))) fun w' hb=>?_
     exact ((h.down hb).sub hk hc hh { p with fv:=fv,ae:=ae } fs hcv (gm aQ hb) hfn ⟨ht.len,ht.one k8,ht.PS (ai k8),hd.id.2⟩ hO.ret.1 (fun f hf=>⟨bi (hd.aJ f hf) (by omega),ht.aJ f hf⟩) hF.1 hD.ret.2 (by omega)).mono fun e w'' ⟨h1,bU,aI,h2⟩=>qC hb ⟨h1,_,h2⟩
   by_cases k10:p.kind=10
   · have e:bV k H (p,fs,cs)=(H.cN k (ku c.aJ fs),[⟨(k:Int),dF (jS p.id) [] [],false⟩],false):=by unfold bV;simp [dC,k10,lv]
     rw [e]
     exact h.ahb hk hc hh { p with fv:=fv,ae:=ae } k10 fs hcv aQ hfn ⟨ht.len,ht.PS (ag k10),hd.id.2⟩ hF.1 (by have:=hF.2.1;omega) (by omega)
   by_cases k12:p.kind=12
   · have e:bV k H (p,fs,cs)=(H,[⟨(k:Int),dF rb [] [],false⟩],false):=by unfold bV;simp [dC,k12]
     rw [e]
     refine yz P.B k _ w _ hk cE hcv (some d.sp) hcl _ _ (ag (ag (ag (ag (ai ⟨k12,rfl,rfl⟩))))) fun w' hb=>?_
     exact ((h.down hb).write (k:Int) rb _ adl ⟨_,_,_,rfl⟩ ⟨_,_,_,rfl⟩ (by omega)).mono fun e w'' ⟨h1,aI,h2⟩=>qC hb ⟨h1,_,h2⟩
   by_cases k14:p.kind=14
   · have e:bV k H (p,fs,cs)=(H.shut k,[⟨(k:Int),[],true⟩],true):=by unfold bV;simp [dC,k14]
     rw [e]
     refine yz P.B k _ w _ hk cE hcv (some d.sp) hcl _ _ (ag (ag (ag (ag (ag ⟨k14,rfl,rfl⟩))))) fun w' hb=>?_
     exact ((h.down hb).F4 hO hD hk hc false (by omega)).mono fun e w'' hq=>qC hb hq
   · have e:bV k H (p,fs,cs)=(H.cut k,H.dZ k,true):=by unfold bV;simp [dC,k3,k4,k8,k10,k12,k14]
     rw [e]
     refine yz P.B k _ w _ hk cE hcv (some d.sp) hcl _ _ (ai ⟨by show p.kind=1∨p.kind=2∨p.kind=9∨p.kind=11∨p.kind=13;omega,rfl,rfl⟩) fun w' hb=>?_
     exact ((h.down hb).F4 hO hD hk hc true (by omega)).mono fun e w'' hq=>qC hb hq
end dr
namespace dr
open Go.RowKit aD av aM br Go.Maps b7 bJ cT bX rd
def ux(k:Nat)(H:aj)(l:List UInt8):aj×List aP:=match cG l with| .inl true=>(H.cI k l,[])| .inl false=>((H.cI k l).cut k,(H.cI k l).dZ k)| .inr (q,_)=>((bV k ((H.cI k []).hear k) q).1,(bV k ((H.cI k []).hear k) q).2.1)
def FX(B k:Nat)(w:World):Nat:=match w.cell? ⟨B,3+k*19+1,none⟩with|some (.string s)=>s.size|_=>0
structure Rv (B k:Nat) (Q:World→Prop) (a:World):Prop where
 op:∃ o,a.cell? ⟨B,3+k*19,none⟩=some (.bool o)
 buf:a.cell? ⟨B,3+k*19+1,none⟩=some (.string (bs []))
 inv:av.Inv a∧5≤a.heap.size
 fin:∀ w',Below a.heap.size a w'→Q w'
structure aaS (B k:Nat) (l:List UInt8) (now:Int) (a:World):Prop where
 op:a.cell? ⟨B,3+k*19,none⟩=some (.bool true)
 buf:a.cell? ⟨B,3+k*19+1,none⟩=some (.string (bs l))
 inv:av.Inv a∧5≤a.heap.size
 now:a.cell? ⟨B,2,none⟩=some (.int .i64 now)
 aqO:a.frozen? ⟨B,3+k*19+1,none⟩=false∧a.frozen? ⟨B,3+k*19+18,none⟩=false
 mP:∃ v,a.cell? ⟨B,3+k*19+18,none⟩=some (.int .i64 v)
theorem afi(B k:Nat)(cA wt:List UInt8)(V:bB)(w:World)(now:Int)(hk:k<8)(h:w.heap[B]?=some (.cells (dh V) 160))(c:b9)(d:eQ)(hc:V.aZ k=some (c,d))(hw:c.wait=wt)(Q Db:World->Prop)(hl:wt.length+cA.length<=1000000)(xn:Db (w.setCell ⟨B,3+k*19+1,none⟩ (.string (bs (wt++cA)))).drew)(hJ:∀a,Db a->aaS B k (wt++cA) now a)(hs:cG (wt++cA)=.inl true->∀a w',Db a->Below a.heap.size a w'->Q w')(hx:cG (wt++cA)=.inl false->∀a w',Db a->Below a.heap.size a w'->Calls prog 105 #[.pointer (some ⟨B,0,none⟩),.int .i64 (k:Int),.bool true] w' λe w''=>e=.returned (.tuple #[])/\Q w'')(hh:∀q n,cG (wt++cA)=.inr (q,n)->(wt++cA).length=n/\∀a w' fv ae,Db a->Below a.heap.size a w'->w'.ownsRow a.heap.size 95 2 fv q.2.1.length (ey q.2.1)->(∃a b c,fv=.slice a b c)->(∃a b c,ae=.slice a b c)->Calls prog 137 #[.pointer (some ⟨B,0,none⟩),.int .i64 (k:Int),.agg (aL {q.1 with fv:=fv,ae:=ae})] ((w'.setCell ⟨B,3+k*19+1,none⟩ (.string (bs []))).drew.setCell ⟨B,3+k*19+18,none⟩ (.int .i64 now)).drew λe w''=>e=.returned (.tuple #[])/\Rv B k Q w''):Calls prog 103 #[.pointer (some ⟨B,0,none⟩),.int .i64 (k:Int),.string (bs cA)] w λe w'=>e=.returned (.bool true)/\Q w':=by
 have h8:(k:Int)<8:=by omega
 have cV:=QV B (k:Int) V w h;have hop:mf V (k:Int)=true:=by unfold mf;simp[hc,h8]
 rw[hop]at cV;have c0:=(F5 h hk hc).1;have c1:=(F5 h hk hc).2.1;rw[hw]at c1;have f1:w.frozen? ⟨B,3+k*19+1,none⟩=false:=cM h;have y7:=ac cV;have HH:=ac h;have xM:=ac xn;have iU:=ac hJ;have HS:=ac hs;have cR:=ac hx;have Ik:=ac hh;clear cV h xn hJ hs hx hh;have hap:(bs wt)++(bs cA)=bs (wt++cA):=(li _ _).symm;have hsz:¬9223372036854775807<(bs wt).size+(bs cA).size:=by simp[bs,ByteArray.size];omega
 go_enter func103,ntmps103;go_wp2_with fail;refine y7.aa.mono ?_;rintro e w1 ⟨rfl,hw1⟩;rw[hw1];clear hw1;go_wp2_with fail;go_region;go_wp2_with fail;go_loopw[10] (λ_ wx=>Db wx\/Rv B k Q wx) (λ_ wx=>FX B k wx);case atStart=>exact ai xM.aa
 case round=>rcases hrel with h0|h1;(·have LL:=ac h0;obtain⟨o0,o1,⟨o2,o3⟩,o4,⟨Qf,Qg⟩,v,akR⟩:=iU.aa _ h0;have hlB:=eH o1;simp only at hlB;have tU:=ac (aeF (bs (wt++cA)) wr o2 o3);clear h0 o2 o3;(have Xi:(bs (wt++cA)).data.toList=wt++cA:=by simp[bs]);rw[Xi]at tU;(have hls:(bs (wt++cA)).size=wt.length+cA.length:=by simp[bs,ByteArray.size]);cases hR:cG (wt++cA)with|inl b=>(rw[hR]at tU HS cR;cases b with|true=>have abW:=ac (HS.aa rfl);clear HS cR Ik;go_wp2_with fail;refine tU.aa.mono ?_;rintro e w2 ⟨hb,he⟩;have bp:=ac hb;have he:e=.returned (.tuple #[.agg (aL bA),.int .i64 0,.int .i64 3]):=he;subst he;simp only[aL,bA];clear hb;go_wp2;go_ret;exact⟨rfl,abW.aa _ _ LL.aa (bp.aa.alloc bp.aa.size _)⟩|false=>have aca:=ac (cR.aa rfl);clear HS cR Ik;go_wp2_with fail;refine tU.aa.mono ?_;rintro e w2 ⟨hb,he⟩;have bp:=ac hb;have he:e=.returned (.tuple #[.agg (aL bA),.int .i64 0,.int .i64 2]):=he;subst he;simp only[aL,bA];clear hb;go_wp2_with fail;refine(aca.aa _ _ LL.aa (bp.aa.alloc bp.aa.size _)).mono ?_;rintro e w3 ⟨rfl,hq⟩;have bH:=ac hq;clear hq;go_wp2;go_ret;exact⟨rfl,bH.aa⟩)|inr qn=>obtain⟨⟨p,fs,cs⟩,n⟩:=qn;rw[hR]at tU;obtain⟨hn,W8⟩:=Ik.aa _ _ hR;have RO:=ac W8;have hn0:=BJ hR;clear HS cR Ik W8 hR;go_wp2_with fail;refine tU.aa.mono ?_;rintro e w2 ⟨hb,fv,ae,he,hr1,hr2⟩;have bp:=ac hb;subst he;obtain⟨q1,k1,rfl⟩:=br.bI hr1;obtain⟨q2,k2,rfl⟩:=br.bI hr2;have Sl:=ac hr1;have H0:=ac (RO.aa wr (w2.alloc (.cells (aL {p with fv:=.slice q1 fs.length k1,ae:=.slice q2 cs.length k2}) 36)) (.slice q1 fs.length k1) (.slice q2 cs.length k2) LL.aa (hb.alloc hb.size _) (hr1.alloc _) ⟨_,_,_,rfl⟩ ⟨_,_,_,rfl⟩);(have kA:w2.cell? ⟨B,3+k*19+1,none⟩=some (.string (bs (wt++cA))):=by rw[hb.cell hlB];exact o1);(have Re:w2.frozen? ⟨B,3+k*19+1,none⟩=false:=by rw[hb.frozen hlB];exact Qf);(have EO:w2.frozen? ⟨B,3+k*19+18,none⟩=false:=by rw[hb.frozen hlB];exact Qg);(have z2:w2.cell? ⟨B,2,none⟩=some (.int .i64 now):=by rw[hb.cell hlB];exact o4);(have aaG:w2.cell? ⟨B,3+k*19+18,none⟩=some (.int .i64 v):=by rw[hb.cell hlB];exact akR);have J2:B<w2.heap.size:=cw hlB hb.size;simp only[aL]at H0⊢;clear hb hr1 hr2 RO Sl;have hnew:=cj w2 (.cells #[.int .i64 p.kind,.bool p.aR,.bool p.will,.int .i64 p.ah,.string (bs p.aq),.bool p.aS,.int .i64 p.code,.bool p.dup,.int .i64 p.qos,.bool p.aF,.string (bs p.ak),.string (bs p.az),.int .i64 p.id,.slice q1 fs.length k1,.slice q2 cs.length k2] 36);go_wp2_with fail;have y1:=gA kA (.cells #[.int .i64 p.kind,.bool p.aR,.bool p.will,.int .i64 p.ah,.string (bs p.aq),.bool p.aS,.int .i64 p.code,.bool p.dup,.int .i64 p.qos,.bool p.aF,.string (bs p.ak),.string (bs p.az),.int .i64 p.id,.slice q1 fs.length k1,.slice q2 cs.length k2] 36);have y2:=gA z2 (.cells #[.int .i64 p.kind,.bool p.aR,.bool p.will,.int .i64 p.ah,.string (bs p.aq),.bool p.aS,.int .i64 p.code,.bool p.dup,.int .i64 p.qos,.bool p.aF,.string (bs p.ak),.string (bs p.az),.int .i64 p.id,.slice q1 fs.length k1,.slice q2 cs.length k2] 36);have aaE:=gA aaG (.cells #[.int .i64 p.kind,.bool p.aR,.bool p.will,.int .i64 p.ah,.string (bs p.aq),.bool p.aS,.int .i64 p.code,.bool p.dup,.int .i64 p.qos,.bool p.aF,.string (bs p.ak),.string (bs p.az),.int .i64 p.id,.slice q1 fs.length k1,.slice q2 cs.length k2] 36);have apS:(w2.alloc (.cells #[.int .i64 p.kind,.bool p.aR,.bool p.will,.int .i64 p.ah,.string (bs p.aq),.bool p.aS,.int .i64 p.code,.bool p.dup,.int .i64 p.qos,.bool p.aF,.string (bs p.ak),.string (bs p.az),.int .i64 p.id,.slice q1 fs.length k1,.slice q2 cs.length k2] 36)).frozen? ⟨B,3+k*19+1,none⟩=false:=(qB (w:=w2) (cU _ _ _ J2)).trans Re;have aaF:(w2.alloc (.cells #[.int .i64 p.kind,.bool p.aR,.bool p.will,.int .i64 p.ah,.string (bs p.aq),.bool p.aS,.int .i64 p.code,.bool p.dup,.int .i64 p.qos,.bool p.aF,.string (bs p.ak),.string (bs p.az),.int .i64 p.id,.slice q1 fs.length k1,.slice q2 cs.length k2] 36)).frozen? ⟨B,3+k*19+18,none⟩=false:=(qB (w:=w2) (cU _ _ _ J2)).trans EO;generalize w2.alloc (.cells #[.int .i64 p.kind,.bool p.aR,.bool p.will,.int .i64 p.ah,.string (bs p.aq),.bool p.aS,.int .i64 p.code,.bool p.dup,.int .i64 p.qos,.bool p.aF,.string (bs p.ak),.string (bs p.az),.int .i64 p.id,.slice q1 fs.length k1,.slice q2 cs.length k2] 36)=W3 at *;(have aiu:(bs (wt++cA)).extract n (wt.length+cA.length)=bs []:=by rw[<-hn,bT];simp[bs];rfl);(have hnl:(n:Int)<=((bs (wt++cA)).size:Int):=by rw[hls,<-hn,bT];omega);clear kA z2 aaG Re EO;go_region;have q2:(W3.setCell ⟨B,3+k*19+1,none⟩ (.string (bs []))).drew.cell? ⟨B,2,none⟩=some (.int .i64 now):=(wT _ _ _ _ (by simp)).trans y2;have alR:(W3.setCell ⟨B,3+k*19+1,none⟩ (.string (bs []))).drew.cell? ⟨B,3+k*19+18,none⟩=some (.int .i64 v):=(wT _ _ _ _ (by simp)).trans aaE;have alS:(W3.setCell ⟨B,3+k*19+1,none⟩ (.string (bs []))).drew.frozen? ⟨B,3+k*19+18,none⟩=false:=(FR _ _ _ _).trans aaF;(have hne:w2.heap.size≠B:=by omega);have oD:(W3.setCell ⟨B,3+k*19+1,none⟩ (.string (bs []))).drew.heap[w2.heap.size]?=_:=(ck _ _ _ _ hne).trans hnew;clear y1 y2 aaE apS aaF hnew;generalize(W3.setCell ⟨B,3+k*19+1,none⟩ (.string (bs []))).drew=yc at *;go_wp2_with fail;go_region;have cH:(yc.setCell ⟨B,3+k*19+18,none⟩ (.int .i64 now)).drew.heap[w2.heap.size]?=_:=(ck _ _ _ _ hne).trans oD;generalize(yc.setCell ⟨B,3+k*19+18,none⟩ (.int .i64 now)).drew=W5 at *;obtain⟨r0,r1,r2,r3,r4,r5,r6,asC,asD,asE,asx,asy,asz,asA,asB⟩:=ew.lD cH;clear q2 alR alS oD cH;go_wp2_with fail;refine H0.aa.mono ?_;rintro e cQ ⟨rfl,h6⟩;(have hm0:FX B k wr=wt.length+cA.length:=by unfold FX;rw[o1];exact hls);(have ah8:FX B k cQ=0:=by unfold FX;rw[h6.buf];rfl);have xD:=ac h6;clear h6;go_wp2_with fail;exact⟨ag xD.aa,by rw[hm0,ah8];rw[bT]at hn;omega⟩);·obtain⟨⟨o,o0⟩,o1,⟨o2,o3⟩,o4⟩:=h1;have hlB:=eH o1;simp only at hlB;cases o with|false=>have bH:=ac (o4 _ (aN _ _));clear o2 o3 o4;go_wp2;go_ret;exact⟨rfl,bH.aa⟩|true=>have tU:=ac (aeF (bs []) wr o2 o3);have bH:=ac o4;clear o2 o3 o4;go_wp2_with fail;refine tU.aa.mono ?_;rintro e w2 ⟨hb,he⟩;have bp:=ac hb;have he:e=.returned (.tuple #[.agg (aL bA),.int .i64 0,.int .i64 3]):=he;subst he;simp only[aL,bA];clear hb;go_wp2;go_ret;exact⟨rfl,bH.aa _ (bp.aa.alloc bp.aa.size _)⟩
end dr
namespace dr
open Go.RowKit aD av aM br Go.Maps b7 bJ cT bX
theorem bP.ym(h:bP P w V H os){j:Nat}(hk:k<8)(hc:V.aZ k=some (c,d))(c':b9)(v:Value)(hj:j+1<=19)(he:c'.bg=c.bg/\c'.aJ=c.aJ)(hx:fp (some (c',d))=(fp (some (c,d))).take j++[v]++(fp (some (c,d))).drop (j+1)):bQ P V w {V with aZ:=upd V.aZ k (some (c',d))} {H with aA:=upd H.aA k (some c')} os (w.setCell ⟨P.B,3+k*19+j,none⟩ v):=by
 have hb:But (λb=>b=P.B) w (w.setCell ⟨P.B,3+k*19+j,none⟩ v):=But.set w ⟨P.B,3+k*19+j,none⟩ _ rfl;have cB:∀{b:Nat}{c:Array Value}{t':TypeId},w.heap[b]?=some (.cells c t')->t'≠160->(w.setCell ⟨P.B,3+k*19+j,none⟩ v).heap[b]?=w.heap[b]?:=λhc ht=>hb.ah _ (aG hc) ((h.kind hc).1 ht);have hblk:(w.setCell ⟨P.B,3+k*19+j,none⟩ v).heap[P.B]?=some (.cells (dh {V with aZ:=upd V.aZ k (some (c',d))}) 160):=by rw[<-Jb V hk [v] (some (c',d)) (j:=j) (by simpa using hj) (by rw[hc];exact hx)];exact vZ [v] w (3+k*19+j) _ h.blk
 have hsp:∀i,fw {V with aZ:=upd V.aZ k (some (c',d))} i=fw V i:=λi=>by unfold fw upd;simp only;by_cases e:i=k;(·rw[ax e,e,hc]);·rw[au e]
 refine wU (h.turn {V with aZ:=upd V.aZ k (some (c',d))} {H with aA:=upd H.aA k (some c')} os k _ hb (λb e=>h.n0 b (ai e)) hblk h.now (λi hi=>?_) (by simp only[hsp];exact bM h.aO (λb e=>by obtain⟨c,hc⟩:=aU h.aO e;exact cB hc (by decide))) (bM h.ret (λb e=>by obtain⟨c,hc⟩:=aU h.ret e;exact cB hc (by decide))) (bM h.aa (λb e=>by obtain⟨c,hc⟩:=aU h.aa e;exact cB hc (by decide))) ⟨λ_ e=>ai e,λ_ e=>ai e,λ_ e=>ai e⟩ (λi c1 d1 p1 hi e1 e2=>?_)) (λg1 g2=>⟨g1,hb.wide (λb _ e=>ai e),g2⟩);·unfold upd;simp only;by_cases e:i=k;(·rw[ax e,ax e];rfl);·rw[au e,au e];exact h.pl i hi
 ·have e1:(if i=k then some (c',d)else V.aZ i)=some (c1,d1):=e1;(have old:∃c0,V.aZ i=some (c0,d1)/\c0.bg=some p1/\c0.aJ=c1.aJ:=by by_cases e:i=k;(·rw[ax e]at e1;cases e1;exact⟨c,by rw[e];exact hc,he.1▸e2,he.2.symm⟩);·rw[au e]at e1;exact⟨c1,e1,e2,rfl⟩);obtain⟨c0,f1,f2,f3⟩:=old;refine ai ⟨c0,f1,f2,f3,λb e e'=>?_⟩;have hS:=h.sat i c0 d1 p1 hi f1 f2;rcases e with rfl|e;(·exact(h.kind hS.blk).1 (by decide) e');·obtain⟨bX,hc⟩:=aU hS.aJ e;exact(h.kind hc).1 (by decide) e'
theorem ZR(hc:H.aA k=some c)(l:List UInt8):H.cI k l={H with aA:=upd H.aA k (some {c with wait:=l})}:=by unfold aj.cI;rw[hc];rfl
theorem WL(hc:H.aA k=some c):H.hear k={H with aA:=upd H.aA k (some {c with heard:=H.now})}:=by unfold aj.hear;rw[hc];rfl
theorem bP.wait(h:bP P w V H os)(hk:k<8)(hc:V.aZ k=some (c,d))(l:List UInt8):bQ P V w {V with aZ:=upd V.aZ k (some ({c with wait:=l},d))} (H.cI k l) os (w.setCell ⟨P.B,3+k*19+1,none⟩ (.string (bs l))):=by rw[ZR (by rw[h.pl k hk,hc];rfl) l];exact h.ym hk hc {c with wait:=l} _ (by decide) ⟨rfl,rfl⟩ rfl
theorem bP.hear(h:bP P w V H os)(hk:k<8)(hc:V.aZ k=some (c,d)):bQ P V w {V with aZ:=upd V.aZ k (some ({c with heard:=H.now},d))} (H.hear k) os (w.setCell ⟨P.B,3+k*19+18,none⟩ (.int .i64 H.now)):=by rw[WL (by rw[h.pl k hk,hc];rfl)];exact h.ym hk hc {c with heard:=H.now} _ (by decide) ⟨rfl,rfl⟩ rfl
theorem apx(H:aj)(k:Nat)(l l':List UInt8):(H.cI k l).cI k l'=H.cI k l':=by
 unfold aj.cI;congr 1;funext i;unfold upd;simp only;by_cases e:i=k;·rw[ax e,ax e,ax trivial];cases H.aA k<;>rfl
 ·rw[au e,au e,au e]
theorem bP.ready(h:bP P w V H os)(hk:k<8)(hc:V.aZ k=some (c,d)):∃V' c' d',V'.aZ k=some (c',d')/\bQ P V w V' ((H.cI k []).hear k) os ((w.setCell ⟨P.B,3+k*19+1,none⟩ (.string (bs []))).drew.setCell ⟨P.B,3+k*19+18,none⟩ (.int .i64 H.now)).drew:=by have g2:=(h.wait hk hc []).down (aN _ _).drew;have g3:=g2.1.hear (c:={c with wait:=[]}) (d:=d) hk (by unfold upd;simp);exact⟨_,_,d,by unfold upd;simp;rfl,(g2.trans g3).down (aN _ _).drew⟩
theorem bP.buf(h:bP P w V H os)(hk:k<8)(hw:∀c,H.aA k=some c->c.wait=[]):(∃o,w.cell? ⟨P.B,3+k*19,none⟩=some (.bool o))/\w.cell? ⟨P.B,3+k*19+1,none⟩=some (.string (bs [])):=by refine⟨⟨_,I8 h.blk hk⟩,ar h.blk ?_⟩;rw[wZ V hk (by decide)];cases hc:V.aZ k with|none=>rfl|some x=>obtain⟨c,d⟩:=x;have:=hw c (by rw[h.pl k hk,hc];rfl);show some (Value.string (bs c.wait))=_;rw[this]
theorem bP.feed(h:bP P w V H os)(hO:bZ H)(hD:eP H)(hk:k<8)(hc:V.aZ k=some (c,d))(cA:List UInt8)(hpl:o7 (c.wait++cA))(hlen:c.wait.length+cA.length<=1000000)(hL:os.length<1000):Calls prog 103 #[.pointer (some ⟨P.B,0,none⟩),.int .i64 (k:Int),.string (bs cA)] w λe w'=>e=.returned (.bool true)/\∃V',bQ P V w V' (ux k H (c.wait++cA)).1 (os++(ux k H (c.wait++cA)).2) w':=by
 have hcon:H.aA k=some c:=by rw[h.pl k hk,hc];rfl
 have ez:=CI hO k (c.wait++cA);have ot:=Ga hD k (c.wait++cA);refine afi P.B k cA c.wait V w H.now hk h.blk c d hc rfl _ (λa=>∃V1,bQ P V w V1 (H.cI k (c.wait++cA)) os a/\V1.aZ k=some ({c with wait:=c.wait++cA},d)) hlen ⟨_,(h.wait hk hc _).down (aN _ _).drew,by unfold upd;simp⟩ ?_ ?_ ?_ ?_;·rintro a ⟨V1,h1,h2⟩;have hb:=h1.1.blk;obtain⟨i0,i1,_,_,_,_,_,_,_,_,_,_,_,_,_,_,_,_,aiE⟩:=F5 hb hk h2;exact⟨i0,i1,⟨h1.1.gd.env.inv,bi h1.1.gd.env.low h1.1.gd.env.size⟩,by rw[show H.now=V1.now from h1.1.now.symm];exact ar hb (Dt V1 (j:=2) (by decide)),⟨cM hb,cM hb⟩,_,aiE⟩
 ·rintro hR a w' ⟨V1,h1,_⟩ hb;(have e:ux k H (c.wait++cA)=(H.cI k (c.wait++cA),[]):=by unfold ux;rw[hR]);rw[e,ek];exact⟨V1,h1.down hb⟩
 ·rintro hR a w' ⟨V1,h1,h2⟩ hb;(have e:ux k H (c.wait++cA)=((H.cI k (c.wait++cA)).cut k,(H.cI k (c.wait++cA)).dZ k):=by unfold ux;rw[hR]);rw[e];exact((h1.1.down hb).F4 ez ot hk h2 true (by omega)).mono λe w'' ⟨i1,wS,i2⟩=>⟨i1,wS,(h1.down hb).trans i2⟩
 ·intro q n hR;obtain⟨p,fs,cs⟩:=q;obtain⟨Ke,hn⟩:=hpl p fs cs n hR;have bY:=BJ hR;refine⟨by omega,?_⟩;rintro a w' fv ae ⟨V1,h1,h2⟩ hb hr1 cE hcv;(have e:ux k H (c.wait++cA)=((bV k ((H.cI k []).hear k) (p,fs,cs)).1,(bV k ((H.cI k []).hear k) (p,fs,cs)).2.1):=by unfold ux;rw[hR]);rw[e];obtain⟨wS,c3,d3,hc3,g4⟩:=(h1.1.down hb).ready hk h2;rw[apx,show(H.cI k (c.wait++cA)).now=H.now from rfl]at g4;have iN:=JV (CI hO k []) k;have BV:=Ug (Ga hD k []) k;have hrow:((w'.setCell ⟨P.B,3+k*19+1,none⟩ (.string (bs []))).drew.setCell ⟨P.B,3+k*19+18,none⟩ (.int .i64 H.now)).drew.ownsRow 0 95 2 fv fs.length (ct fs):=bM (gG hr1).1 (λb hbb=>by have hge:=(gG hr1).2 b hbb;have hlt:=aG h1.1.blk;(have hne:b≠P.B:=by omega);exact(ck _ _ _ _ hne).trans (ck _ _ _ _ hne));(have hfn:∀b,fv.ownBlock=some b->¬wS.has P.B b:=λb hbb hv=>by have hge:=(gG hr1).2 b hbb;obtain⟨bX,dG⟩:=aU hr1 hbb;rcases g4.2.2 b hv with e|e;(·have:=h1.1.lt e;omega);·have:=aG dG;omega);refine(g4.1.hand iN BV hk hc3 p fs cs (Jg hR) (Jf hR) Ke fv ae hrow hcv hfn (by omega)).mono ?_;rintro e2 w'' ⟨rfl,acr,i2⟩;have i3:=(h1.down hb).trans (g4.trans i2);have uC:=i2.1.buf hk (λc' e'=>by obtain⟨c0,e1,_,e3⟩:=(Z6 k ((H.cI k []).hear k) (p,fs,cs)).2 k c' e';rw[e3];have e1:(if k=k then((if k=k then(H.aA k).map (λc=>{c with wait:=[]})else H.aA k):Option b9).map (λc=>{c with heard:=H.now})else(if k=k then(H.aA k).map (λc=>{c with wait:=[]})else H.aA k))=some c0:=e1;rw[ax rfl,ax rfl,hcon]at e1;cases e1;rfl);exact⟨rfl,uC.1,uC.2,⟨i2.1.gd.env.inv,bi i2.1.gd.env.low i2.1.gd.env.size⟩,λjo pq=>⟨acr,i3.down pq⟩⟩
end dr
namespace dr
open Go.RowKit aD av aM br Go.Maps b7 bX rd
theorem oh(H:aj)(k:Nat)(l:List UInt8)(j:Nat):(H.cI k l).aA j=(H.aA j).map (λc=>if j=k then{c with wait:=l}else c):=by
 show(if j=k then(H.aA k).map (λc=>{c with wait:=l})else H.aA j)=_;by_cases e:j=k;·rw[ax e,e];simp
 ·rw[au e];simp[e]
theorem UQ(H:aj)(k:Nat)(l:List UInt8)(j:Nat):((H.cI k l).aA j).map b9.aJ=(H.aA j).map b9.aJ:=by rw[oh];cases H.aA j with|none=>rfl|some c=>simp only[uq,lT];split<;>rfl
theorem WO(H:aj)(k:Nat)(l:List UInt8)(j:Nat):((H.cI k l).aA j).bind b9.bg=(H.aA j).bind b9.bg:=by rw[oh];cases H.aA j with|none=>rfl|some c=>simp only[uq,Option.bind_some];split<;>rfl
theorem Zj(H:aj)(k:Nat)(l:List UInt8)(m:bh):(H.cI k l).ky m=H.ky m:=by
 unfold aj.ky;have:gp (H.cI k l) m=gp H m:=funext λx=>by unfold gp Di;rw[UQ]
 rw[this];rfl
theorem Ha{A B:aj}(h1:A.now=B.now)(h2:∀j,A.aA j=B.aA j)(h3:A.aO=B.aO)(h4:A.ret=B.ret):A=B:=by obtain⟨a1,a2,a3,a4⟩:=A;obtain⟨b1,b2,b3,b4⟩:=B;simp only at h1 h3 h4;subst h1 h3 h4;have:a2=b2:=funext h2;rw[this]
theorem QL(H:aj)(k:Nat)(l:List UInt8):(H.cI k l).shut k=H.shut k:=Ha rfl (λj=>by show(if j=k then none else(H.cI k l).aA j)=if j=k then none else H.aA j;by_cases e:j=k;(·rw[ax e,ax e]);·rw[au e,au e,oh];simp[e]) rfl rfl
theorem aaw(H:aj)(k:Nat)(l:List UInt8)(j:Nat):(H.cI k l).mo j=H.mo j:=by unfold aj.mo;rw[WO]
theorem Nl(H:aj)(k:Nat)(l:List UInt8):(H.cI k l).cut k=H.cut k/\(H.cI k l).dZ k=H.dZ k:=by unfold aj.cut aj.dZ;rw[aaw,QL];exact⟨rfl,rfl⟩
theorem amM(H:aj)(k j:Nat)(l:List UInt8):(H.cI k l).shut j=(H.shut j).cI k l:=Ha rfl (λi=>by show(if i=j then none else(H.cI k l).aA i)=((H.shut j).cI k l).aA i;rw[oh,oh];show _=(if i=j then none else H.aA i).map _;by_cases e:i=j;(·rw[ax e,ax e];rfl);·rw[au e,au e]) rfl rfl
theorem aeD(H:aj)(k j:Nat)(l:List UInt8):(H.cI k l).cut j=(H.cut j).cI k l/\(H.cI k l).dZ j=H.dZ j:=by unfold aj.cut aj.dZ;rw[aaw,amM];cases H.mo j with|none=>exact⟨rfl,rfl⟩|some m=>exact⟨rfl,by simp only[Zj]⟩
theorem akZ(H:aj)(k:Nat)(cl l:List UInt8):(H.cI k l).off cl=(H.off cl).cI k l/\(H.cI k l).gY cl=H.gY cl:=by unfold aj.off aj.gY;rw[show(H.cI k l).fD cl=H.fD cl from rfl];cases h:H.fD cl with|none=>exact⟨rfl,rfl⟩|some j=>exact aeD H k j l
theorem UO(H:aj)(k:Nat)(l:List UInt8)(f:bR):(H.cI k l).cN k f=(H.cN k f).cI k l:=Ha rfl (λi=>by show(if i=k then((H.cI k l).aA k).map (λc=>{c with aJ:=f})else(H.cI k l).aA i)=((H.cN k f).cI k l).aA i;rw[oh,oh,oh];show _=(if i=k then(H.aA k).map (λc=>{c with aJ:=f})else H.aA i).map _;by_cases e:i=k;(·rw[ax e,ax e];cases H.aA k<;>simp[e]);·rw[au e,au e]) rfl rfl
theorem ajt(H:aj)(k:Nat)(l:List UInt8)(p:ay):(H.cI k l).join k p=(H.join k p).cI k l:=Ha rfl (λi=>by show(if i=k then((H.cI k l).aA k).map (λc=>{c with bg:=some (ji p),aJ:=[]})else(H.cI k l).aA i)=((H.join k p).cI k l).aA i;rw[oh,oh,oh];show _=(if i=k then(H.aA k).map (λc=>{c with bg:=some (ji p),aJ:=[]})else H.aA i).map _;by_cases e:i=k;(·rw[ax e,ax e];cases H.aA k<;>simp[e]);·rw[au e,au e]) rfl rfl
theorem ahv(H:aj)(k:Nat)(l:List UInt8):(H.cI k l).hear k=(H.hear k).cI k l:=Ha rfl (λi=>by show(if i=k then((H.cI k l).aA k).map (λc=>{c with heard:=H.now})else(H.cI k l).aA i)=((H.hear k).cI k l).aA i;rw[oh,oh,oh];show _=(if i=k then(H.aA k).map (λc=>{c with heard:=H.now})else H.aA i).map _;by_cases e:i=k;(·rw[ax e,ax e];cases H.aA k<;>simp[e]);·rw[au e,au e]) rfl rfl
theorem anb(H:aj)(k:Nat)(l:List UInt8)(q:bX.lK):bV k (H.cI k l) q=(if(bV k H q).2.2 then(bV k H q).1 else(bV k H q).1.cI k l,(bV k H q).2.1,(bV k H q).2.2):=by
 have dC:(H.cI k l).mW k=H.mW k:=by unfold aj.mW;rw[WO]
 have hfi:(H.cI k l).ct k=H.ct k:=by unfold aj.ct;rw[UQ]
 have hct:=Nl H k l;unfold bV;rw[dC,hfi];cases ho:H.mW k with|true=>simp only[gh];split;(·simp only[kB,iO,Zj];rfl);·split;(·rfl);·split;(·simp only[kB,iO,UO];rfl);·split;(·simp only[kB,iO,UO]);·split;(·rfl);·split;(·simp only[gh,QL]);·simp only[gh,hct.1,hct.2]|false=>simp only[kB,iO];split;(·split;(·simp only[gh,QL]);·have:=akZ H k q.1.aq l;simp only[kB,iO,this.1,this.2,ajt]);·simp only[gh,hct.1,hct.2]
theorem NK(H:aj)(k:Nat)(l:List UInt8)(hpl:o7 l):ux k H l=iq k H l:=by unfold ux iq j5 pz;cases hR:cG l with|inl b=>(cases b with|true=>rfl|false=>simp only[(Nl H k l).1,(Nl H k l).2];rfl)|inr qn=>obtain⟨⟨p,fs,cs⟩,n⟩:=qn;have hn:=(hpl p fs cs n hR).2;have h0:=BJ hR;have hdr:l.drop n=[]:=List.drop_of_length_le hn;simp only[hdr];rw[ahv,anb];cases hcl:(bV k (H.hear k) (p,fs,cs)).2.2 with|true=>(have e:br.stepT k H (p,fs,cs)=((bV k (H.hear k) (p,fs,cs)).1,(bV k (H.hear k) (p,fs,cs)).2.1.map some,true):=by unfold br.stepT;rw[hcl]);rw[e];simp only[gh];rw[NU]|false=>(have e:br.stepT k H (p,fs,cs)=((bV k (H.hear k) (p,fs,cs)).1,(bV k (H.hear k) (p,fs,cs)).2.1.map some,false):=by unfold br.stepT;rw[hcl]);(have:pz (br.stepT k) none l.length (bV k (H.hear k) (p,fs,cs)).1 []=((bV k (H.hear k) (p,fs,cs)).1,[],some []):=by obtain⟨f,hf⟩:∃f,l.length=f+1:=⟨l.length-1,by omega⟩;rw[hf];rfl);rw[e];simp[this]
end dr
namespace dr
open Go.RowKit aD av aM br Go.Maps b7 bJ cT bX
theorem akY(hD:eP H)(c:List UInt8):c ∉ (H.off c).aO.map Prod.fst:=λh=>by obtain⟨z,hz,e⟩:=i7.1 h;exact(KO hD.lI c z hz).2 e
theorem afv(hO:bZ H)(hD:eP H)(hc:H.aA k=some c)(ht:za p fs)(hp:Bp p):eP (bV k H (p,fs,cs)).1:=by
 have WS:H.ct k=c.aJ:=by unfold aj.ct;rw[hc];rfl
 have hF:=hD.aJ k c hc;unfold bV;cases ho:H.mW k with|true=>simp only[gh];split;(·rename_i h3;exact Uh hD (gj p) ⟨(ht.ia h3 (hp.ia h3)).1,(ht.ia h3 (hp.ia h3)).2⟩ (hp.ia h3));·split;(·exact hD);·split;(·rw[WS];exact Uf hD k _ (af0 hF fs (λf hf=>(ht.aJ f hf).1)));·split;(·rw[WS];exact Uf hD k _ (afZ hF fs));·split;(·exact hD);·split;(·exact BL hD k);·exact Dw hO hD k|false=>simp only[kB,iO];split;(·rename_i h1;split;(·exact BL hD k);·exact afs (aft hO hD _) k p (akY hD p.aq) (λhw=>⟨((ht.aA h1).2.2.2 hw).1,((ht.aA h1).2.2.2 hw).2⟩));·exact Dw hO hD k
theorem afr{l:List UInt8}(hO:bZ H)(hD:eP H)(hc:H.aA k=some c)(hpl:o7 l):eP (iq k H l).1:=by rw[<-NK H k l hpl];unfold ux;cases hR:rd.cG l with|inl b=>(cases b with|true=>exact Ga hD k l|false=>exact Dw (CI hO k l) (Ga hD k l) k)|inr qn=>obtain⟨⟨p,fs,cs⟩,n⟩:=qn;refine afv (JV (CI hO k []) k) (Ug (Ga hD k []) k) (c:={c with wait:=[],heard:=H.now}) ?_ (Jf hR) (hpl p fs cs n hR).1;rw[ZR hc,WL (c:={c with wait:=[]}) (by simp[upd])];simp[upd]
theorem Jk(hO:bZ H)(hD:eP H)(os:List aP):∀k,eP (cP H os k).1|0=>hD|k+1=>by show eP (jm (cP H os k) k).1;unfold jm;split;(·exact Dw (EE hO os k).1 (Jk hO hD os k) k);·exact Jk hO hD os k
theorem bQ.went{V':bB}{os':List aP}(h:bQ P V w V' H' os' w'):bG (jz P H' os') (V.has P.B) w w':=⟨V'.has P.B,⟨V',h.1,rfl⟩,h.2.1,h.2.2⟩
theorem Nw(h:bP P w V H os)(hk:k<8)(hc:H.aA k=some c):∃d,V.aZ k=some (c,d):=by have:=h.pl k hk;rw[hc]at this;cases e:V.aZ k with|none=>rw[e]at this;cases this|some x=>obtain⟨c',d⟩:=x;rw[e]at this;simp only[uq,lT]at this;exact⟨d,by rw[this]⟩
theorem aeH(hA:jz D H [] G w)(hO:bZ H)(hD:eP H)(hk:k<8)(hc:H.aA k=some c)(cA:List UInt8)(hpl:o7 (c.wait++cA))(hlen:c.wait.length+cA.length<=1000000):Calls prog 103 #[.pointer (some ⟨D.B,0,none⟩),.int .i64 (k:Int),.string (bs cA)] w λe w'=>e=.returned (.bool true)/\bG (jz D (iq k H (c.wait++cA)).1 (iq k H (c.wait++cA)).2) G w w':=by obtain⟨V,h,rfl⟩:=hA;obtain⟨d,hv⟩:=Nw h hk hc;refine(h.feed hO hD hk hv cA hpl hlen (by simp)).mono λe w' ⟨h1,V',h2⟩=>⟨h1,?_⟩;rw[NK H k _ hpl,lf]at h2;exact h2.went
theorem Y2(h:bP P w V H os)(hk:k<8)(hc:H.aA k=some c):mf V (k:Int)=true:=by
 obtain⟨d,hv⟩:=Nw h hk hc;have h8:(k:Int)<8:=by omega
 unfold mf;simp[hv,h8]
theorem aeG(hA:jz D H [] G w)(hO:bZ H)(hD:eP H)(hk:k<8)(hc:H.aA k=some c):Calls prog 74 #[.pointer (some ⟨D.B,0,none⟩),.int .i64 (k:Int)] w λe w'=>e=.returned (.bool true)/\bG (jz D (H.cut k) (H.dZ k)) G w w':=by obtain⟨V,h,rfl⟩:=hA;obtain⟨d,hv⟩:=Nw h hk hc;have ho:=Y2 h hk hc;have:=T4 D.B (k:Int) V w h.blk (λw'=>bG (jz D (H.cut k) (H.dZ k)) (V.has D.B) w w') (λ_=>(h.F4 hO hD hk hv true (by simp)).mono λe w' ⟨h1,V',h2⟩=>⟨h1,by have h2:bQ D V w V' (H.cut k) ([]++H.dZ k) w':=h2;rw[lf]at h2;exact h2.went⟩) (λe=>by rw[ho]at e;cases e);rw[ho]at this;exact this
theorem aeK(hA:jz D H [] G w)(hO:bZ H)(hk:k<8)(hc:H.aA k=none):Calls prog 73 #[.pointer (some ⟨D.B,0,none⟩),.int .i64 (k:Int)] w λe w'=>e=.returned (.bool true)/\bG (jz D (H.uQ k) []) G w w':=by obtain⟨V,h,rfl⟩:=hA;exact(h.open hO hk hc).mono λe w' ⟨h1,h2⟩=>⟨h1,h2.went⟩
theorem aeM(hA:jz D H [] G w)(hO:bZ H)(hD:eP H)(hT:kJ H)(n:Int)(hn:0<=n/\n<=100000):Calls prog 77 #[.pointer (some ⟨D.B,0,none⟩),.int .i64 n] w λe w'=>e=.returned (.bool true)/\bG (jz D (cP {H with now:=H.now+n} [] 8).1 (cP {H with now:=H.now+n} [] 8).2) G w w':=by
 obtain⟨V,h,rfl⟩:=hA;have ez:bZ {H with now:=H.now+n}:=⟨hO.aO,hO.len,hO.hel,hO.aJ,hO.ret⟩;have ot:eP {H with now:=H.now+n}:=⟨hD.lI,hD.aJ,hD.ret,hD.will⟩;refine(h.tick hO hD.lI n hn hT.now (λk c _ e=>hT.heard k c e) (by simp) (λi c p hi e1 e2 e3=>?_)).mono λe w' ⟨h1,V',h2⟩=>⟨h1,h2.went⟩;have hk:=EE ez [] i;have hcon:(cP {H with now:=H.now+n} [] i).1.aA i=some c:=by rw[hk.2.2.1 i (aC _)];exact e1
 have Vw:=Jk ez ot [] i;exact KY D (yT hk.1 i) (BL Vw i) (Vw.will i c p hcon e2 e3) (hk.1.hel i c p hcon e2).qos (by have:=hk.2.2.2;rw[bT];simp at this⊢;omega)
theorem aeI(hA:jz D H [] G w)(hO:bZ H)(c:List UInt8):Calls prog 78 #[.pointer (some ⟨D.B,0,none⟩),.string (bs c)] w λe w'=>e=.returned (.agg (uN (aj.yN H c)))/\Below w.heap.size w w':=by obtain⟨V,h,rfl⟩:=hA;exact h.look hO c
theorem T5(hA:jz D H [] G w)(n:Int)(hn:0<=n->n<8->H.aA n.toNat=none)(cA:List UInt8):(Calls prog 103 #[.pointer (some ⟨D.B,0,none⟩),.int .i64 n,.string (bs cA)] w λe w'=>e=.returned (.bool false)/\w'=w)/\(Calls prog 74 #[.pointer (some ⟨D.B,0,none⟩),.int .i64 n] w λe w'=>e=.returned (.bool false)/\w'=w):=by
 obtain⟨V,h,rfl⟩:=hA;have ho:mf V n=false:=by unfold mf;by_cases h1:0<=n;(·by_cases h2:n<8;(·have:=h.pl n.toNat (by omega);rw[hn h1 h2]at this;cases e:V.aZ n.toNat with|none=>simp|some x=>rw[e]at this;cases this);·simp[h2]);·simp[h1]
 constructor;·have cV:=QV D.B n V w h.blk;rw[ho]at cV;have y7:=ac cV;clear cV h hn ho;go_enter func103,ntmps103;go_wp2_with fail;refine y7.aa.mono ?_;rintro e w1 ⟨rfl,hw1⟩;rw[hw1];clear hw1;go_wp2;go_ret;exact⟨rfl,rfl⟩
 ·have:=T4 D.B n V w h.blk (λw'=>w'=w) (λe=>by rw[ho]at e;cases e) (λ_=>rfl);rw[ho]at this;exact this
theorem aeL(hA:jz D H [] G w)(n:Int)(hn:0<=n->n<8->∃c,H.aA n.toNat=some c):Calls prog 73 #[.pointer (some ⟨D.B,0,none⟩),.int .i64 n] w λe w'=>e=.returned (.bool false)/\w'=w:=by
 obtain⟨V,h,rfl⟩:=hA;refine afw D.B n V w h.blk ?_;by_cases h8:0<=n/\n<8;·obtain⟨c,hc⟩:=hn h8.1 h8.2;obtain⟨k,rfl⟩:∃k:Nat,n=(k:Int):=⟨n.toNat,by omega⟩;exact ag (Y2 h (by omega) hc)
 ·exact ai h8
theorem aeN(B:Nat)(n:Int)(w:World)(hn:n<0\/100000<n):Calls prog 77 #[.pointer (some ⟨B,0,none⟩),.int .i64 n] w λe w'=>e=.returned (.bool false)/\w'=w:=by
 rcases hn with h|h;·go_enter func77,ntmps77;go_wp2;go_ret;exact⟨rfl,rfl⟩
 ·(have h0:¬n<0:=by omega);go_enter func77,ntmps77;go_wp2;go_ret;exact⟨rfl,rfl⟩
def dx:aj:=⟨0,λ_=>none,[],[]⟩
theorem hok0:bZ dx:=⟨λx=>⟨λh=>(by simp[dx]at h),λ⟨_,c,p,h,_⟩=>(by cases h)⟩,(by simp[dx]),λ_ _ _ h=>(by cases h),λ_ _ h=>(by cases h),(by simp[dx])⟩
theorem afq:eP dx:=⟨List.Pairwise.nil,λ_ _ h=>(by cases h),⟨List.Pairwise.nil,λ_ h=>(by cases h)⟩,λ_ _ _ h=>(by cases h)⟩
theorem anN:kJ dx:=⟨by simp[dx],λ_ _ h=>by cases h⟩
theorem aeJ(D:bb)(win bf:Int)(w:World)(hg:kE D.N0 D.bW D.bc w)(h1:1<=win/\win<=8)(h2:0<=bf/\bf<=8):Calls prog 44 #[.agg #[.int .i64 win,.int .i64 bf]] w λe w'=>∃B G,e=.returned (.pointer (some ⟨B,0,none⟩))/\Below w.heap.size w w'/\jz {D with B:=B} dx [] G w'/\∀b,G b->w.heap.size<=b:=by
 refine(afl win bf w h1 h2).mono ?_;rintro e w' ⟨B,rfl,hB,hb,hl⟩;have hN:=hg.env.size;refine⟨B,_,rfl,hl,⟨⟨win,bf,0,λ_=>none,.slice none 0 0,.slice none 0 0,.slice none 0 0⟩,⟨hg.below (hl.mono hN),hb,rfl,λ_ _=>rfl,⟨rfl,ai ⟨rfl,rfl⟩⟩,⟨rfl,ai ⟨rfl,rfl⟩⟩,⟨rfl,ai ⟨rfl,rfl⟩⟩,λ_ _ _ _ _ h=>(by cases h),λ_ _ _ _ _ _ _ _ _ _ _ _ h=>(by cases h),λb hb=>?_⟩,rfl⟩,λb hb=>?_⟩;·rcases hb with rfl|e|e|e|⟨k,c,d,p,_,h,_⟩;(·exact bi hN hB);(·cases e);(·cases e);(·cases e);·cases h
 ·rcases hb with rfl|e|e|e|⟨k,c,d,p,_,h,_⟩;(·exact hB);(·cases e);(·cases e);(·cases e);·cases h
end dr
namespace dr
open Go.RowKit aD av aM br Go.Maps b7 cB
theorem alz(P:bb)(win:Int)(bf:Nat)(w:World)(hg:kE P.N0 P.bW P.bc w)(hw:P.win=win/\P.bf=bf)(hN:P.x9<=w.heap.size)(h1:1<=win/\win<=8)(h2:bf<=8):Calls prog 43 #[.agg #[.int .i64 win,.int .i64 (bf:Int)]] w λe w'=>∃B F,e=.returned (.tuple #[.pointer (some ⟨B,0,none⟩),.int .i64 0])/\Below w.heap.size w w'/\nj {P with B:=B} dx F w'/\∀b,F b->w.heap.size<=b:=by
 refine(akz win (bf:Int) w h1.1 h1.2 (by omega) (by omega)).mono ?_;rintro e w' ⟨B,ba,rfl,hl,hB,hmb,hblk,hmap⟩;have hs:=hg.env.size;have has:∀b,(⟨⟨win,bf,λ_=>.pointer none,ba,.slice none 0 0,0⟩,.slice none 0 0,[],λ_=>none,.map [],0⟩:dg).has B b->w.heap.size<=b:=λb hb=>by rcases hb with rfl|(e|⟨x,hx,_⟩)|rfl|e|⟨k,s,_,h,_⟩;(·exact hB);(·cases e);(·cases hx);(·exact hmb);(·cases e);·cases h
 refine⟨B,_,rfl,hl,⟨⟨⟨win,bf,λ_=>.pointer none,ba,.slice none 0 0,0⟩,.slice none 0 0,[],λ_=>none,.map [],0⟩,⟨hg.below (hl.mono hs),hblk,rfl,⟨hw.1.symm,by rw[<-hw.2],rfl⟩,λ_ _ _ h=>(by cases h),λ_ _ _ h=>(by cases h),λ_ _=>rfl,λ_ _ _ _ _ _ _ _ h=>(by cases h),hmap,⟨rfl,ai ⟨rfl,rfl⟩⟩,λ_ _=>rfl,?_,λb hb=>bi hs (has b hb),⟨bi hN hl.size,λb hb=>?_⟩,λ_ _ _ h=>(by cases h),λ_ _ _ h=>(by cases h),List.Pairwise.nil⟩,rfl,rfl,rfl⟩,has⟩;·exact br.cX.nil
 ·rcases hb with e|⟨x,hx,_⟩;(·cases e);·cases hx
theorem acK(B m:Nat)(aq:List UInt8)(D:DataW Unit)(aH:dD)(aI:Value)(L:List (aP×Value))(w:World)(h:dn w B aH aI L)(hM:w.ownsMap prog 9 gv aH.ba m D)(hcl:aq.length<=1000000000)(hD:Maps.has D (.string aq)=false):Calls prog 29 #[.pointer (some ⟨B,0,none⟩),.string (bs aq)] w λe w'=>e=.returned (.agg #[.bool false,.bool false,.int .i64 0,.int .i64 0,.int .i64 0])/\Below w.heap.size w w':=by
 have js:w.cell? ⟨B,10,none⟩=some (.map (some aH.ba)):=ar h.blk rfl;have hkey:keyOf prog 9 (.string (bs aq))=some (.string aq):=by(have hs:(bs aq).size=aq.length:=by simp[bs,ByteArray.size]);exact Go.WideMaps.keyOf_string_mk underlying9 (s:=bs aq) (by rw[hs];unfold maxLen;omega)
 have hlk:∀W:World,W.ownsMap prog 9 gv aH.ba m D->(Instr.lookup 126 (.map (some aH.ba)) (.string (bs aq)) true).run prog W=.ok (.tuple #[.pointer none,.bool false]) W:=λW hW=>by obtain⟨v,ps,hrun,hv⟩:=hW.look_ok (t:=126) (e:=135) xo underlying126 (EM _) (zd:=.nil) (zp:=[]) rfl hkey;rw[atKey_none hD]at hv;obtain rfl:=Qt hv;rw[hD]at hrun;exact hrun
 obtain⟨es,cl,hmb⟩:=mV hM;have hlm:=aG hmb;have hlB:=aG h.blk;have fk:=ac λw' (hb:Below w.heap.size w w')=>q7 hM (hb.block _ hlm);clear h hM hmb;go_enter func29,ntmps29;go_wp2;have bK:=cj w (.cells #[.bool false,.bool false,.int .i64 0,.int .i64 0,.int .i64 0] 80);have aW:=(aN w.heap.size w).alloc (aC _) (.cells #[.bool false,.bool false,.int .i64 0,.int .i64 0,.int .i64 0] 80);generalize w.alloc (.cells #[.bool false,.bool false,.int .i64 0,.int .i64 0,.int .i64 0] 80)=W1 at *;rw[hlk _ (fk.aa _ aW)];have d0:W1.cell? ⟨w.heap.size,0,none⟩=some (.bool false):=ar bK rfl;have d1:W1.cell? ⟨w.heap.size,1,none⟩=some (.bool false):=ar bK rfl;have d2:W1.cell? ⟨w.heap.size,2,none⟩=some (.int .i64 0):=ar bK rfl;have d3:W1.cell? ⟨w.heap.size,3,none⟩=some (.int .i64 0):=ar bK rfl;have d4:W1.cell? ⟨w.heap.size,4,none⟩=some (.int .i64 0):=ar bK rfl;have Nt:∀i,W1.frozen? ⟨w.heap.size,i,none⟩=false:=λi=>cM bK;have bD:=ac aW;clear hlk js aW bK;go_wp2;obtain⟨W5,fV⟩:∃W5,W5=((((W1.setCell ⟨w.heap.size,0,none⟩ (.bool false)).setCell ⟨w.heap.size,1,none⟩ (.bool false)).setCell ⟨w.heap.size,2,none⟩ (.int .i64 0)).setCell ⟨w.heap.size,3,none⟩ (.int .i64 0)).setCell ⟨w.heap.size,4,none⟩ (.int .i64 0):=⟨_,rfl⟩;have ed:Below w.heap.size w W5:=by rw[fV];exact((((bD.aa.setCell (aC _) _).setCell (aC _) _).setCell (aC _) _).setCell (aC _) _).setCell (aC _) _
 have m0:W5.cell? ⟨w.heap.size,0,none⟩=some (.bool false):=by rw[fV];exact so (by decide) (so (by decide) (so (by decide) (so (by decide) (ss d0))))
 have m1:W5.cell? ⟨w.heap.size,1,none⟩=some (.bool false):=by rw[fV];exact so (by decide) (so (by decide) (so (by decide) (ss (so (by decide) d1))))
 have m2:W5.cell? ⟨w.heap.size,2,none⟩=some (.int .i64 0):=by rw[fV];exact so (by decide) (so (by decide) (ss (so (by decide) (so (by decide) d2))))
 have m3:W5.cell? ⟨w.heap.size,3,none⟩=some (.int .i64 0):=by rw[fV];exact so (by decide) (ss (so (by decide) (so (by decide) (so (by decide) d3))))
 have m4:W5.cell? ⟨w.heap.size,4,none⟩=some (.int .i64 0):=by rw[fV];exact ss (so (by decide) (so (by decide) (so (by decide) (so (by decide) d4))))
 rw[<-fV];refine dJ (v:=.agg #[.bool false,.bool false,.int .i64 0,.int .i64 0,.int .i64 0]) (by simp[results,results29,go_sem,m0,m1,m2,m3,m4]) rfl ⟨rfl,ed⟩
theorem aly(hR:nj P H F w)(hO:bZ H)(c:List UInt8)(hl:c.length<=1000000000):Calls prog 29 #[.pointer (some ⟨P.B,0,none⟩),.string (bs c)] w λe w'=>e=.returned (.agg (uN (aj.yN H c)))/\Below w.heap.size w w':=by obtain⟨Q,h,rfl,_,_⟩:=hR;unfold aj.yN aj.fD;cases hf:H.aO.find? (λx=>x.1==c)with|none=>(simp only[Option.map_none];refine acK P.B Q.nn c Q.D Q.aH Q.aI Q.L w h.blk h.map hl ?_;cases hh:Maps.has Q.D (.string c)with|false=>rfl|true=>have:=(h.fI.has c).1 hh;obtain⟨x,hx,e⟩:=i7.1 this;obtain⟨y,hy,rfl⟩:=i7.1 hx;have:=FJ.1 hf y hy;exact absurd (show y.1=c from e) (by simpa using this))|some x=>have hx:=zE hf;(have Ef:x.1=c:=by have:=List.find?_some hf;simpa using this);obtain⟨h8,s,h1,h2,h3,h4,h5⟩:=h.Qj hO hx;have hS:=h.slt x.2 s h8 h1;have hok:=h.ok x.2 s h8 h1 h2;have:=acJ P.B Q.nn s.X.ae.sp c Q.D Q.aH Q.aI Q.L s.X.sv s.S (s.X.x,s.X.y) w h.blk h.map (by rw[<-Ef];exact h4) (h.fI.val c _ (by rw[<-Ef];exact h5)) ((h.fI.has c).2 (i7.2 ⟨_,h5,Ef⟩)) (hS.aO h2) (hS.snd h2);refine this.mono λe w' ⟨i1,i2⟩=>⟨?_,i2⟩;rw[i1];simp only[uq,h3];unfold br.uN;rw[hok.2.1];rfl
theorem Zh(hR:nj P H F w)(n:Int)(hn:0<=n->n<8->H.aA n.toNat=none)(d:Value):(Calls prog 24 #[.pointer (some ⟨P.B,0,none⟩),.int .i64 n,d] w λe w'=>e=.returned (.tuple #[.slice none 0 0,.int .i64 4])/\Below w.heap.size w w')/\(Calls prog 52 #[.pointer (some ⟨P.B,0,none⟩),.int .i64 n] w λe w'=>e=.returned (.tuple #[.slice none 0 0,.int .i64 4])/\Below w.heap.size w w'):=by
 obtain⟨Q,h,rfl,_,_⟩:=hR;have hs:MG Q.aH n:=λk hk e=>by subst e;have h1:=h.pl k hk;have h2:=hn (by omega) (by omega);rw[Int.toNat_natCast]at h2;rw[h2]at h1;rw[h.kO k hk];cases e:Q.sl k with|none=>rfl|some s=>rw[e]at h1;cases h1
 exact⟨Yi P.B 24 n d _ Q.aH Q.aI w (ai ⟨rfl,rfl⟩) h.blk.blk hs,Yi P.B 52 n d _ Q.aH Q.aI w (ag ⟨rfl,rfl⟩) h.blk.blk hs⟩
theorem alA(hR:nj P H F w)(n:Int)(hn:0<=n->n<8->∃c,H.aA n.toNat=some c):Calls prog 23 #[.pointer (some ⟨P.B,0,none⟩),.int .i64 n] w λe w'=>e=.returned (.int .i64 4)/\w'=w:=by obtain⟨Q,h,rfl,_,_⟩:=hR;refine ak9 P.B n Q.aH Q.aI w h.blk.blk λh0 h8=>?_;obtain⟨c,hc⟩:=hn h0 h8;have h1:=h.pl n.toNat (by omega);rw[hc]at h1;rw[h.kO n.toNat (by omega)];cases e:Q.sl n.toNat with|none=>rw[e]at h1;cases h1|some s=>exact⟨_,rfl⟩
def IZ(win bf:Int):Prop:=win<1\/8<win\/bf<0\/8<bf
theorem YO(win bf:Int)(w:World)(h:IZ win bf):(Calls prog 43 #[.agg #[.int .i64 win,.int .i64 bf]] w λe w'=>e=.returned (.tuple #[.pointer none,.int .i64 1])/\Below w.heap.size w w')/\(Calls prog 44 #[.agg #[.int .i64 win,.int .i64 bf]] w λe w'=>e=.returned (.pointer none)/\Below w.heap.size w w'):=by
 have bO:=ac λo=>(aN w.heap.size w).alloc (aC _) o;unfold IZ at h;by_cases h1:win<1;·clear h;constructor;(·go_enter func43,ntmps43;go_wp2;go_ret2;exact⟨rfl,bO.aa _⟩);·go_enter func44,ntmps44;go_wp2;go_ret;exact⟨rfl,bO.aa _⟩
 by_cases h2:8<win;·clear h;constructor;(·go_enter func43,ntmps43;go_wp2;go_ret2;exact⟨rfl,bO.aa _⟩);·go_enter func44,ntmps44;go_wp2;go_ret;exact⟨rfl,bO.aa _⟩
 by_cases h3:bf<0;·clear h;constructor;(·go_enter func43,ntmps43;go_wp2;go_ret2;exact⟨rfl,bO.aa _⟩);·go_enter func44,ntmps44;go_wp2;go_ret;exact⟨rfl,bO.aa _⟩
 ·(have h4:8<bf:=by omega);clear h;constructor;(·go_enter func43,ntmps43;go_wp2;go_ret2;exact⟨rfl,bO.aa _⟩);·go_enter func44,ntmps44;go_wp2;go_ret;exact⟨rfl,bO.aa _⟩
end dr
namespace lt
open Go.RowKit aD av aM br dr Go.Maps
theorem apN(h:os[k]?=some o):(os.flatMap mY)[k*3]?=some (.int .i64 o.conn)/\(os.flatMap mY)[k*3+1]?=some (.string (bs o.data))/\(os.flatMap mY)[k*3+2]?=some (.bool o.closed):=by induction os generalizing k with|nil=>simp at h|cons a r ih=>cases k with|zero=>simp only[Bk,lT]at h;subst h;exact⟨rfl,rfl,rfl⟩|succ k=>rw[Bj]at h;have:=ih h;rw[show(k+1)*3=k*3+3 by omega];exact this
theorem Za{o:aP×Value}(h:L[k]?=some o):(py L)[k*3]?=some (.int .i64 o.1.conn)/\(py L)[k*3+1]?=some o.2/\(py L)[k*3+2]?=some (.bool o.1.closed):=by induction L generalizing k with|nil=>simp at h|cons a r ih=>cases k with|zero=>simp only[Bk,lT]at h;subst h;exact⟨rfl,rfl,rfl⟩|succ k=>rw[Bj]at h;have:=ih h;rw[show(k+1)*3=k*3+3 by omega];exact this
theorem adR(af sb DB:Nat)(cF wv:Value)(L:List (aP×Value))(e bad:Int)(done:Bool)(gM:Array Value)(w:World)(J:Nat->World->Prop)(Q:World->Prop)(hy:w.cell? ⟨sb,1,none⟩=some (.pointer (some ⟨DB,0,none⟩)))(hd:w.heap[DB]?=some (.cells gM 160))(ho:gM[157]?=some wv)(hl:lU w cF L)(hw:w.ownsRow 0 200 3 wv L.length ((L.map Prod.fst).flatMap mY))(yG:L.length<=1000000000)(he:e=if done then 0 else bad)(vB:∀w',Below w.heap.size (w.setCell ⟨DB,157,none⟩ (.slice none 0 0)) w'->Calls prog 13 #[.pointer (some ⟨af,0,none⟩)] w' λe w''=>e=.returned (.bool true)/\J 0 w'')(qF:∀(j:Nat) o a,L[j]?=some o->J j a->(∀g,cF.ownBlock=some g->a.cell? ⟨g,j*3+1,none⟩=some o.2)/\Calls prog 42 #[.pointer (some ⟨af,0,none⟩),o.2] a λe w''=>e=.returned (.tuple #[])/\J (j+1) w'')(ja:∀a,J L.length a->Calls prog 106 #[.pointer (some ⟨af,0,none⟩),cF] a λe w''=>e=.returned (.tuple #[])/\Q w''):Calls prog 75 #[.pointer (some ⟨af,0,none⟩),.pointer (some ⟨sb,0,none⟩),cF,.int .i64 e,.bool done,.int .i64 bad] w λe w'=>e=.returned (.bool true)/\Q w':=by
 have d157:w.cell? ⟨DB,157,none⟩=some wv:=ar hd ho;have z157:w.frozen? ⟨DB,157,none⟩=false:=cM hd;have cB:∀{b:Nat}{c:Array Value}{t:TypeId},w.heap[b]?=some (.cells c t)->t≠160->(w.setCell ⟨DB,157,none⟩ (.slice none 0 0)).heap[b]?=w.heap[b]?:=λ{b c t} hb ht=>ck _ _ _ _ (λe=>by have e:b=DB:=e;rw[e,hd]at hb;simp at hb;exact ht hb.2.symm);have dc:lU (w.setCell ⟨DB,157,none⟩ (.slice none 0 0)) cF L:=hl.ah (λb hb=>by obtain⟨c,hc⟩:=aU hl.row hb;exact cB hc (by decide)) (λo b ho hb=>by obtain⟨c,hc⟩:=aU (hl.cA o ho) hb;exact cB hc (by decide));have hw1:(w.setCell ⟨DB,157,none⟩ (.slice none 0 0)).ownsRow 0 200 3 wv L.length ((L.map Prod.fst).flatMap mY):=bM hw (λb hb=>by obtain⟨c,hc⟩:=aU hw hb;exact cB hc (by decide));obtain⟨asw,kl,rfl⟩:=bI hl.row;obtain⟨Qz,PY,rfl⟩:=bI hw;have fH:=ac dc;have HW:=ac hw1;have HK:=ac vB;have aB:=ac qF;have HO:=ac ja;have hs1:(w.setCell ⟨DB,157,none⟩ (.slice none 0 0)).heap.size=w.heap.size:=by simp[World.setCell]
 have bN:=ac hs1;have DW:(if done then(0:Int)else bad)=e:=he.symm;clear hl hw dc hw1 cB vB qF ja hd ho hs1 he;cases done;all_goals simp only[kB,gh,iO]at DW;subst DW;go_enter func75,ntmps75;go_wp2_with fail;generalize w.setCell ⟨DB,157,none⟩ (.slice none 0 0)=W1 at *;go_loopw[15,16] (λak1 iv wx=>∃(k:Nat),k<=L.length/\iv=.int .i64 k/\ak1=.bool true/\Below W1.heap.size W1 wx) (λ_ iv _=>L.length-(intOf iv).toNat);(case atStart=>exact⟨0,cm _,rfl,rfl,aN _ _⟩);case round=>obtain⟨k,hk,rfl,rfl,hb⟩:=hrel;have E3:=ac hb;by_cases hlt:k<L.length;(·obtain⟨o,ho⟩:∃o,L[k]?=some o:=⟨_,cS hlt⟩;obtain⟨gl,rfl,hgl,hcl,D5,hxl⟩:=fE fH.aa.row (by omega);obtain⟨N5,rfl,O4,hcw,Xq,Kp⟩:=fE HW.aa (by omega);unfold maxLen at D5 Xq;obtain⟨a0,a1,a2⟩:=Za ho;obtain⟨b0,b1,b2⟩:=apN (os:=L.map Prod.fst) (k:=k) (o:=o.1) (by rw[oY,ho];rfl);(have l0:wr.cell? ⟨gl,k*3,none⟩=some (.int .i64 o.1.conn):=by rw[hb.cell hgl];exact hxl _ _ a0);(have l1:wr.cell? ⟨gl,k*3+1,none⟩=some o.2:=by rw[hb.cell hgl];exact hxl _ _ a1);(have l2:wr.cell? ⟨gl,k*3+2,none⟩=some (.bool o.1.closed):=by rw[hb.cell hgl];exact hxl _ _ a2);(have v0:wr.cell? ⟨N5,k*3,none⟩=some (.int .i64 o.1.conn):=by rw[hb.cell O4];exact Kp _ _ b0);(have v1:wr.cell? ⟨N5,k*3+1,none⟩=some (.string (bs o.1.data)):=by rw[hb.cell O4];exact Kp _ _ b1);(have v2:wr.cell? ⟨N5,k*3+2,none⟩=some (.bool o.1.closed):=by rw[hb.cell O4];exact Kp _ _ b2);have GP:=fH.aa.cA o (ld ho);have hcv:=λm=>aez (b:=o.1.data) (gm GP (below_drewN hb m));obtain⟨ast,En,Kc⟩:=bI GP;obtain⟨⟨aZ,d,cl⟩,mL⟩:=o;simp only at Kc hcv l0 l1 l2 v0 v1 v2;subst Kc;clear hxl Kp a0 a1 a2 b0 b1 b2 GP ho hb;cases cl;all_goals go_wp2_with fail;go_quiet(fail);go_wp2_with fail;exact⟨⟨k+1,by omega,by go_num,by first|rfl|simp,below_drewN E3.aa _⟩,by simp[intOf];omega⟩);·clear hb;go_wp2_with fail;refine(HK.aa _ (by rw[<-bN.aa];exact E3.aa)).mono ?_;rintro e w2 ⟨rfl,hj⟩;have xM:=ac hj;clear hj;go_wp2_with fail;go_loopw[18] (λiv wx=>∃(k:Nat),k<=L.length/\iv=.int .i64 k/\J k wx) (λiv _=>L.length-(intOf iv).toNat);(case atStart=>exact⟨0,cm _,rfl,xM.aa⟩);case round=>obtain⟨k,hk,rfl,hj⟩:=hrel;by_cases hlt:k<L.length;(·obtain⟨o,ho⟩:∃o,L[k]?=some o:=⟨_,cS hlt⟩;obtain⟨gl,rfl,hgl,hcl,D5,hxl⟩:=fE fH.aa.row (by omega);unfold maxLen at D5;obtain⟨hcell,hcall⟩:=aB.aa k o wr ho hj;have l1:=hcell gl rfl;have HC:=ac hcall;clear hj ho hcell hcall hxl;go_wp2_with fail;refine HC.aa.mono ?_;rintro e w3 ⟨rfl,W9⟩;have C5:=ac W9;clear W9;go_wp2_with fail;exact⟨⟨k+1,by omega,by simp,C5.aa⟩,by simp[intOf];omega⟩);·(have hkl:k=L.length:=by omega);subst hkl;have HC:=ac (HO.aa wr hj);clear hj hk;go_wp2_with fail;refine HC.aa.mono ?_;rintro e w3 ⟨rfl,hq⟩;have bH:=ac hq;clear hq;go_wp2;go_ret;exact⟨rfl,bH.aa⟩
end lt
namespace lt
open Go.RowKit aD av aM br dr lb
theorem Zf{mr C:Nat}{e:TypeId}{sz:Nat}{v:Value}{n:Nat}{xs:List Value}(h:w.ownsRow mr e sz v n xs)(hC:∀b,v.ownBlock=some b->C<=b):w.ownsRow C e sz v n xs:=by
 refine⟨h.1,?_⟩;rcases h.2 with h1|⟨g,cap,cur,e1,_,h3⟩;·exact ai h1
 ·exact ag ⟨g,cap,cur,e1,hC g (by rw[e1];rfl),h3⟩
theorem acZ{v:Nat->Value}{xs:Nat->List Value}(h:lb.cX w af sv v xs)(hb:But G w w')(hG:∀b,G b->fR af v xs b):lb.cX w' af sv v xs:=by refine⟨hb.blk (λe=>(hG _ e).1.1 rfl) h.blk,λk hk=>bM (h.own k hk) (λb e=>hb.ah b ((h.own k hk).lt b e).2 (λg=>(hG b g).1.2 k hk e)),h.ne,λk hk=>(h.held k hk).ah hb.size (λu g hu PH ho hl=>⟨ho,hb.ah g hl (λe=>(hG g e).2 k hk u hu PH)⟩),h.len,λk hk u hu b e=>cw (h.hd k hk u hu b e) hb.size⟩
structure aaJ (w:World) (af:Nat) (sv:Value) (n1 n2 n5:Nat) (v:Nat→Value) (xs:Nat→List Value):Prop where
 fI:lb.cX w af sv v xs
 no:xs 3 = []∧xs 4 = []∧xs 6 = []∧xs 7 = []
 l1:(xs 1).length=n1∧n1 % 4=0
 l2:(xs 2).length=n2∧n2 % 4=0
 Aw:(xs 5).length=n5
def y5(af:Nat)(sv:Value)(n1 n2 n5:Nat):dQ:=λF w=>∃v xs,aaJ w af sv n1 n2 n5 v xs/\F=λb=>¬fR af v xs b
theorem Bx(af:Nat)(sv:Value)(n1 n2 n5 N:Nat):Fit N (y5 af sv n1 n2 n5):=⟨λF G a b ⟨v,xs,h,e⟩ hb hG=>⟨v,xs,⟨acZ h.fI hb (λx hx=>by subst e;exact y9.1 (hG x hx).1),h.no,h.l1,h.l2,h.Aw⟩,e⟩,λF a ⟨v,xs,h,e⟩ b hb=>by subst e;exact H4 λhn=>hb (h.fI.free (Nat.le_of_not_lt hn))⟩
theorem M2(hb:Below af w w')(h:∀b,b<w.heap.size->¬F b->w'.heap[b]?=w.heap[b]?):But F w w':=⟨hb.os,hb.tape,hb.output,hb.size,h⟩
def aaM(af:Nat)(sv:Value)(n1 n2 n5:Nat)(oM:Nat->Prop)(L:List (aP×Value))(W1:World)(j:Nat)(a:World):Prop:=∃H9,y5 af sv (n1+4*j) n2 n5 H9 a/\But (λb=>oM b\/∃o,o∈L.take j/\o.2.ownBlock=some b) W1 a/\∀b,H9 b->oM b\/(∃o,o∈L.take j/\o.2.ownBlock=some b)\/W1.heap.size<=b
theorem adQ(af sb DB C:Nat)(sv cF wv X:Value)(n1 n2 n5:Nat)(oM:Nat->Prop)(L:List (aP×Value))(e bad:Int)(done:Bool)(gM:Array Value)(w:World)(hB:y5 af sv n1 n2 n5 oM w)(hs:w.heap[sb]?=some (.cells #[X,.pointer (some ⟨DB,0,none⟩)] 107))(hd:w.heap[DB]?=some (.cells gM 160))(Aj:¬oM DB)(ho:gM[157]?=some wv)(hl:lU w cF L)(hD:zb L)(hw:w.ownsRow 0 200 3 wv L.length ((L.map Prod.fst).flatMap mY))(yG:L.length<=1000000000)(he:e=if done then 0 else bad)(hof:∀b,lg cF L b->¬oM b/\C<=b)(hC:af<C/\C<=w.heap.size)(bK:n1+4*L.length<=4000000000000)(bY:n2+4<=4000000000000)(l8:∀o,o∈L->o.1.data.length<=1000000000):Calls prog 75 #[.pointer (some ⟨af,0,none⟩),.pointer (some ⟨sb,0,none⟩),cF,.int .i64 e,.bool done,.int .i64 bad] w λe w'=>e=.returned (.bool true)/\∃Rt,y5 af sv (n1+4*L.length) (n2+4) n5 Rt w'/\But (λb=>oM b\/lg cF L b\/b=DB) w w'/\(∀b,Rt b->oM b\/lg cF L b\/w.heap.size<=b)/\w'.heap[DB]?=some (.cells (gM.setIfInBounds 157 (.slice none 0 0)) 160):=by
 have hs1:(w.setCell ⟨DB,157,none⟩ (.slice none 0 0)).heap.size=w.heap.size:=by simp[World.setCell]
 have OI:But (λb=>b=DB) w (w.setCell ⟨DB,157,none⟩ (.slice none 0 0)):=But.set w ⟨DB,157,none⟩ _ rfl;have cB:∀{b:Nat}{c:Array Value}{t:TypeId},w.heap[b]?=some (.cells c t)->t≠160->(w.setCell ⟨DB,157,none⟩ (.slice none 0 0)).heap[b]?=w.heap[b]?:=λ{b c t} hb ht=>OI.ah b (aG hb) (λe=>by have e:b=DB:=e;rw[e,hd]at hb;simp at hb;exact ht hb.2.symm);have dc:lU (w.setCell ⟨DB,157,none⟩ (.slice none 0 0)) cF L:=hl.ah (λb hb=>by obtain⟨c,hc⟩:=aU hl.row hb;exact cB hc (by decide)) (λo b ho hb=>by obtain⟨c,hc⟩:=aU (hl.cA o ho) hb;exact cB hc (by decide));have aW:y5 af sv n1 n2 n5 oM (w.setCell ⟨DB,157,none⟩ (.slice none 0 0)):=(Bx af sv n1 n2 n5 0).ah oM _ _ _ hB OI (λx hx=>⟨by subst hx;exact Aj,cm _⟩);have hd1:(w.setCell ⟨DB,157,none⟩ (.slice none 0 0)).heap[DB]?=some (.cells (gM.setIfInBounds 157 (.slice none 0 0)) 160):=b6 _ hd;generalize hW1:w.setCell ⟨DB,157,none⟩ (.slice none 0 0)=W1 at *;have Ai:∀o,o∈L->∀b,o.2.ownBlock=some b->cF.ownBlock≠some b/\b≠DB:=λo hm b e=>by obtain⟨c,hc⟩:=aU (dc.cA o hm) e;refine⟨λe2=>?_,λe2=>?_⟩;(·obtain⟨c2,hc2⟩:=aU dc.row e2;rw[hc]at hc2;simp at hc2);·rw[e2,hd1]at hc;simp at hc
 have ahX:∀b,cF.ownBlock=some b->b≠DB:=λb e e2=>by obtain⟨c,hc⟩:=aU dc.row e;rw[e2,hd1]at hc;simp at hc
 refine adR af sb DB cF wv L e bad done gM w (aaM af sv n1 n2 n5 oM L W1) _ (ar hs rfl) hd ho hl hw yG he ?_ ?_ ?_;·intro w' hb;rw[hW1,<-hs1]at hb;have cJ:=(Bx af sv n1 n2 n5 0).ah oM (λ_=>False) _ _ aW (But.of_below hb) (λ_ f=>f.elim);obtain⟨v,xs,hT,hF⟩:=cJ;refine(PX w' af sv v xs hT.fI hT.no.1 hT.no.2.1 hT.no.2.2.1 hT.no.2.2.2).mono λe2 w2 ⟨i1,i2⟩=>⟨i1,oM,?_,?_,λb hb=>ai hb⟩;(·exact(Bx af sv n1 n2 n5 0).ah oM (λ_=>False) _ _ ⟨v,xs,hT,hF⟩ (But.of_below i2) (λ_ f=>f.elim));·exact But.of_below (hb.trans (i2.mono hb.size))
 ·rintro j o a hj ⟨H9,⟨v,xs,hT,rfl⟩,yC,Ak⟩;have hm:=ld hj;have hjl:=(dw.1 hj).1;have hnb:∀b,cF.ownBlock=some b->a.heap[b]?=W1.heap[b]?:=λb e2=>yC.ah b (by obtain⟨c,hc⟩:=aU dc.row e2;exact aG hc) (λe3=>e3.elim (hof b (ai e2)).1 (λ⟨o',ho',e4⟩=>(Ai o' (List.mem_of_mem_take ho') b e4).1 e2));(have hnd:∀b,o.2.ownBlock=some b->¬∃o',o'∈L.take j/\o'.2.ownBlock=some b:=λb e2 ⟨o',ho',e3⟩=>by obtain⟨i,hi⟩:=List.mem_iff_getElem?.1 ho';rw[zA]at hi;split at hi;(·rename_i hij;obtain⟨hi1,hi2⟩:=dw.1 hi;obtain⟨ahJ,ahK⟩:=dw.1 hj;have:=List.pairwise_iff_getElem.1 hD i j hi1 ahJ hij;rw[hi2,ahK]at this;exact this b e3 e2);·cases hi);have O0:=dc.cA o hm;have ahr:∀b,o.2.ownBlock=some b->a.heap[b]?=W1.heap[b]?:=λb e2=>yC.ah b (by obtain⟨c,hc⟩:=aU O0 e2;exact aG hc) (λe3=>e3.elim (hof b (ag ⟨o,hm,e2⟩)).1 (hnd b e2));have hrow:=bM O0 ahr;have air:a.ownsRow C 5 1 o.2 o.1.data.length (eI o.1.data):=Zf hrow (λb e2=>(hof b (ag ⟨o,hm,e2⟩)).2);(have ahz:∀b,o.2.ownBlock=some b->fR af v xs b:=λb e2=>H4 λhn=>by rcases Ak b hn with e3|e3|e3;(·exact(hof b (ag ⟨o,hm,e2⟩)).1 e3);(·exact hnd b e2 e3);·obtain⟨c,hc⟩:=aU O0 e2;have:=aG hc;omega);refine⟨λg e2=>?_,?_⟩;(·obtain⟨q,cap,hq⟩:=bI dc.row;rw[hq]at e2;have hrl:=bM dc.row hnb;rw[hq]at hrl;obtain⟨g',e3,_,_,_,hx⟩:=fE hrl (by omega);rw[e3]at e2;cases e2;exact hx _ _ (Za hj).2.1);·have hsz:=yC.size;refine(ajy a af C o.1.data.length sv v xs o.2 _ hT.fI air hC.1 ahz (by have:=l8 o hm;omega) (by rw[hT.l1.1];have:=hT.l1.2;omega) (by rw[hT.l1.1];omega) (by omega)).mono ?_;rintro e2 w2 ⟨rfl,ej,L',hL',i1,i2,i3⟩;(have htk:∀b,(∃o',o'∈L.take (j+1)/\o'.2.ownBlock=some b)↔(∃o',o'∈L.take j/\o'.2.ownBlock=some b)\/o.2.ownBlock=some b:=λb=>by rw[jL,hj];simp only[mE,Option.toList_some,jW];exact⟨λ⟨o',h1,h2⟩=>h1.elim (λh1=>ai ⟨o',h1,h2⟩) (λh1=>ag (h1▸h2)),λh=>h.elim (λ⟨o',h1,h2⟩=>⟨o',ai h1,h2⟩) (λh=>⟨o,ag rfl,h⟩)⟩);refine⟨rfl,_,⟨lb.upd v 1 ej,lb.upd xs 1 (xs 1++L'),⟨i1,⟨?_,?_,?_,?_⟩,?_,?_,?_⟩,rfl⟩,?_,λb hb=>?_⟩;(·rw[lb.jn _ _ (by decide)];exact hT.no.1);(·rw[lb.jn _ _ (by decide)];exact hT.no.2.1);(·rw[lb.jn _ _ (by decide)];exact hT.no.2.2.1);(·rw[lb.jn _ _ (by decide)];exact hT.no.2.2.2);(·rw[lb.upd_same,bT,hL',hT.l1.1];have:=hT.l1.2;exact⟨by omega,by omega⟩);(·rw[lb.jn _ _ (by decide)];exact hT.l2);(·rw[lb.jn _ _ (by decide)];exact hT.Aw);(·have hstep:But (λb=>¬fR af v xs b\/o.2.ownBlock=some b) a w2:=M2 i3 (λb hb hn=>(i2 b hb (y9.1 (λh=>hn (ai h))) (λh=>hn (ag h))).1);refine(yC.wide (λb _ h=>h.imp id (λh=>(htk b).2 (ai h)))).trans hstep (λb hb h=>?_);rcases h with h|h;(·rcases Ak b h with h|h|h;(·exact ai h);(·exact ag ((htk b).2 (ai h)));·omega);·exact ag ((htk b).2 (ag h)));·by_cases OL:b<a.heap.size;(·by_cases qT:fR af v xs b;(·by_cases rW:o.2.ownBlock=some b;(·exact ag (ai ((htk b).2 (ag rW))));·exact absurd (i2 b OL qT rW).2 hb);·rcases Ak b qT with h|h|h;(·exact ai h);(·exact ag (ai ((htk b).2 (ai h))));·exact ag (ag h));·exact ag (ag (by omega))
 ·rintro a ⟨H9,⟨v,xs,hT,rfl⟩,yC,Ak⟩;rw[nZ]at yC Ak;have hsz:=yC.size;have hnb:∀b,cF.ownBlock=some b->a.heap[b]?=W1.heap[b]?:=λb e2=>yC.ah b (by obtain⟨c,hc⟩:=aU dc.row e2;exact aG hc) (λe3=>e3.elim (hof b (ai e2)).1 (λ⟨o',ho',e4⟩=>(Ai o' ho' b e4).1 e2));have hrl:=Zf (bM dc.row hnb) (C:=C) (λb e2=>(hof b (ai e2)).2);(have ahA:∀b,cF.ownBlock=some b->fR af v xs b:=λb e2=>H4 λhn=>by rcases Ak b hn with e3|⟨o',ho',e3⟩|e3;(·exact(hof b (ai e2)).1 e3);(·exact(Ai o' ho' b e3).1 e2);·obtain⟨c,hc⟩:=aU dc.row e2;have:=aG hc;omega);refine(ajA a af C L.length sv v xs cF _ hT.fI hrl hC.1 ahA (by omega) (by rw[hT.l2.1];exact hT.l2.2) (by rw[hT.l2.1];omega) (by omega)).mono ?_;rintro e2 w2 ⟨rfl,ej,L',hL',i1,i2,i3⟩;have hstep:But (λb=>¬fR af v xs b\/cF.ownBlock=some b) a w2:=M2 i3 (λb hb hn=>(i2 b hb (y9.1 (λh=>hn (ai h))) (λh=>hn (ag h))).1);have hW2:But (λb=>oM b\/lg cF L b) W1 w2:=(yC.wide (λb _ h=>h.imp id (λ⟨o',h1,h2⟩=>ag ⟨o',h1,h2⟩))).trans hstep (λb hb h=>by rcases h with h|h;(·rcases Ak b h with h|⟨o',h1,h2⟩|h;(·exact ai h);(·exact ag (ag ⟨o',h1,h2⟩));·omega);·exact ag (ai h));refine⟨rfl,_,⟨lb.upd v 2 ej,lb.upd xs 2 (xs 2++L'),⟨i1,⟨?_,?_,?_,?_⟩,?_,?_,?_⟩,rfl⟩,?_,λb hb=>?_,?_⟩;(·rw[lb.jn _ _ (by decide)];exact hT.no.1);(·rw[lb.jn _ _ (by decide)];exact hT.no.2.1);(·rw[lb.jn _ _ (by decide)];exact hT.no.2.2.1);(·rw[lb.jn _ _ (by decide)];exact hT.no.2.2.2);(·rw[lb.jn _ _ (by decide)];exact hT.l1);(·rw[lb.upd_same,bT,hL',hT.l2.1];have:=hT.l2.2;exact⟨by omega,by omega⟩);(·rw[lb.jn _ _ (by decide)];exact hT.Aw);(·exact(OI.wide (λb _ h=>ag (ag h))).trans hW2 (λb _ h=>h.imp id ai));(·by_cases OL:b<a.heap.size;(·by_cases qT:fR af v xs b;(·by_cases rW:cF.ownBlock=some b;(·exact ag (ai (ai rW)));·exact absurd (i2 b OL qT rW).2 hb);·rcases Ak b qT with h|⟨o',h1,h2⟩|h;(·exact ai h);(·exact ag (ai (ag ⟨o',h1,h2⟩)));·exact ag (ag (by omega)));·exact ag (ag (by omega)));·rw[hW2.ah DB (aG hd1) (λh=>h.elim Aj (λh=>h.elim (λh=>ahX DB h rfl) (λ⟨o',h1,h2⟩=>(Ai o' h1 DB h2).2 rfl)))];exact hd1
structure Pl where
 P:bb
 D:bb
 N:Nat
 af:Nat
 sb:Nat
 sv:Value
 dW:Nat→Option Obj
 Kz:World
structure Pl.ok (Z:Pl):Prop where
 n0:Z.P.N0=Z.N∧Z.D.N0=Z.N
 n1:Z.af < Z.P.x9
 rd:Z.P.rd=none
 bf:Z.P.bf≤8
 sb:Z.N≤Z.sb
def ZW(Z:Pl):Array Value:=#[.pointer (some ⟨Z.P.B,0,none⟩),.pointer (some ⟨Z.D.B,0,none⟩)]
structure Duo (Z:Pl) (H:aj) (os:List aP) (cF:Value) (L:List (aP×Value)) (n1 n2 n5:Nat) (F G B:Nat→Prop) (w:World):Prop where
 p:nj Z.P H F w
 d:jz Z.D H os G w
 b:y5 Z.af Z.sv n1 n2 n5 B w
 s:w.heap[Z.sb]?=some (.cells (ZW Z) 107)
 ln:∀ x,F x→¬ G x∧¬ B x∧x≠Z.sb
 lu:∀ x,G x→¬ B x∧x≠Z.sb
 bs:∀ x,B x→Z.N≤x∧x≠Z.sb
 o:lU w cF L∧zb L
 ob:∀ x,lg cF L x→Z.P.x9≤x∧Z.N≤x∧¬ F x∧¬ G x∧¬ B x∧x≠Z.sb
 k:∀ x o,Z.dW x=some o→w.heap[x]?=some o∧¬ F x∧¬ G x∧¬ B x∧¬ lg cF L x
 io:w.os=Z.Kz.os∧w.output=Z.Kz.output
def H6(Z:Pl)(H:aj)(n1 n2 n5:Nat)(w:World):Prop:=∃F G B,Duo Z H [] (.slice none 0 0) [] n1 n2 n5 F G B w
theorem Zx(h:nj P H F w):∀b,F b->P.N0<=b:=by obtain⟨Q,h,rfl,_⟩:=h;exact h.n0
theorem Eu(h:nj P H F w):P.x9<=w.heap.size/\P.N0<=w.heap.size:=by obtain⟨Q,h,rfl,_⟩:=h;exact⟨h.o1.1,h.gd.env.size⟩
theorem afo(h:jz D H os G w):∀b,G b->D.N0<=b:=by obtain⟨V,h,rfl⟩:=h;exact h.n0
theorem xq(h:lU w cF L)(hx:lg cF L x):x<w.heap.size:=by
 rcases hx with hx|⟨o,ho,hx⟩;·obtain⟨c,hc⟩:=aU h.row hx;exact aG hc
 ·obtain⟨c,hc⟩:=aU (h.cA o ho) hx;exact aG hc
theorem ic{o:Obj}(h:w.heap[x]?=some o):x<w.heap.size:=(jT.1 h).1
theorem yP(h:lg (.slice none 0 0) [] x):False:=by
 rcases h with e|⟨o,ho,_⟩;·cases e
 ·cases ho
theorem Duo.lt{Z:Pl}(h:Duo Z H os cF L n1 n2 n5 F G B w)(hx:F x\/G x\/B x\/x=Z.sb):x<w.heap.size:=by
 rcases hx with hx|hx|hx|hx;·exact(uT _ _).lt _ _ h.p x hx
 ·exact(Dv _ _ _).lt _ _ h.d x hx
 ·exact(Bx _ _ _ _ _ 0).lt _ _ h.b x hx
 ·rw[hx];exact aG h.s
theorem Duo.went{Z:Pl}(hZ:Z.ok)(h:Duo Z H [] (.slice none 0 0) [] n1 n2 n5 F G B w)(hT:Taken Z.P H' os F w cF w1):jz Z.D H [] G w1/\∀w2,bG (jz Z.D H' os) G w1 w2->∃F' AU L,L.map Prod.fst=os/\Duo Z H' os cF L n1 n2 n5 F' AU B w2/\∀x,F' x\/AU x\/lg cF L x->F x\/G x\/w.heap.size<=x:=by
 obtain⟨F',L,h1,h2,h3,h4,h5,h6,h7⟩:=hT;have hN:=hZ.n0;have hp0:=Zx h.p;have hd0:=afo h.d;have hd1:jz Z.D H [] G w1:=(Dv _ _ _).ah G F _ _ h.d h2 (λx hx=>⟨(h.ln x hx).1,by rw[hN.2,<-hN.1];exact hp0 x hx⟩);refine⟨hd1,λw2 ⟨AU,g1,g2,g3⟩=>⟨F',AU,L,h4,?_,λx hx=>?_⟩⟩;case' refine_2=>have hsz:=h2.size;rcases hx with e|e|e;(·exact(h3 x e).imp id ag);(·exact(g3 x e).elim (λe=>ag (ai e)) (λe=>ag (ag (by omega))));·exact(h6 x e).2.2.imp id ag
 have hsz:=h2.size;have vM:=g2.size;have Aq:∀x,G x->x<w.heap.size:=λx hx=>h.lt (ag (ai hx));have uG:∀x,B x->x<w.heap.size:=λx hx=>h.lt (ag (ag (ai hx)));have hlts:Z.sb<w.heap.size:=h.lt (ag (ag (ag rfl)));have nf:∀x,F' x->¬G x/\¬B x/\x≠Z.sb:=λx hx=>by rcases h3 x hx with e|e;(·exact h.ln x e);·exact⟨λe2=>by have:=Aq x e2;omega,λe2=>by have:=uG x e2;omega,by omega⟩
 have no:∀x,lg cF L x->¬G x/\¬B x/\x≠Z.sb/\Z.N<=x:=λx hx=>by rcases(h6 x hx).2.2 with e|e;(·have:=h.ln x e;exact⟨this.1,this.2.1,this.2.2,by have:=hp0 x e;omega⟩);·exact⟨λe2=>by have:=Aq x e2;omega,λe2=>by have:=uG x e2;omega,by omega,by have:=(Eu h.p).2;omega⟩
 have ah3:∀x,F' x->x<w1.heap.size:=λx hx=>(uT _ _).lt _ _ h1 x hx;refine⟨(uT _ _).ah F' G _ _ h1 g2 (λx hx=>⟨λe=>(nf x e).1 hx,by rw[hN.1,<-hN.2];exact hd0 x hx⟩),g1,?_,?_,λx hx=>?_,λx hx=>?_,h.bs,⟨?_,h7⟩,λx hx=>?_,λx o hx=>?_,⟨g2.os.trans (h2.os.trans h.io.1),g2.output.trans (h2.output.trans h.io.2)⟩⟩;·have hb1:=(Bx Z.af Z.sv n1 n2 n5 0).ah B F _ _ h.b h2 (λx hx=>⟨(h.ln x hx).2.1,cm _⟩);exact(Bx Z.af Z.sv n1 n2 n5 0).ah B G _ _ hb1 g2 (λx hx=>⟨(h.lu x hx).1,cm _⟩)
 ·exact g2.blk (λe=>(h.lu _ e).2 rfl) (h2.blk (λe=>(h.ln _ e).2.2 rfl) h.s)
 ·refine⟨λe=>?_,(nf x hx).2⟩;rcases g3 x e with e|e;(·exact(nf x hx).1 e);·have:=ah3 x hx;omega
 ·rcases g3 x hx with e|e;(·exact h.lu x e);·exact⟨λe2=>by have:=uG x e2;omega,by omega⟩
 ·exact h5.ah (λb e=>g2.ah b (xq h5 (ai e)) (no b (ai e)).1) (λo b ho e=>g2.ah b (xq h5 (ag ⟨o,ho,e⟩)) (no b (ag ⟨o,ho,e⟩)).1)
 ·have hn:=no x hx;refine⟨(h6 x hx).1,hn.2.2.2,(h6 x hx).2.1,λe=>?_,hn.2.1,hn.2.2.1⟩;rcases g3 x e with e|e;(·exact hn.1 e);·have:=xq h5 hx;omega
 ·obtain⟨i1,i2,i3,i4,_⟩:=h.k x o hx;have hl:=ic i1;exact⟨(g2.ah x (by omega) i3).trans ((h2.ah x hl i2).trans i1),λe=>(h3 x e).elim i2 (λe=>by omega),λe=>(g3 x e).elim i3 (λe=>by omega),i4,λe=>(h6 x e).2.2.elim i2 (λe=>by omega)⟩
theorem Duo.came{Z:Pl}(hZ:Z.ok)(h:Duo Z H os cF L n1 n2 n5 F G B w)(hL:L.map Prod.fst=os)(e bad:Int)(done:Bool)(he:e=if done then 0 else bad)(yG:os.length<=1000000)(l8:∀o,o∈os->o.data.length<=1000000000)(bK:n1+4*os.length<=4000000000000)(bY:n2+4<=4000000000000):Calls prog 75 #[.pointer (some ⟨Z.af,0,none⟩),.pointer (some ⟨Z.sb,0,none⟩),cF,.int .i64 e,.bool done,.int .i64 bad] w λe w'=>e=.returned (.bool true)/\H6 Z H (n1+4*os.length) (n2+4) n5 w':=by
 have hll:L.length=os.length:=by rw[<-hL,dU]
 obtain⟨V,hV,hG⟩:=h.d;have hDB:G Z.D.B:=by rw[hG];exact ai rfl
 have ho:=hV.aa;rw[<-hL]at ho;rw[dU]at ho;have JD:=(Eu h.p).1;refine(adQ Z.af Z.sb Z.D.B Z.P.x9 Z.sv cF V.aI _ n1 n2 n5 B L e bad done (dh V) w h.b h.s hV.blk (h.lu _ hDB).1 (pj V (j:=2) (by decide)) h.o.1 h.o.2 ho (by omega) he (λb hb=>⟨(h.ob b hb).2.2.2.2.1,(h.ob b hb).1⟩) ⟨hZ.n1,JD⟩ (by omega) bY (λo hm=>l8 o.1 (by rw[<-hL];exact List.mem_map_of_mem hm))).mono ?_;rintro e2 w' ⟨rfl,B',i1,i2,i3,i4⟩;rw[Nr]at i4;rw[hll]at i1;have hN:=hZ.n0;have hp0:=Zx h.p;have hsz:=i2.size;have Hn:∀x,(B x\/lg cF L x\/x=Z.D.B)->Z.N<=x:=λx hx=>by rcases hx with e|e|e;(·exact(h.bs x e).1);(·exact(h.ob x e).2.1);·rw[e,<-hN.2];exact hV.n0 _ (ai rfl)
 have Ei:∀{x:Nat},V.has Z.D.B x->G x:=λhx=>by rw[hG];exact hx
 have YQ:∀{x:Nat},G x->x≠Z.D.B->¬(B x\/lg cF L x\/x=Z.D.B):=λ{x} hx hn e=>by rcases e with e|e|e;(·exact(h.lu x hx).1 e);(·exact(h.ob x e).2.2.2.1 hx);·exact hn e
 have cB:∀{b:Nat}{c:Array Value}{t:TypeId},V.has Z.D.B b->w.heap[b]?=some (.cells c t)->t≠160->w'.heap[b]?=w.heap[b]?:=λ{b c t} hv hc ht=>i2.ah b (aG hc) (YQ (Ei hv) ((hV.kind hc).1 ht));obtain⟨g1,g2⟩:=hV.turn {V with aI:=.slice none 0 0} H [] 0 _ i2 (λb e=>by rw[hN.2];exact Hn b e) i4 hV.now hV.pl (bM hV.aO (λb e=>by obtain⟨c,hc⟩:=aU hV.aO e;exact cB (ag (ai e)) hc (by decide))) (bM hV.ret (λb e=>by obtain⟨c,hc⟩:=aU hV.ret e;exact cB (ag (ag (ai e))) hc (by decide))) ⟨rfl,ai ⟨rfl,rfl⟩⟩ ⟨λ_ e=>ai e,λ_ e=>ai e,λ_ e=>(by cases e)⟩ (λk c d p hk e1 e2=>ai ⟨c,e1,e2,rfl,λb e=>by have hv:V.has Z.D.B b:=ag (ag (ag (ag ⟨k,c,d,p,hk,e1,e2,e⟩)));refine YQ (Ei hv) ?_;have hS:=hV.sat k c d p hk e1 e2;rcases e with rfl|e;(·exact(hV.kind hS.blk).1 (by decide));·obtain⟨bX,hc⟩:=aU hS.aJ e;exact(hV.kind hc).1 (by decide)⟩);have hsub:∀x,({V with aI:=.slice none 0 0}:bB).has Z.D.B x->G x:=λx hx=>by rcases hx with e|e|e|e|e;(·exact Ei (ai e));(·exact Ei (ag (ai e)));(·exact Ei (ag (ag (ai e))));(·cases e);·exact Ei (ag (ag (ag (ag e))))
 have yO:∀x,x<w.heap.size->¬B x->¬lg cF L x->¬B' x:=λx hx h1 h2 e=>by rcases i3 x e with e|e|e;(·exact h1 e);(·exact h2 e);·omega
 have hlts:Z.sb<w.heap.size:=h.lt (ag (ag (ag rfl)));refine⟨rfl,F,_,B',⟨(uT _ _).ah F _ _ _ h.p i2 (λx hx=>⟨λe=>?_,by rw[hN.1];exact Hn x hx⟩),⟨_,g1,rfl⟩,i1,i2.blk (λe=>?_) h.s,λx hx=>⟨λe=>(h.ln x hx).1 (hsub x e),yO x (h.lt (ai hx)) (h.ln x hx).2.1 (λe=>(h.ob x e).2.2.1 hx),(h.ln x hx).2.2⟩,λx hx=>⟨yO x (h.lt (ag (ai (hsub x hx)))) (h.lu x (hsub x hx)).1 (λe=>(h.ob x e).2.2.2.1 (hsub x hx)),(h.lu x (hsub x hx)).2⟩,λx hx=>?_,⟨lU.nil _,List.Pairwise.nil⟩,λx hx=>?_,λx o hx=>?_,⟨i2.os.trans h.io.1,i2.output.trans h.io.2⟩⟩⟩;·rcases hx with e1|e1|e1;(·exact(h.ln x e).2.1 e1);(·exact(h.ob x e1).2.2.1 e);·exact(h.ln x e).1 (e1▸hDB)
 ·rcases e with e|e|e;(·exact(h.bs _ e).2 rfl);(·exact(h.ob _ e).2.2.2.2.2 rfl);·exact(h.lu _ hDB).2 e.symm
 ·rcases i3 x hx with e|e|e;(·exact h.bs x e);(·exact⟨(h.ob x e).2.1,(h.ob x e).2.2.2.2.2⟩);·exact⟨by have:=(Eu h.p).2;omega,by omega⟩
 ·exact(yP hx).elim
 ·obtain⟨j1,j2,ma,qX,El⟩:=h.k x o hx;have hl:=ic j1;exact⟨(i2.ah x hl (λe=>by rcases e with e|e|e;(·exact qX e);(·exact El e);·exact ma (e▸hDB))).trans j1,j2,λe=>ma (hsub x e),yO x hl qX El,λe=>yP e⟩
theorem Duo.below{Z:Pl}(h:Duo Z H os cF L n1 n2 n5 F G B w)(hb:Below w.heap.size w w'):Duo Z H os cF L n1 n2 n5 F G B w':=by have hb':But (λ_=>False) w w':=But.of_below hb;exact⟨(uT _ _).ah F _ _ _ h.p hb' (λ_ f=>f.elim),(Dv _ _ _).ah G _ _ _ h.d hb' (λ_ f=>f.elim),(Bx _ _ _ _ _ 0).ah B _ _ _ h.b hb' (λ_ f=>f.elim),(hb.block _ (aG h.s)).trans h.s,h.ln,h.lu,h.bs,⟨h.o.1.ah (λb e=>hb.block b (xq h.o.1 (ai e))) (λo b ho e=>hb.block b (xq h.o.1 (ag ⟨o,ho,e⟩))),h.o.2⟩,h.ob,λx o hx=>(by obtain⟨j1,j2⟩:=h.k x o hx;exact⟨(hb.block x (ic j1)).trans j1,j2⟩),⟨hb.os.trans h.io.1,hb.output.trans h.io.2⟩⟩
theorem Duo.returned{Z:Pl}(hZ:Z.ok)(h:Duo Z H os cF L n1 n2 n5 F G B w)(s:ByteArray)(hs:s.size<=1099511627776)(bl:Nat)(hkb:Z.dW bl=none)(hrow:w.rowIs bl 5 (s.size+2) (lw.mU s.data.toList))(hbl:¬F bl/\¬G bl/\¬B bl/\bl≠Z.sb/\¬lg cF L bl/\Z.N<=bl/\Z.af<bl)(h9:n5+1<=4000000000000):Calls prog 34 #[.pointer (some ⟨Z.af,0,none⟩),.slice (some ⟨bl,0,none⟩) (s.size+2) (s.size+2),.string s] w λe w'=>e=.returned (.bool true)/\∃B',Duo Z H os cF L n1 n2 (n5+1) F G B' w':=by
 obtain⟨v,xs,hT,rfl⟩:=h.b;obtain⟨b1,b2,b3,b4,b5,rI,ML⟩:=hbl;have qT:fR Z.af v xs bl:=y9.1 b3;refine(amg w Z.af bl Z.sv v xs s hs hT.fI hrow qT ML (by rw[hT.Aw];exact h9)).mono ?_;rintro e w' ⟨rfl,u',i1,i2,i3⟩;have iD:But (λb=>¬fR Z.af v xs b\/b=bl) w w':=M2 i3 (λb hb hn=>(i2 b hb (y9.1 (λe=>hn (ai e))) (λe=>hn (ag e))).1);have hN:=hZ.n0;have Hn:∀x,(¬fR Z.af v xs x\/x=bl)->Z.N<=x:=λx hx=>hx.elim (λe=>(h.bs x e).1) (λe=>by rw[e];exact rI);have yO:∀x,x<w.heap.size->fR Z.af v xs x->x≠bl->¬¬fR Z.af (lb.upd v 5 u') (lb.upd xs 5 (xs 5++[.slice (some ⟨bl,0,none⟩) (s.size+2) (s.size+2)])) x:=λx hx h1 h2 e=>e (i2 x hx h1 h2).2;have hlts:Z.sb<w.heap.size:=h.lt (ag (ag (ag rfl)));have ff:∀{x:Nat},¬(λb=>¬fR Z.af v xs b) x->fR Z.af v xs x:=λe=>y9.1 e;refine⟨rfl,_,⟨(uT _ _).ah F _ _ _ h.p iD (λx hx=>⟨λe=>hx.elim (h.ln x e).2.1 (λe2=>b1 (e2▸e)),by rw[hN.1];exact Hn x hx⟩),(Dv _ _ _).ah G _ _ _ h.d iD (λx hx=>⟨λe=>hx.elim (h.lu x e).1 (λe2=>b2 (e2▸e)),by rw[hN.2];exact Hn x hx⟩),⟨_,_,⟨i1,⟨?_,?_,?_,?_⟩,?_,?_,?_⟩,rfl⟩,iD.blk (λe=>e.elim (λe=>(h.bs _ e).2 rfl) (λe=>b4 e.symm)) h.s,λx hx=>⟨(h.ln x hx).1,yO x (h.lt (ai hx)) (ff (h.ln x hx).2.1) (λe=>b1 (e▸hx)),(h.ln x hx).2.2⟩,λx hx=>⟨yO x (h.lt (ag (ai hx))) (ff (h.lu x hx).1) (λe=>b2 (e▸hx)),(h.lu x hx).2⟩,λx hx=>?_,⟨h.o.1.ah (λb e=>iD.ah b (xq h.o.1 (ai e)) (λe2=>e2.elim (h.ob b (ai e)).2.2.2.2.1 (λe3=>b5 (e3▸ai e)))) (λo b ho e=>iD.ah b (xq h.o.1 (ag ⟨o,ho,e⟩)) (λe2=>e2.elim (h.ob b (ag ⟨o,ho,e⟩)).2.2.2.2.1 (λe3=>b5 (e3▸ag ⟨o,ho,e⟩)))),h.o.2⟩,λx hx=>?_,λx o hx=>?_,⟨iD.os.trans h.io.1,iD.output.trans h.io.2⟩⟩⟩;·rw[lb.jn _ _ (by decide)];exact hT.no.1
 ·rw[lb.jn _ _ (by decide)];exact hT.no.2.1
 ·rw[lb.jn _ _ (by decide)];exact hT.no.2.2.1
 ·rw[lb.jn _ _ (by decide)];exact hT.no.2.2.2
 ·rw[lb.jn _ _ (by decide)];exact hT.l1
 ·rw[lb.jn _ _ (by decide)];exact hT.l2
 ·rw[lb.upd_same,bT,hT.Aw];rfl
 ·by_cases hw:x<w.heap.size;(·by_cases hf:fR Z.af v xs x;(·by_cases he:x=bl;(·exact⟨by rw[he];exact rI,by rw[he];exact b4⟩);·exact absurd hx (yO x hw hf he));·exact h.bs x hf);·exact⟨by have:=(Eu h.p).2;omega,by omega⟩
 ·have:=h.ob x hx;exact⟨this.1,this.2.1,this.2.2.1,this.2.2.2.1,yO x (xq h.o.1 hx) (ff this.2.2.2.2.1) (λe=>b5 (e▸hx)),this.2.2.2.2.2⟩
 ·obtain⟨j1,j2,ma,qX,El⟩:=h.k x o hx;have hl:=ic j1;(have hne:x≠bl:=λe=>by rw[e,hkb]at hx;cases hx);exact⟨(iD.ah x hl (λe=>e.elim qX hne)).trans j1,j2,ma,yO x hl (ff qX) hne,El⟩
end lt
namespace lt
open Go.RowKit aD av aM br dr lw
theorem Uw(af sb gq gI:Nat)(n:Int)(s:ByteArray)(w:World)(h0:0<s.size)(hs:s.size<=1099511627776)(mQ:w.heap[sb]?=some (.cells #[.pointer (some ⟨gq,0,none⟩),.pointer (some ⟨gI,0,none⟩)] 107))(Q:World->Prop)(lj:∀bl a,w.heap.size<=bl->Below w.heap.size w a->a.rowIs bl 5 (s.size+2) (mU s.data.toList)->Calls prog 24 #[.pointer (some ⟨gq,0,none⟩),.int .i64 n,.slice (some ⟨bl,0,none⟩) s.size (s.size+2)] a λe a1=>∃(q:Option Addr) (c k:Nat) (er:Int),e=.returned (.tuple #[.slice q c k,.int .i64 er])/\a1.cell? ⟨sb,0,none⟩=some (.pointer (some ⟨gq,0,none⟩))/\a1.cell? ⟨sb,1,none⟩=some (.pointer (some ⟨gI,0,none⟩))/\Calls prog 103 #[.pointer (some ⟨gI,0,none⟩),.int .i64 n,.string s] a1 λe a2=>∃done,e=.returned (.bool done)/\Calls prog 34 #[.pointer (some ⟨af,0,none⟩),.slice (some ⟨bl,0,none⟩) (s.size+2) (s.size+2),.string s] a2 λe a3=>e=.returned (.bool true)/\Calls prog 75 #[.pointer (some ⟨af,0,none⟩),.pointer (some ⟨sb,0,none⟩),.slice q c k,.int .i64 er,.bool done,.int .i64 4] a3 λe a4=>e=.returned (.bool true)/\Q a4):Calls prog 72 #[.pointer (some ⟨af,0,none⟩),.pointer (some ⟨sb,0,none⟩),.int .i64 n,.string s] w λe w'=>e=.returned (.bool true)/\Q w':=by
 have c0:w.cell? ⟨sb,0,none⟩=some (.pointer (some ⟨gq,0,none⟩)):=ar mQ rfl;have hlt:=aG mQ;have H3:=ac (aj7 s w hs);have nU:=ac lj;have H0:=ac (λb w=>ahc b (s.size+2) (s.size+2) s w h0 (by omega) (aC _));clear lj mQ;go_enter func72,ntmps72;go_wp2_with fail;refine H3.aa.mono ?_;rintro e w1 ⟨rfl,hrow,hb,hz⟩;have adv:w1.cell? ⟨sb,0,none⟩=some (.pointer (some ⟨gq,0,none⟩)):=by rw[hb.cell hlt];exact c0
 have Pf:sb<w1.heap.size:=cw hlt hb.size;have nT:=ac (nU.aa w.heap.size);have aT:=ac hrow;have aB:=ac hb;clear hrow hb hz nU c0;go_wp2_with fail;go_region_held3(λw'=>w'.cell? ⟨sb,0,none⟩=some (.pointer (some ⟨gq,0,none⟩))) (first|exact adv|exact adw) (first|(go_at_call 32;refine(H0.aa _ _).mono ?_;rintro e w2 ⟨rfl,hw2⟩;rw[hw2];clear hw2)|(go_at_call 24;refine(nT.aa _ (aC _) aB.aa.drew (aT.aa.of_block rfl)).mono ?_;rintro e a1 ⟨q,c,k,er,rfl,adw,kr,hd⟩;have tU:=ac hd;clear hd));go_wp2_with fail;refine tU.aa.mono ?_;rintro e a2 ⟨done,rfl,hr⟩;have LB:=ac hr;clear hr;go_wp2_with fail;refine LB.aa.mono ?_;rintro e a3 ⟨rfl,hc⟩;have lJ:=ac hc;clear hc;go_wp2_with fail;refine lJ.aa.mono ?_;rintro e a4 ⟨rfl,hq⟩;have bH:=ac hq;clear hq;go_wp2;go_ret;exact⟨rfl,bH.aa⟩
end lt
namespace lt
open Go.RowKit aD av aM br dr b7 bX
theorem aj3(n:Nat):(iP n).length<=2:=by unfold iP;split<;>simp
theorem BN(p:ay)(fs:List (List UInt8×Int))(cs:List Int):(dF p fs cs).length<=303:=by
 unfold dF rQ;split;·simp
 ·split;(·simp);·split;(·simp only[Bo,dL,bT];have:=aj3 (dR (ew.ll p) p fs cs).length;omega);·simp
def gg(os:List aP):Prop:=∀o∈os,o.data.length<=303
theorem gg.app{a:List aP}(h:gg a)(g:gg b):gg (a++b):=λo ho=>(mE.1 ho).elim (h o) (g o)
theorem gg.cons(h:o.data.length<=303)(g:gg b):gg (o::b):=λx hx=>(qA.1 hx).elim (λe=>by rw[e];exact h) (g x)
theorem gg.nil:gg []:=λ_ h=>by cases h
theorem ZX(H:aj)(m:bh):gg (H.ky m):=λo ho=>by
 unfold aj.ky at ho;obtain⟨x,_,hx⟩:=List.mem_flatMap.1 ho;unfold gp at hx;split at hx;·rw[jW.1 hx];exact BN _ _ _
 ·cases hx
theorem EA(H:aj)(k:Nat):gg (H.dZ k):=by
 unfold aj.dZ;refine gg.cons (by simp) ?_;split;·exact ZX _ _
 ·exact gg.nil
theorem amR(H:aj)(c:List UInt8):gg (H.gY c):=by
 unfold aj.gY;split;·exact EA H _
 ·exact gg.nil
theorem amT (H:aj) (k:Nat) (l:bR) (id:Int) (fs:bR):gg (H.yU k l id fs):=by
 unfold aj.yU
 refine gg.cons (BN _ _ _) fun o ho=>?_
 obtain ⟨f,_,hf⟩:=List.mem_flatMap.1 ho
 unfold lF at hf
 obtain ⟨m,_,rfl⟩:=List.mem_map.1 hf
 exact BN _ _ _
theorem amS(k:Nat)(H:aj)(q:bX.lK):gg (bV k H q).2.1:=by
 unfold bV;split;·split;(·exact ZX _ _);·split;(·exact gg.nil);·split;(·exact amT _ _ _ _ _);·split;(·exact gg.cons (BN _ _ _) gg.nil);·split;(·exact gg.cons (BN _ _ _) gg.nil);·split;(·exact gg.cons (by simp) gg.nil);·exact EA H k
 ·split;(·split;(·exact gg.cons (BN _ _ _) (gg.cons (by simp) gg.nil));·exact(amR H _).app (gg.cons (BN _ _ _) gg.nil));·exact EA H k
theorem aj5(hO:bZ H)(ht:za p fs):(bV k H (p,fs,cs)).2.1.length<=3000:=by
 have h8:=hO.len;have hp:=Qv H (gj p);have hc:=F7 hO k;have ho:=Qk hO p.aq;unfold bV;split;·split;(·simp only;omega);·split;(·simp);·split;(·have h1:=QF k H.ret (cd (H.ct k) fs).2.1;have h2:=(QS (H.ct k) (fs:=fs)).2;have h3:(cd (H.ct k) fs).2.1.length*H.ret.length<=298*8:=Nat.mul_le_mul (bi h2 ht.len) hO.ret.1;unfold aj.yU;simp only[dL];omega);·split;(·simp);·split;(·simp);·split;(·simp);·simp only;omega
 ·split;(·split;(·simp);·simp only[bT,uk];omega);·simp only;omega
theorem afV{l:List UInt8}(hO:bZ H)(hpl:o7 l):gg (iq k H l).2/\(iq k H l).2.length<=3000:=by rw[<-NK H k l hpl];unfold ux;cases hR:rd.cG l with|inl b=>(cases b with|true=>exact⟨gg.nil,by simp⟩|false=>exact⟨EA _ k,by have:=F7 (CI hO k l) k;simp only;omega⟩)|inr qn=>obtain⟨⟨p,fs,cs⟩,n⟩:=qn;exact⟨amS _ _ _,aj5 (JV (CI hO k []) k) (Jf hR)⟩
theorem QN(H:aj)(os:List aP)(h:gg os):∀k,gg (cP H os k).2|0=>h|k+1=>by show gg (jm (cP H os k) k).2;unfold jm;split;(·exact(QN H os h k).app (EA _ k));·exact QN H os h k
end lt
namespace lt
open Go.RowKit aD av aM br dr
structure dN (Z:Pl) (H:aj) (n1 n2 n5:Nat) (w:World):Prop where
 duo:H6 Z H n1 n2 n5 w
 ok:bZ H
 mK:eP H
 tm:kJ H
theorem Tc(h:y5 af sv n1 n2 n5 B w):af<w.heap.size:=by obtain⟨v,xs,hT,_⟩:=h;exact hT.fI.lt'
theorem Duo.fresh{Z:Pl}(h:Duo Z H os cF L n1 n2 n5 F G B w)(hx:w.heap.size<=x):Z.dW x=none:=by cases e:Z.dW x with|none=>rfl|some o=>have:=ic (h.k x o e).1;omega
theorem Duo.aak{Z:Pl}(h:Duo Z H [] (.slice none 0 0) [] n1 n2 n5 F G B w)(hT:Taken Z.P H' os F w cF w1):w1.heap[Z.sb]?=some (.cells (ZW Z) 107)/\But F w w1:=by obtain⟨F',L,_,h2,_⟩:=hT;exact⟨h2.blk (λe=>(h.ln _ e).2.2 rfl) h.s,h2⟩
theorem afT{Z:Pl}(hZ:Z.ok)(h:dN Z H n1 n2 n5 w)(hk:k<8)(hc:H.aA k=some c)(d:List UInt8)(h0:0<d.length)(hpl:o7 (c.wait++d))(hlen:c.wait.length+d.length<=1000000)(bK:n1+12000<=4000000000000)(bY:n2+4<=4000000000000)(uI:n5+1<=4000000000000):Calls prog 72 #[.pointer (some ⟨Z.af,0,none⟩),.pointer (some ⟨Z.sb,0,none⟩),.int .i64 (k:Int),.string (bs d)] w λe w'=>e=.returned (.bool true)/\∃m,m<=3000/\dN Z (iq k H (c.wait++d)).1 (n1+4*m) (n2+4) (n5+1) w':=by
 obtain⟨F,G,B,hD⟩:=h.duo;have hds:(bs d).size=d.length:=by simp[bs,ByteArray.size]
 have l8:(bs d).data.toList=d:=by simp[bs]
 obtain⟨Kj,hsl⟩:=afV (k:=k) h.ok hpl;refine Uw Z.af Z.sb Z.P.B Z.D.B (k:Int) (bs d) w (by omega) (by omega) hD.s _ λbl a hbl hb hrow=>?_;have l7:=hD.below hb;have hlb:=hrow.lt;rw[hds];refine(al9 hZ.rd hZ.bf l7.p h.ok h.tm hk hc d hpl hlen bl 0 (d.length+2) (λj x hj=>?_)).mono ?_;·have hlt:=(dw.1 hj).1;rw[iW,hrow.cell (i:=j) (by omega)];unfold lw.mU;rw[l8,ax (by omega),zz,hj];rfl
 rintro e a1 ⟨q,c',kk,rfl,hT,ez,Oz⟩;obtain⟨hs1,j0⟩:=l7.aak hT;obtain⟨hd1,hgo⟩:=l7.went hZ hT;refine⟨q,c',kk,0,rfl,ar hs1 rfl,ar hs1 rfl,(aeH hd1 h.ok h.mK hk hc d hpl hlen).mono ?_⟩;rintro e a2 ⟨rfl,hW⟩;obtain⟨F',AU,L,hL,BV,hnew⟩:=hgo a2 hW;have G0:∀x,F x->x<w.heap.size:=λx hx=>hD.lt (ai hx);have Aq:∀x,G x->x<w.heap.size:=λx hx=>hD.lt (ag (ai hx));have hno:¬(F' bl\/AU bl\/lg (.slice q c' kk) L bl):=λhx=>by rcases hnew bl hx with e|e|e;(·have:=G0 bl e;omega);(·have:=Aq bl e;omega);·omega
 have hrow2:a2.rowIs bl 5 ((bs d).size+2) (lw.mU (bs d).data.toList):=by obtain⟨G2,_,g2,_⟩:=hW;exact(hrow.of_block (j0.ah bl hlb (λe=>by have:=G0 bl e;omega))).of_block (g2.ah bl (cw hlb j0.size) (λe=>by have:=Aq bl e;omega))
 have jN:=Tc hD.b;refine⟨true,rfl,(BV.returned hZ (bs d) (by omega) bl (hD.fresh (by omega)) hrow2 ⟨λe=>hno (ai e),λe=>hno (ag (ai e)),λe=>by have:=hD.lt (ag (ag (ai e)));omega,by have:=hD.lt (ag (ag (ag rfl)));omega,λe=>hno (ag (ag e)),by have:=(Eu hD.p).2;have:=hZ.n0.1;omega,by omega⟩ uI).mono ?_⟩;rintro e a3 ⟨rfl,B',Oc⟩;refine⟨rfl,(Oc.came hZ hL 0 4 true rfl (by omega) (λo ho=>by have:=Kj o ho;omega) (by omega) bY).mono ?_⟩;rintro e a4 ⟨rfl,Od⟩;exact⟨rfl,_,hsl,Od,ez,afr h.ok h.mK hc hpl,Oz⟩
theorem Duo.side{Z:Pl}(h:Duo Z H os cF L n1 n2 n5 F G B w):w.cell? ⟨Z.sb,0,none⟩=some (.pointer (some ⟨Z.P.B,0,none⟩))/\w.cell? ⟨Z.sb,1,none⟩=some (.pointer (some ⟨Z.D.B,0,none⟩)):=⟨ar h.s rfl,ar h.s rfl⟩
theorem afU{Z:Pl}(hZ:Z.ok)(h:dN Z H n1 n2 n5 w)(n:Int)(hn:0<=n->n<8->H.aA n.toNat=none)(d:List UInt8)(h0:0<d.length)(hlen:d.length<=1000000)(bK:n1+12000<=4000000000000)(bY:n2+4<=4000000000000)(uI:n5+1<=4000000000000):Calls prog 72 #[.pointer (some ⟨Z.af,0,none⟩),.pointer (some ⟨Z.sb,0,none⟩),.int .i64 n,.string (bs d)] w λe w'=>e=.returned (.bool true)/\dN Z H n1 (n2+4) (n5+1) w':=by
 obtain⟨F,G,B,hD⟩:=h.duo;have hds:(bs d).size=d.length:=by simp[bs,ByteArray.size]
 refine Uw Z.af Z.sb Z.P.B Z.D.B n (bs d) w (by omega) (by omega) hD.s _ λbl a hbl hb hrow=>?_;have l7:=hD.below hb;have hlb:=hrow.lt;refine(Zh l7.p n hn _).1.mono ?_;rintro e a1 ⟨rfl,hb1⟩;have ot:=l7.below hb1;refine⟨none,0,0,4,rfl,ot.side.1,ot.side.2,(T5 ot.d n hn d).1.mono ?_⟩;rintro e a2 ⟨rfl,hw2⟩;rw[hw2];have hrow2:a1.rowIs bl 5 ((bs d).size+2) (lw.mU (bs d).data.toList):=hrow.of_block (hb1.block bl hlb);have jN:=Tc hD.b;refine⟨false,rfl,(ot.returned hZ (bs d) (by omega) bl (hD.fresh (by omega)) hrow2 ⟨λe=>by have:=hD.lt (ai e);omega,λe=>by have:=hD.lt (ag (ai e));omega,λe=>by have:=hD.lt (ag (ag (ai e)));omega,by have:=hD.lt (ag (ag (ag rfl)));omega,λe=>yP e,by have:=(Eu hD.p).2;have:=hZ.n0.1;omega,by omega⟩ uI).mono ?_⟩;rintro e a3 ⟨rfl,B',Oc⟩;refine⟨rfl,(Oc.came hZ rfl 4 4 false rfl (by simp) (λo ho=>by cases ho) (by simp;omega) bY).mono ?_⟩;rintro e a4 ⟨rfl,Od⟩;exact⟨rfl,Od,h.ok,h.mK,h.tm⟩
end lt
end Go.Proofs.YtnmfmoimjkoieaaGreatDoor
