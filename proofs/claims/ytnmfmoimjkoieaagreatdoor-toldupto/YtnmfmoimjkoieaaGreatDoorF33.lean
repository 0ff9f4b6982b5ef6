import Derived.Test.YtnmfmoimjkoieaaGreatDoorF30
import Derived.Test.YtnmfmoimjkoieaaGreatDoorF31
import Derived.Test.YtnmfmoimjkoieaaGreatDoorF32
set_option maxHeartbeats 25600000
set_option maxRecDepth 100000
set_option linter.all false
namespace Go.Proofs.YtnmfmoimjkoieaaGreatDoor
open Go.Proofs.Tryz
variable{P:br.bb}{w w' a:World}{Q:br.dg}{H H' H1:br.aj}{os o1:List br.aP}{k j b n:Nat}{s:br.Slot}{p p0:aM.ay}{fs:br.bR}{α:Type}{cs:List Int}{c:br.b9}{F:Nat->Prop}{x:List UInt8×Nat}{m:br.bh}
namespace br
open Go.RowKit aD av aM Go.Maps Go.Sort
theorem bS.ym{wv:Value}{r:Bool}{C:eD}(h:bS P w Q H os)(hk:k<8)(hs:Q.sl k=some s)(hb:But (λb=>b=s.X.ae.cb) w w')(hc:w'.heap[s.X.ae.cb]?=some (.cells (dB (k:Int) {s.X.ae with wv:=wv,r:=r} C) 137))(hh:C.bg=s.C.bg)(hw:r=false->w.ownsRow 0 5 1 wv C.waiting.length (eI C.waiting))(ni:Nat)(hN:P.N0<=ni)(hv:r=false->∀b,wv.ownBlock=some b->s.X.ae.r=false/\s.X.ae.wv.ownBlock=some b\/(ni<=b/\¬Q.has P.B b))(mP:r=true->P.rd=some k)(hH:H'.now=H.now/\H'.ret=H.ret/\H'.aO=H.aO/\H'.aA=upd H.aA k (some ⟨C.waiting,C.heard,C.bg.map ji,s.S.bn⟩)):∃Q' s',bS P w' Q' H' os/\Q'.sl=upd Q.sl k (some s')/\s'.X.ae={s.X.ae with wv:=wv,r:=r}/\s'.C=C/\But (Q.has P.B) w w'/\∀b,Q'.has P.B b->Q.has P.B b\/w.heap.size<=b\/(ni<=b/\¬Q.has P.B b):=by
 have hS:=h.slt k s hk hs;have hne:∀{b:Nat}{c:Array Value}{t:TypeId},w.heap[b]?=some (.cells c t)->t≠137->w'.heap[b]?=w.heap[b]?:=λ{b c t} hb' ht=>hb.ah b (aG hb') (λe=>by have:=hS.aA.blk;rw[<-e,hb']at this;simp at this;exact ht this.2);refine wU (h.Lg (H':=H') ni hN k hk (some ⟨⟨{s.X.ae with wv:=wv,r:=r},s.X.sv,s.X.x,s.X.y⟩,C,s.S⟩) Q.aI [] Q.D Q.nn (hb.wide (λb _ e=>ag (ag ⟨s,hs,ai (ai e)⟩))) ?_ (ai rfl) (λo ho=>by cases ho) (λt ht=>?_) ?_ ?_ ⟨hH.1,hH.2.1,hH.2.2.2⟩ (λt ht hr b e=>?_) (λt ht hr=>by cases ht;exact mP hr)) ?_;·rw[ek,K5 (by rw[h.kO k hk,hs];rfl)];exact h.blk.but hb (λb e=>by rw[e];exact h.blk.not hS.aA.blk (by decide))
 ·cases ht;have dC:∀o:(⟨⟨{s.X.ae with wv:=wv,r:=r},s.X.sv,s.X.x,s.X.y⟩,C,s.S⟩:Slot).on,s.on:=λo e=>o (hh.trans e);refine⟨⟨⟨hc,λhr=>bM (hw hr) (λb hb'=>by obtain⟨cur,hx⟩:=aU (hw hr) hb';exact hne hx (by decide)),hS.aA.b1.ah (hne hS.aA.b1.bx (by decide)) (hne hS.aA.b1.cD (by decide)),hS.aA.b2.ah (hne hS.aA.b2.bx (by decide)) (hne hS.aA.b2.cD (by decide))⟩,λo=>(hS.aO (dC o)).but hb (λb hb' e=>(hS.aO (dC o)).not hS.aA.blk (by decide) (e▸hb')),λo=>hS.snd (dC o),λo=>⟨(hne (hS.kW (dC o)).bx (by decide)).trans (hS.kW (dC o)).bx,(hne (hS.kW (dC o)).cD (by decide)).trans (hS.kW (dC o)).cD,_,hc,(jM _ _ _).1⟩⟩,λo=>⟨(h.ok k s hk hs (dC o)).1,(h.ok k s hk hs (dC o)).2.1,λp hp=>(h.ok k s hk hs (dC o)).2.2 p (hh▸hp)⟩,λb hx=>?_⟩;rcases hx with(e|e|e)|⟨o,e⟩;(·exact ai ⟨s,hs,ai (ai e)⟩);(·exact(hv e.1 b e.2).imp (λe=>⟨s,hs,ai (ag (ai e))⟩) id);(·exact ai ⟨s,hs,ai (ag (ag e))⟩);·exact ai ⟨s,hs,ag ⟨dC o,e⟩⟩
 ·obtain⟨es,cl,hm⟩:=mV h.map;exact q7 h.map (hb.ah _ (aG hm) (λe=>by have:=hS.aA.blk;rw[<-e,hm]at this;cases this))
 ·rw[hH.2.2.1];(have e:ie (upd Q.sl k (some ⟨⟨{s.X.ae with wv:=wv,r:=r},s.X.sv,s.X.x,s.X.y⟩,C,s.S⟩))=ie Q.sl:=by funext x;unfold ie upd;by_cases e:x.2=k;(·rw[ax e,e,hs]);·rw[au e]);rw[e];exact h.fI
 ·cases ht;exact(hv hr b e).elim (λe=>ag ⟨s,hs,e⟩) (λe=>ai ⟨rfl,e.2⟩)
 ·rintro i1 ⟨g2,g3⟩;rw[zC,ek]at i1;rw[ek]at i1;exact⟨_,_,i1,rfl,rfl,rfl,g2,λb e=>g3 b (by rw[ek];exact e)⟩
theorem bS.reading(h:bS P w Q H [])(hk:k<8)(hs:Q.sl k=some s)(hr:s.X.ae.r=false)(hp:P.rd=some k):∃F',vp P H [] k s.X.ae.cb s.X.ae.wv F' w/\(∀b,F' b->Q.has P.B b)/\∀b,s.X.ae.wv.ownBlock=some b->¬F' b:=by
 have hS:=h.slt k s hk hs;have hpl:=h.pl k hk;rw[hs]at hpl;obtain⟨Q',s',h',e1,e2,e3,hb,hf⟩:=h.ym (w':=w) (H':=H) (wv:=s.X.ae.wv) (r:=true) (C:=s.C) hk hs (But.of_below (aN _ _)) hS.aA.blk rfl (λe=>by cases e) w.heap.size h.gd.env.size (λe=>by cases e) (λ_=>hp) ⟨rfl,rfl,rfl,(upd_same hpl).symm⟩;refine⟨Q'.has P.B,⟨Q',s',h',rfl,by rw[e1];unfold upd;rw[ax rfl],by rw[e2],by rw[e2],by rw[e2]⟩,λb e=>?_,λb hw e=>?_⟩;·have:=h'.lt e;rcases hf b e with e|e|e;(·exact e);(·omega);·omega
 ·obtain⟨cur,hc⟩:=aU (hS.aA.qb hr) hw;(have key:∀{c':Array Value}{t:TypeId},w.heap[b]?=some (.cells c' t)->t≠5->False:=λh1 h2=>by rw[hc]at h1;simp at h1;exact h2 h1.2.symm);rcases e with e|(e|⟨o,ho,_⟩)|e|e|⟨j,t,hj,ht,e⟩;(·exact key (e▸h'.blk.blk) (by decide));(·obtain⟨c2,hc2⟩:=aU h'.blk.aa.row e;exact key hc2 (by decide));(·have:=h'.uO;rw[List.map_eq_nil_iff]at this;rw[this]at ho;cases ho);(·obtain⟨es,cl,hm⟩:=mV h'.map;rw[<-e,hc]at hm;cases hm);(·obtain⟨c2,hc2⟩:=aU h'.ret e;exact key hc2 (by decide));·have hu:=(h'.slt j t hj ht).u8 hc e;rw[e1]at ht;unfold upd at ht;by_cases bF:j=k;(·rw[ax bF]at ht;cases ht;rw[e2]at hu;cases hu.1);·rw[au bF]at ht;exact h.om j k t s b hj hk bF ht hs (ai (ag (ai hu))) (ai (ag (ai ⟨hr,hw⟩)))
theorem bS.refuse(h:bS P w Q H os)(hO:bZ H)(hk:k<8)(hs:Q.sl k=some s)(code:Int)(hL:os.length<100000000000):Calls prog 127 #[.pointer (some ⟨P.B,0,none⟩),.pointer (some ⟨s.X.ae.cb,0,none⟩),.int .i64 code] w λe w'=>e=.returned (.tuple #[])/\bG (xC P (H.shut k) (os++[⟨(k:Int),dF (gu false code) [] [],false⟩]++[⟨(k:Int),[],true⟩]) k s.X.ae.cb s.C Q.aH.ba (upd Q.sl k none)) (Q.has P.B) w w':=by refine al6 P.B s.X.ae.cb code w _ _ (h.write hk hs (gu false code) _ (h.gd.enc _ rfl rfl) (by omega)) ?_;rintro a ⟨F',⟨Q',h',rfl,e1,e2,e3⟩,hb,hf⟩;refine(h'.shut hO hk (by rw[e2];exact hs) (by rw[bT,uk];omega)).mono λe w' ⟨i1,i2⟩=>⟨i1,?_⟩;rw[e1,e2]at i2;exact i2.step hb hf
theorem bS.receive(h:bS P w Q H os)(hO:bZ H)(cb:Nat)(p:ay)(aQ:∃a b c,p.fv=.slice a b c)(hcv:∃a b c,p.ae=.slice a b c)(hq:p.qos=0)(ht:p.ak.length<=65535)(hL:os.length<100000000000):Calls prog 157 #[.pointer (some ⟨P.B,0,none⟩),.pointer (some ⟨cb,0,none⟩),.agg (bw p)] w λe w'=>e=.returned (.tuple #[])/\bG (oU P (H.ia (gj p)) (os++H.ky (gj p)) Q.aH.ba Q.sl Q.D) (Q.has P.B) w w':=by obtain⟨f1,f2,f3,aQ⟩:=aQ;obtain⟨c1,c2,c3,hcv⟩:=hcv;refine al5 P.B cb p w (λw'=>bG (oU P (H.ia (gj p)) (os++H.ky (gj p)) Q.aH.ba Q.sl Q.D) (Q.has P.B) w w') _ f1 f2 f3 c1 c2 c3 aQ hcv hq (λw' hb=>?_) (λw' hw=>⟨rfl,hw⟩);refine((h.ah (But.of_below (F:=λ_=>False) hb) (λ_ f=>f.elim)).KZ hO (gj p) hq ht hL).mono λe w'' ⟨i1,i2⟩=>⟨i1,i2.after hb,i2.KB (λb e=>h.lt e)⟩
end br
namespace br
open Go.RowKit aD av aM rd ew b7 bJ Go.Maps bX
theorem Ng(n:Int)(V:dt)(C:eD)(K f:Nat)(h:∃q,C.bg=some q)(hK:(K=10/\f=168)\/(K=12/\f=170)\/(K=14/\f=171)):(dB n V C)[2+K]?=some (.func (.func f) #[] #[.pointer (some ⟨V.x',0,none⟩),.pointer (some ⟨V.y',0,none⟩)]):=by obtain⟨wt,hd,hl⟩:=C;obtain⟨q,h⟩:=h;simp only at h;subst h;rcases hK with⟨rfl,rfl⟩|⟨rfl,rfl⟩|⟨rfl,rfl⟩<;>kernel_rfl
theorem TQ(n:Int)(V:dt)(C:eD)(K:Nat)(h:C.bg=none/\(K=0\/K=2\/K=3\/K=4\/K=5\/K=6\/K=7\/K=8\/K=9\/K=10\/K=11\/K=12\/K=13\/K=14)\/(∃q,C.bg=some q)/\(K=1\/K=2\/K=9\/K=11\/K=13)):(dB n V C)[2+K]?=some (.func (.func 126) #[] #[.pointer (some ⟨V.x,0,none⟩),.pointer (some ⟨V.y,0,none⟩)]):=by
 obtain⟨wt,hd,hl⟩:=C;rcases h with⟨h,hK⟩|⟨⟨q,h⟩,hK⟩;·simp only at h;subst h;rcases hK with rfl|rfl|rfl|rfl|rfl|rfl|rfl|rfl|rfl|rfl|rfl|rfl|rfl|rfl<;>kernel_rfl
 ·simp only at h;subst h;rcases hK with rfl|rfl|rfl|rfl|rfl<;>kernel_rfl
def aj.hear(H:aj)(k:Nat):aj:={H with aA:=upd H.aA k ((H.aA k).map λc=>{c with heard:=H.now})}
def aj.ct(H:aj)(k:Nat):bR:=((H.aA k).map b9.aJ).getD []
def aj.mW(H:aj)(k:Nat):Bool:=((H.aA k).bind b9.bg).isSome
def bV(k:Nat)(H:aj)(q:bX.lK):aj×List aP×Bool:=if H.mW k then if q.1.kind=3 then(H.ia (gj q.1),H.ky (gj q.1),false)else if q.1.kind=4\/q.1.kind=5\/q.1.kind=7 then(H,[],false)else if q.1.kind=8 then(H.cN k (cd (H.ct k) q.2.1).1,H.yU k (H.ct k) q.1.id q.2.1,false)else if q.1.kind=10 then(H.cN k (ku (H.ct k) q.2.1),[⟨(k:Int),dF (jS q.1.id) [] [],false⟩],false)else if q.1.kind=12 then(H,[⟨(k:Int),dF rb [] [],false⟩],false)else if q.1.kind=14 then(H.shut k,[⟨(k:Int),[],true⟩],true)else(H.cut k,H.dZ k,true)else if q.1.kind=1 then if q.1.aq=[]then(H.shut k,[⟨(k:Int),dF (gu false 2) [] [],false⟩,⟨(k:Int),[],true⟩],true)else((H.off q.1.aq).join k q.1,H.gY q.1.aq++[zM k],false)else(H.cut k,H.dZ k,true)
def H8(P:bb)(k cb:Nat)(H:aj)(os:List aP):dQ:=λF w=>∃C ba sl,xC P H os k cb C ba sl F w/\sl k=none
theorem Un(P:bb)(k cb:Nat)(H:aj)(os:List aP):Fit P.N0 (H8 P k cb H os):=⟨λF G a b ⟨C,ba,sl,h,e⟩ hb hG=>⟨C,ba,sl,(N4 P H os k cb C ba sl).ah F G a b h hb hG,e⟩,λF a ⟨C,ba,sl,h,_⟩=>(N4 P H os k cb C ba sl).lt F a h⟩
def HX(P:bb)(k cb:Nat)(wv:Value)(os:List aP)(y:aj×List aP×Bool):dQ:=if y.2.2 then H8 P k cb y.1 (os++y.2.1)else vp P y.1 (os++y.2.1) k cb wv
structure Bp (p:ay):Prop where
 ia:p.kind=3→p.qos=0
 aA:p.kind=1→p.aR=true∧p.qos=0
 rel:p.kind≠6
theorem WN(hd:za p fs)(hp:Bp p)(h1:p.kind=1):IE p:=by obtain⟨h2,h3,h4,_⟩:=hd.aA h1;exact⟨by omega,by omega,(hp.aA h1).1,(hp.aA h1).2,h3⟩
theorem bS.hand {P:bb} {w:World} {Q:dg} {H:aj} {os:List aP} {k:Nat} {s:Slot} (h:bS P w Q H os) (hO:bZ H) (hk:k < 8) (hs:Q.sl k=some s) (mP:s.X.ae.r=true) (rX:P.bf≤8) (hL:os.length < 100000) (p:ay) (fs:List (List UInt8×Int)) (cs:List Int) (hd:EZ p fs) (ht:za p fs) (hp:Bp p) (fv ae:Value) (aQ:w.ownsRow 0 95 2 fv fs.length (ct fs)) (hcv:∃ a b c,ae=.slice a b c) (hfn:∀ b,fv.ownBlock=some b→¬ Q.has P.B b) (hoff:(H.gY p.aq).length < 1000) :
 ∃ (K f:Nat) (uv:Array Value),K < 15∧p.kind=(K:Int)∧(dB (k:Int) s.X.ae s.C)[2+K]?=some (.func (.func f) #[] uv)∧(∀ (args:Array Value) (w:World),(callFunc f args).run prog w=.ok (.enter f args) w)∧Calls prog f (#[.agg (bw { p with fv:=fv,ae:=ae })] ++ uv) w fun e w'=>e=.returned (.tuple #[])∧bG (HX P k s.X.ae.cb s.X.ae.wv os (bV k H (p,fs,cs))) (Q.has P.B) w w':=by
 have cE:∃ a b c,fv=.slice a b c:=by obtain ⟨q,k,e⟩:=bI aQ;exact ⟨_,_,_,e⟩
 have hS:=h.slt k s hk hs
 have hpl:=h.pl k hk
 rw [hs] at hpl
 have lv:H.ct k=s.S.bn:=by unfold aj.ct;rw [hpl];rfl
 have hfo:∀ g∈s.S.bn,g.1.length≤65535:=fun g hg=>hO.aJ k _ hpl g hg
 have im:∀ {w'},Below w.heap.size w w'→bS P w' Q H os:=fun hb=>h.ah (But.of_below (F:=fun _=>False) hb) (fun _ f=>f.elim)
 have wrap:∀ {A:dQ} {w' w''} {e:Ending},Below w.heap.size w w'→(e=.returned (.tuple #[])∧bG A (Q.has P.B) w' w'')→e=.returned (.tuple #[])∧e=.returned (.tuple #[])∧bG A (Q.has P.B) w w'':=fun hb ⟨h1,h2⟩=>⟨h1,h1,h2.after hb⟩
 have gone:∀ {H':aj} {os':List aP} {C:eD} {ba:Nat} {w' w''},bG (xC P H' os' k s.X.ae.cb C ba (upd Q.sl k none)) (Q.has P.B) w' w''→bG (H8 P k s.X.ae.cb H' os') (Q.has P.B) w' w'':=fun hw=>hw.mono (fun F a hg=>⟨_,_,_,hg,by unfold upd;rw [ax rfl]⟩)
 have same:∀ {os':List aP} {H':aj} {w' w''},bG (oU P H' os' Q.aH.ba Q.sl Q.D) (Q.has P.B) w' w''→bG (vp P H' os' k s.X.ae.cb s.X.ae.wv) (Q.has P.B) w' w'':=fun hw=>(hw.HB hs).QY mP
 obtain ⟨K,hK',VL⟩:∃ K:Nat,p.kind=(K:Int)∧K < 15:=⟨p.kind.toNat,by have:=hd.kind;omega,by have:=hd.kind;omega⟩
 have h0:K≠0:=by have:=hd.kind;omega
 have h6:K≠6:=fun e=>hp.rel (by rw [hK',e];rfl)
 have no:∀ (e:bV k H (p,fs,cs)=(H.cut k,H.dZ k,true)),(dB (k:Int) s.X.ae s.C)[2+K]?=some (.func (.func 126) #[] #[.pointer (some ⟨s.X.ae.x,0,none⟩),.pointer (some ⟨s.X.ae.y,0,none⟩)])→∃ (K f:Nat) (uv:Array Value),K < 15∧p.kind=(K:Int)∧(dB (k:Int) s.X.ae s.C)[2+K]?=some (.func (.func f) #[] uv)∧(∀ (args:Array Value) (w:World),(callFunc f args).run prog w=.ok (.enter f args) w)∧Calls prog f (#[.agg (bw { p with fv:=fv,ae:=ae })] ++ uv) w fun e w'=>e=.returned (.tuple #[])∧bG (HX P k s.X.ae.cb s.X.ae.wv os (bV k H (p,fs,cs))) (Q.has P.B) w w':=fun e hc=>by
  rw [e]
  refine ⟨K,_,_,VL,hK',hc,adG,ag4 P.B s.X.ae.cb _ _ _ w _ hS.aA.b1 cE hcv fun w' hb=>?_⟩
  exact ((im hb).cut hO hk hs (by omega)).mono fun e w'' ⟨i1,i2⟩=>wrap hb ⟨i1,gone i2⟩
 cases hh:s.C.bg with
 | none =>
   have dC:H.mW k=false:=by unfold aj.mW;rw [hpl];simp [gZ,hh]
   by_cases jE:K=1
   · subst jE
     obtain ⟨f1,f2,f3,rfl⟩:=cE
     obtain ⟨c1,c2,c3,rfl⟩:=hcv
     by_cases hc:p.aq = []
     · have e:bV k H (p,fs,cs)=(H.shut k,[⟨(k:Int),dF (gu false 2) [] [],false⟩,⟨(k:Int),[],true⟩],true):=by unfold bV;simp [dC,hK',hc]
       rw [e]
       refine ⟨1,_,_,by decide,hK',TN _ _ _ hh,Tz,V6 P.B s.X.ae.cb _ _ _ w _ hS.aA.b2 ⟨_,_,_,rfl⟩ ⟨_,_,_,rfl⟩ fun w' hb=>?_⟩
       refine aer P.B s.X.ae.cb _ w' _ (by exact hc) ⟨_,_,_,rfl⟩ ⟨_,_,_,rfl⟩ (fun w1 hb1=>?_)
       refine ((im (hb.trans (hb1.mono hb.size))).refuse hO hk hs 2 (by omega)).mono fun e w'' ⟨i1,i2⟩=>?_
       rw [fS] at i2
       exact wrap (hb.trans (hb1.mono hb.size)) ⟨i1,gone i2⟩
     · have e:bV k H (p,fs,cs)=((H.off p.aq).join k p,H.gY p.aq ++ [zM k],false):=by unfold bV;simp [dC,hK',hc]
       rw [e]
       refine ⟨1,_,_,by decide,hK',TN _ _ _ hh,Tz,V6 P.B s.X.ae.cb _ _ _ w _ hS.aA.b2 ⟨_,_,_,rfl⟩ ⟨_,_,_,rfl⟩ fun w' hb=>?_⟩
       refine ((im hb).connect hO hk hs hh mP p (WN ht hp hK') hc f1 f2 f3 c1 c2 c3 rX (by omega)).mono fun e w'' ⟨i1,i2⟩=>?_
       rw [fS] at i2
       exact wrap hb ⟨i1,i2⟩
   · refine no ?_ (TQ _ _ _ K (ai ⟨hh,by omega⟩))
     have:¬ p.kind=1:=by rw [hK'];omega
     unfold bV;simp [dC,this]
 | some q0 =>
   have dC:H.mW k=true:=by unfold aj.mW;rw [hpl];simp [gZ,hh]
   have ho:s.on:=fun e=>by rw [hh] at e;cases e
   have hex:∃ q,s.C.bg=some q:=⟨_,hh⟩
   have OT:=h.c18 hk hs ho
   have PC:=hS.aO ho
   have hnew:=(h.ok k s hk hs ho).2.1
   have hw0:s.S.waiting = []:=by rw [hnew];rfl
   have hu0:s.S.under = []:=by rw [hnew];rfl
   have stay:∀ {w' w''},Below w.heap.size w w'→Below w'.heap.size w' w''→bG (HX P k s.X.ae.cb s.X.ae.wv os (H,[],false)) (Q.has P.B) w w'':=fun hb hb'=>by
    show bG (vp P H (os ++ []) k s.X.ae.cb s.X.ae.wv) (Q.has P.B) w _
    rw [ek]
    exact (bG.refl (A:=vp P H os k s.X.ae.cb s.X.ae.wv) ⟨Q,s,h,rfl,hs,rfl,rfl,mP⟩).below (PI P H os k _ _) (hb.trans (hb'.mono hb.size))
   have hall:K=3∨(K=4∨K=5∨K=7)∨K=8∨K=10∨K=12∨K=14∨(K=1∨K=2∨K=9∨K=11∨K=13):=by omega
   rcases hall with rfl | Ae | rfl | rfl | rfl | rfl | hno
   · have e:bV k H (p,fs,cs)=(H.ia (gj p),H.ky (gj p),false):=by unfold bV;simp [dC,hK']
     rw [e]
     refine ⟨3,_,_,by decide,hK',aej _ _ _ hex,adH,ag6 P.B s.X.ae.cb _ _ _ w _ hS.aA.b2 cE hcv fun w' hb=>?_⟩
     exact ((im hb).receive hO s.X.ae.cb { p with fv:=fv,ae:=ae } cE hcv (hp.ia hK') (bi (hd.top hK') (by omega)) (by omega)).mono fun e w'' ⟨i1,i2⟩=>wrap hb ⟨i1,same i2⟩
   · have e:bV k H (p,fs,cs)=(H,[],false):=by unfold bV;rcases Ae with rfl | rfl | rfl<;>simp [dC,hK']
     rw [e]
     rcases Ae with rfl | rfl | rfl
     · refine ⟨4,_,_,by decide,hK',aef _ _ _ hex,adI,ag1 P.B s.X.ae.cb _ _ s.X.ae.sp _ w _ hS.aA.b2 OT cE hcv fun w' hb=>?_⟩
       exact (Ui s.X.ae.sp _ (ai rfl) p.id _ _ w' (PC.below hb) hw0 hu0).mono fun e w'' ⟨i1,i2⟩=>⟨i1,i1,stay hb i2⟩
     · refine ⟨5,_,_,by decide,hK',aek _ _ _ hex,adJ,ag7 P.B s.X.ae.cb _ _ s.X.ae.sp _ w _ hS.aA.b2 OT cE hcv fun w' hb=>?_⟩
       exact (al7 s.X.ae.sp p.id _ _ w' (PC.below hb) (by rw [hu0];rfl)).mono fun e w'' ⟨i1,i2⟩=>⟨i1,i1,stay hb i2⟩
     · refine ⟨7,_,_,by decide,hK',aeg _ _ _ hex,adK,ag3 P.B s.X.ae.cb _ _ s.X.ae.sp _ w _ hS.aA.b2 OT cE hcv fun w' hb=>?_⟩
       exact (Ui s.X.ae.sp _ (ag rfl) p.id _ _ w' (PC.below hb) hw0 hu0).mono fun e w'' ⟨i1,i2⟩=>⟨i1,i1,stay hb i2⟩
   · have e:bV k H (p,fs,cs)=(H.cN k (cd s.S.bn fs).1,H.yU k s.S.bn p.id fs,false):=by unfold bV;simp [dC,hK',lv]
     rw [e]
     refine ⟨8,_,_,by decide,hK',ael _ _ _ hex,adL,ag8 P.B s.X.ae.cb _ _ _ w _ hS.aA.b2 cE hcv fun w' hb=>?_⟩
     exact ((im hb).subs hO hk hs ho { p with fv:=fv,ae:=ae } fs hcv (gm aQ hb) hfn (bi hd.len (by omega)) (fun f hf=>⟨bi (hd.aJ f hf) (by omega),(ht.aJ f hf).1⟩) (fun i=>QJ hO k _ (aae hfo _ (fun f hf=>bi (hd.aJ f (List.mem_of_mem_take hf)) (by omega)))) (by omega)).mono fun e w'' ⟨i1,i2⟩=>wrap hb ⟨i1,i2.QY mP⟩
   · have e:bV k H (p,fs,cs)=(H.cN k (ku s.S.bn fs),[⟨(k:Int),dF (jS p.id) [] [],false⟩],false):=by unfold bV;simp [dC,hK',lv]
     rw [e]
     refine ⟨10,_,_,by decide,hK',Ng _ _ _ 10 _ hex (ai ⟨rfl,rfl⟩),adM,ag9 P.B s.X.ae.cb _ _ _ w _ hS.aA.b2 cE hcv fun w' hb=>?_⟩
     exact ((im hb).apm hk hs ho { p with fv:=fv,ae:=ae } fs hcv (gm aQ hb) hfn (bi hd.len (by omega)) (by omega)).mono fun e w'' ⟨i1,i2⟩=>wrap hb ⟨i1,i2.QY mP⟩
   · have e:bV k H (p,fs,cs)=(H,[⟨(k:Int),dF rb [] [],false⟩],false):=by unfold bV;simp [dC,hK']
     rw [e]
     refine ⟨12,_,_,by decide,hK',Ng _ _ _ 12 _ hex (ag (ai ⟨rfl,rfl⟩)),adN,ag5 P.B s.X.ae.cb _ _ _ w _ hS.aA.b2 cE hcv fun w' hb=>?_⟩
     exact ((im hb).write hk hs rb _ ((im hb).gd.enc rb rfl rfl) (by omega)).mono fun e w'' ⟨i1,i2⟩=>wrap hb ⟨i1,same i2⟩
   · have e:bV k H (p,fs,cs)=(H.shut k,[⟨(k:Int),[],true⟩],true):=by unfold bV;simp [dC,hK']
     rw [e]
     refine ⟨14,_,_,by decide,hK',Ng _ _ _ 14 _ hex (ag (ag ⟨rfl,rfl⟩)),adO,ag2 P.B s.X.ae.cb _ _ _ w _ hS.aA.b2 cE hcv fun w' hb=>?_⟩
     exact ((im hb).shut hO hk hs (by omega)).mono fun e w'' ⟨i1,i2⟩=>wrap hb ⟨i1,gone i2⟩
   · refine no ?_ (TQ _ _ _ K (ag ⟨hex,hno⟩))
     unfold bV
     simp only [dC,hK']
     rcases hno with rfl | rfl | rfl | rfl | rfl<;>rfl
theorem Qv(H:aj)(m:bh):(H.ky m).length<=H.aO.length:=by unfold aj.ky;generalize H.aO=l;induction l with|nil=>exact aC _|cons a t ih=>rw[nb,bT,dL];(have:(gp H m a).length<=1:=by unfold gp;split<;>simp);omega
theorem F7(h:bZ H)(k:Nat):(H.dZ k).length<=9:=by
 unfold aj.dZ;rw[dL];split;·have h1:=Qv (H.shut k) (by assumption);have h2:=vt (λx:List UInt8×Nat=>decide (x.2≠k)) H.aO;have h3:=h.len;have h4:(H.shut k).aO.length<=H.aO.length:=h2;omega
 ·simp
theorem Qk(h:bZ H)(c:List UInt8):(H.gY c).length<=9:=by
 unfold aj.gY;split;·exact F7 h _
 ·simp
def aj.sub(H' H:aj):Prop:=H'.now=H.now/\∀k c,H'.aA k=some c->∃c0,H.aA k=some c0/\c.heard=c0.heard/\c.wait=c0.wait
theorem aj.sub.refl(H:aj):H.sub H:=⟨rfl,λ_ c h=>⟨c,h,rfl,rfl⟩⟩
theorem aj.sub.trans{A B C:aj}(h:A.sub B)(g:B.sub C):A.sub C:=⟨h.1.trans g.1,λk c e=>by obtain⟨c0,e0,e1,e2⟩:=h.2 k c e;obtain⟨c1,f0,f1,f2⟩:=g.2 k c0 e0;exact⟨c1,f0,e1.trans f1,e2.trans f2⟩⟩
theorem kJ.sub(h:kJ H)(hs:H'.sub H):kJ H':=⟨by rw[hs.1];exact h.now,λk c e=>by obtain⟨c0,e0,e1,_⟩:=hs.2 k c e;rw[e1,hs.1];exact h.heard k c0 e0⟩
theorem Q6(H:aj)(k:Nat)(f:b9->Option b9)(hf:∀c c',f c=some c'->c'.heard=c.heard/\c'.wait=c.wait)(s:fP)(r:List bh):aj.sub ⟨H.now,upd H.aA k ((H.aA k).bind f),s,r⟩ H:=by
 refine⟨rfl,λj c e=>?_⟩;have e:(if j=k then(H.aA k).bind f else H.aA j)=some c:=e;by_cases bF:j=k;·rw[ax bF]at e;obtain⟨c0,e0,e1⟩:=Option.bind_eq_some_iff.1 e;exact⟨c0,by rw[bF];exact e0,hf _ _ e1⟩
 ·rw[au bF]at e;exact⟨c,e,rfl,rfl⟩
theorem K9(H:aj)(k:Nat):(H.shut k).sub H:=by have:=Q6 H k (λ_=>none) (λ_ _ e=>by cases e) (H.shut k).aO H.ret;rw[show(H.aA k).bind (λ_=>(none:Option b9))=none by cases H.aA k<;>rfl]at this;exact this
theorem zR(H:aj)(k:Nat):(H.cut k).sub H:=by
 unfold aj.cut;split;·exact K9 H k
 ·exact K9 H k
theorem KO(H:aj)(c:List UInt8):(H.off c).sub H:=by
 unfold aj.off;split;·exact zR H _
 ·exact aj.sub.refl H
theorem map_bind{β:Type}(o:Option α)(f:α->β):o.map f=o.bind (λa=>some (f a)):=by cases o<;>rfl
theorem ZO(H:aj)(k:Nat)(f:bR):(H.cN k f).sub H:=by unfold aj.cN;rw[map_bind];exact Q6 H k _ (λc c' e=>by cases e;exact⟨rfl,rfl⟩) H.aO H.ret
theorem ajs(H:aj)(k:Nat)(p:ay):(H.join k p).sub H:=by unfold aj.join;rw[map_bind];exact Q6 H k _ (λc c' e=>by cases e;exact⟨rfl,rfl⟩) _ H.ret
theorem Z6(k:Nat)(H:aj)(q:bX.lK):(bV k H q).1.sub H:=by
 unfold bV;split;·split;(·exact⟨rfl,λ_ c h=>⟨c,h,rfl,rfl⟩⟩);·split;(·exact aj.sub.refl H);·split;(·exact ZO H k _);·split;(·exact ZO H k _);·split;(·exact aj.sub.refl H);·split;(·exact K9 H k);·exact zR H k
 ·split;(·split;(·exact K9 H k);·exact(ajs _ k _).trans (KO H _));·exact zR H k
theorem akX(h:bZ H)(c:List UInt8){aZ:b9}(hc:H.aA k=some aZ)(hh:aZ.bg=none):(H.off c).aA k=some aZ:=by
 unfold aj.off;split;·rename_i j hj;(have hne:k≠j:=λe=>by unfold aj.fD at hj;obtain⟨x,hx,rfl⟩:=iz.1 hj;obtain⟨_,c',p',i1,i2,_⟩:=(h.aO x).1 (zE hx);rw[<-e,hc]at i1;cases i1;rw[hh]at i2;cases i2);rw[(I9 H j k hne).1];exact hc
 ·exact hc
theorem ana(h:bZ H)(hk:k<8)(hl:H.mW k=false->H.aO.length<8)(hc:∃c,H.aA k=some c)(hd:EZ p fs)(ht:za p fs)(hp:Bp p):bZ (bV k H (p,fs,cs)).1:=by
 obtain⟨c,hc⟩:=hc;have hfo:∀g∈H.ct k,g.1.length<=65535:=λg hg=>by unfold aj.ct at hg;rw[hc]at hg;exact h.aJ k c hc g hg
 unfold bV;cases ho:H.mW k with|true=>simp only[gh];split;(·rename_i h3;exact Qw h _ (bi (hd.top h3) (by omega)) (hp.ia h3));·split;(·exact h);·split;(·exact QJ h k _ (aae hfo _ (λf hf=>bi (hd.aJ f hf) (by omega))));·split;(·exact QJ h k _ (λg hg=>hfo g (afy _ _ g hg)));·split;(·exact h);·split;(·exact yT h k);·exact Ds h k|false=>simp only[kB,iO];split;(·rename_i h1;split;(·exact yT h k);·(have hh:c.bg=none:=by unfold aj.mW at ho;rw[hc]at ho;cases e:c.bg with|none=>rfl|some _=>simp[e]at ho);refine ajr (YZ h _) k p hk c (akX h _ hc hh) hh (WN ht hp h1) ?_;refine Nat.lt_of_le_of_lt ?_ (hl ho);unfold aj.off;split;(·rw[F8];exact vt _ _);·exact aC _);·exact Ds h k
theorem TR(h:bZ H)(k:Nat)(f:b9->b9)(hf:∀c,(f c).bg=c.bg/\(f c).aJ=c.aJ)(e1:H'.aO=H.aO)(e2:H'.ret=H.ret)(e3:H'.aA=upd H.aA k ((H.aA k).map f)):bZ H':=by
 have hcon:∀j c,H'.aA j=some c->∃c0,H.aA j=some c0/\c.bg=c0.bg/\c.aJ=c0.aJ:=λj c e=>by rw[e3]at e;unfold upd at e;by_cases bF:j=k;(·rw[ax bF]at e;obtain⟨c0,e1,rfl⟩:=iz.1 e;exact⟨c0,by rw[bF];exact e1,hf c0⟩);·rw[au bF]at e;exact⟨c,e,rfl,rfl⟩
 refine⟨λx=>?_,by rw[e1];exact h.len,λj c p e1 e2=>?_,λj c e=>?_,by rw[e2];exact h.ret⟩;·rw[e1];refine(h.aO x).trans ⟨λ⟨h8,c,p,i1,i2,i3⟩=>?_,λ⟨h8,c,p,i1,i2,i3⟩=>?_⟩;(·rw[e3];unfold upd;by_cases bF:x.2=k;(·rw[ax bF,<-bF,i1];exact⟨h8,_,p,rfl,(hf c).1.trans i2,i3⟩);·rw[au bF];exact⟨h8,c,p,i1,i2,i3⟩);·obtain⟨c',j1,j2,_⟩:=hcon _ _ i1;exact⟨h8,c',p,j1,j2▸i2,i3⟩
 ·obtain⟨c',j1,j2,_⟩:=hcon _ _ e1;exact h.hel j c' p j1 (j2▸e2)
 ·obtain⟨c',j1,_,ma⟩:=hcon _ _ e;rw[ma];exact h.aJ j c' j1
theorem JV(h:bZ H)(k:Nat):bZ (H.hear k):=TR h k (λc=>{c with heard:=H.now}) (λ_=>⟨rfl,rfl⟩) rfl rfl rfl
theorem ahu(h:kJ H)(k:Nat):kJ (H.hear k):=by
 refine⟨h.now,λj c e=>?_⟩;have e:(if j=k then(H.aA k).map (λc=>{c with heard:=H.now})else H.aA j)=some c:=e;by_cases bF:j=k;·rw[ax bF]at e;obtain⟨c0,e1,rfl⟩:=iz.1 e;exact⟨h.now.1,Int.le_refl _⟩
 ·rw[au bF]at e;exact h.heard j c e
def stepT(k:Nat)(H:aj)(q:bX.lK):aj×List (Option aP)×Bool:=((bV k (H.hear k) q).1,(bV k (H.hear k) q).2.1.map some,(bV k (H.hear k) q).2.2)
def o7(l:List UInt8):Prop:=∀p fs cs n,cG l=.inr ((p,fs,cs),n)->Bp p/\l.length<=n
def w9(k:Nat)(H:aj)(o:List (Option aP)):aj×List aP:=if o.getLast?=some none then(H.cut k,o.filterMap id++H.dZ k)else(H,o.filterMap id)
theorem NU(k:Nat)(H:aj)(o:List aP):w9 k H (o.map some)=(H,o):=by
 have:¬(o.map some).getLast?=some none:=by rw[List.getLast?_map];cases o.getLast?<;>simp
 unfold w9;rw[au this];simp
structure aaV (t:Int) (H:aj) (o:List (Option aP)) (l:List UInt8):Prop where
 ok:bZ H
 tm:kJ H
 now:H.now=t
 pl:o7 l
 one:l = []∨o = []
def acf(P:bb)(t:Int)(k cb:Nat)(wv:Value)(H:aj)(o:List (Option aP))(l:List UInt8):dQ:=λF w=>vp P H (o.filterMap id) k cb wv F w/\aaV t H o l
def LG(P:bb)(t:Int)(k cb:Nat)(H:aj)(o:List (Option aP)):dQ:=λF w=>H8 P k cb (w9 k H o).1 (w9 k H o).2 F w/\bZ (w9 k H o).1/\kJ (w9 k H o).1/\(w9 k H o).1.now=t
theorem alF:o7 []:=λ_ _ _ _ h=>by cases h
theorem bS.seven(h:bS P w Q H os)(hO:bZ H)(hk:k<8)(hs:Q.sl k=some s)(hh:s.C.bg=none):H.aO.length<8:=by have hks:=h.new_ne hO hk hs hh;have:=KW 8 (k::H.aO.map Prod.snd) (List.nodup_cons.2 ⟨λe=>by obtain⟨z,hz,e⟩:=i7.1 e;exact hks z hz e,h.nodup hO⟩) (λx hx=>by rcases qA.1 hx with e|e;(·omega);·obtain⟨z,hz,e⟩:=i7.1 e;rw[<-e];exact((hO.aO z).1 hz).1);rw[dL,dU]at this;omega
theorem aje(P:bb)(t:Int)(k cb:Nat)(wv:Value)(wt:List UInt8)(hk:k<8)(rX:P.bf<=8):SN t none P.N0 P.bW P.bc P.B k cb wv wt (stepT k) (acf P t k cb wv) (LG P t k cb):=by
 refine⟨λs o l=>⟨λF G a b ⟨h1,h2⟩ hb hG=>⟨(PI P s _ k cb wv).ah F G a b h1 hb hG,h2⟩,λF a ⟨h1,_⟩=>(PI P s _ k cb wv).lt F a h1⟩,λs o=>⟨λF G a b ⟨h1,h2⟩ hb hG=>⟨(Un P k cb _ _).ah F G a b h1 hb hG,h2⟩,λF a ⟨h1,_⟩=>(Un P k cb _ _).lt F a h1⟩,?_,?_,?_,?_,?_,?_⟩;·rintro H o l F w ⟨⟨Q,s,h,_⟩,_⟩;exact h.gd
 ·rintro H o l F w ⟨⟨Q,s,h,_,hs,rfl,_⟩,hg⟩;exact⟨Q.aH,Q.aI,h.blk.blk,by rw[h.kO k hk,hs];rfl,by rw[h.pg.2.2];exact hg.now⟩
 ·rintro H o l F w ⟨⟨Q,s,h,_,hs,rfl,e,_⟩,hg⟩;exact⟨s.X.ae,s.C,(h.slt k s hk hs).aA.blk,e⟩
 ·rintro H o F w ⟨⟨C,ba,sl,⟨Q,V,h,⟨_,e2⟩,_,_,hc,_⟩,e⟩,_⟩;exact⟨⟨Q.aH,Q.aI,h.blk.blk,by rw[h.kO k hk,e2,e];rfl⟩,V,C,hc⟩
 ·rintro H o l F w ⟨⟨Q,s,h,rfl,hs,rfl,_,_⟩,hg⟩ hd _;have ho:o=[]:=hg.one.elim (λe=>by rw[e]at hd;cases hd) id;subst ho;refine(h.cut hg.ok hk hs (by simp)).mono λe w' ⟨i1,i2⟩=>⟨i1,i2.mono (λF a ha=>?_)⟩;have e:w9 k H ([]++[none])=(H.cut k,[]++H.dZ k):=rfl;unfold LG;rw[e];exact⟨⟨_,_,_,ha,by unfold upd;rw[ax rfl]⟩,Ds hg.ok k,hg.tm.sub (zR H k),(zR H k).1.trans hg.now⟩
 ·rintro H o l F w p fs cs n ⟨⟨Q,s,h,rfl,hs,rfl,rfl,hr⟩,hg⟩ hd w' fv ae hb aQ hcv _;(have yG:l≠[]:=λe=>by rw[e]at hd;cases hd);have ho:o=[]:=hg.one.elim (λe=>absurd e yG) id;subst ho;obtain⟨Ke,hll⟩:=hg.pl p fs cs n hd;have h':=h.ah (But.of_below (F:=λ_=>False) hb) (λ_ f=>f.elim);have kQ:=h'.slt k s hk hs;have hpl:=h.pl k hk;rw[hs]at hpl;have hbs:But (λb=>b=s.X.ae.cb) w' (w'.setCell ⟨s.X.ae.cb,17,none⟩ (.int .i64 t)):=But.set w' ⟨s.X.ae.cb,17,none⟩ _ rfl;obtain⟨Q',s',h2,e1,e2,e3,hb2,hf2⟩:=h'.ym (w':=w'.setCell ⟨s.X.ae.cb,17,none⟩ (.int .i64 t)) (H':=H.hear k) (wv:=s.X.ae.wv) (r:=true) (C:={s.C with heard:=t}) hk hs hbs (by rw[b6 _ kQ.aA.blk,aeh];rfl) rfl (λe=>by cases e) w'.heap.size h'.gd.env.size (λe=>by cases e) (λ_=>h.rd k s hk hs hr) ⟨rfl,rfl,rfl,by show upd H.aA k ((H.aA k).map _)=_;rw[hpl,hg.now];rfl⟩;(have hs2:Q'.sl k=some s':=by rw[e1];unfold upd;rw[ax rfl]);(have Jl:s'.X.ae.cb=s.X.ae.cb:=by rw[e2]);(have afR:s'.X.ae.wv=s.X.ae.wv:=by rw[e2]);have h3:=h2.ah (But.of_below (F:=λ_=>False) (aN _ _).drew) (λ_ f=>f.elim);have iN:=JV hg.ok k;have uE:=bX.Jg hd;have WG:=bX.Jf hd;obtain⟨c1,c3,ahq⟩:=bI hcv;have hfz:=gG aQ;(have hfn:∀b,fv.ownBlock=some b->¬Q'.has P.B b:=λb hb' e=>by have h1:=hfz.2 b hb';obtain⟨cur,hc⟩:=aU hfz.1 hb';have hlt:=aG hc;rcases hf2 b e with e|e|e;(·have:=h.lt e;omega);(·omega);·omega);have GM:(w'.setCell ⟨s.X.ae.cb,17,none⟩ (.int .i64 t)).drew.ownsRow 0 95 2 fv fs.length (ct fs):=bM hfz.1 (λb hb'=>by obtain⟨cur,hc⟩:=aU hfz.1 hb';exact hbs.drew.ah b (aG hc) (λe=>by have:=kQ.aA.blk;rw[<-e,hc]at this;simp at this));obtain⟨K,f,uv,g1,g2,g3,g4,g5⟩:=h3.hand iN hk hs2 (by rw[e2]) rX (by simp) p fs cs uE WG Ke fv ae GM ⟨_,_,_,ahq⟩ hfn (by have:=Qk iN p.aq;omega);refine⟨K,f,uv,g1,g2,?_,g4,g5.mono λe w2 ⟨j1,j2⟩=>⟨j1,?_⟩⟩;(·have:=(h2.slt k s' hk hs2).aA.blk;rw[Jl]at this;exact ar this g3);·have hw:=bG.step (F0:=Q.has P.B) (w:=w') hb2.drew (λb e=>(hf2 b e).imp id (λe=>e.elim id (λe=>e.1))) j2;refine hw.mono (λF a ha=>?_);have hok:=ana (cs:=cs) iN hk (λho=>h2.seven iN hk hs2 (by have hq:=h2.pl k hk;rw[hs2]at hq;unfold aj.mW at ho;rw[hq]at ho;cases e:s'.C.bg with|none=>rfl|some _=>simp[gZ,e]at ho)) ⟨_,by have hq:=h2.pl k hk;rw[hs2]at hq;exact hq⟩ uE WG Ke;have vL:=Z6 k (H.hear k) (p,fs,cs);have XQ:=(ahu hg.tm k).sub vL;have yI:(bV k (H.hear k) (p,fs,cs)).1.now=t:=vL.1.trans hg.now;unfold HX at ha;rw[Jl,afR]at ha;have e0:stepT k H (p,fs,cs)=((bV k (H.hear k) (p,fs,cs)).1,(bV k (H.hear k) (p,fs,cs)).2.1.map some,(bV k (H.hear k) (p,fs,cs)).2.2):=rfl;rw[e0];simp only[lf];cases hc:(bV k (H.hear k) (p,fs,cs)).2.2 with|true=>rw[hc]at ha;simp only[gh]at ha⊢;unfold LG;rw[NU];exact⟨ha,hok,XQ,yI⟩|false=>rw[hc]at ha;simp only[kB,iO]at ha⊢;refine⟨?_,hok,XQ,yI,?_,ai ?_⟩;(·(have e:((bV k (H.hear k) (p,fs,cs)).2.1.map some).filterMap id=(bV k (H.hear k) (p,fs,cs)).2.1:=by simp);rw[e];exact ha);(·rw[ui hll];exact alF);·exact ui hll
def aj.cI(H:aj)(k:Nat)(l:List UInt8):aj:={H with aA:=upd H.aA k ((H.aA k).map λc=>{c with wait:=l})}
def iq(k:Nat)(H:aj)(l:List UInt8):aj×List aP:=match j5 (stepT k) none H l with|(s,o,none)=>w9 k s o|(s,o,some r)=>(s.cI k r,o.filterMap id)
theorem CI(h:bZ H)(k:Nat)(l:List UInt8):bZ (H.cI k l):=TR h k (λc=>{c with wait:=l}) (λ_=>⟨rfl,rfl⟩) rfl rfl rfl
theorem amG(h:kJ H)(k:Nat)(l:List UInt8):kJ (H.cI k l):=by
 refine⟨h.now,λj c e=>?_⟩;have e:(if j=k then(H.aA k).map (λc=>{c with wait:=l})else H.aA j)=some c:=e;by_cases bF:j=k;·rw[ax bF]at e;obtain⟨c0,e1,rfl⟩:=iz.1 e;exact h.heard k c0 e1
 ·rw[au bF]at e;exact h.heard j c e
def bb.reads(P:bb)(k:Nat):bb:={P with rd:=some k}
theorem bS.reads(h:bS P w Q H os)(hp:P.rd=none)(k:Nat):bS (P.reads k) w Q H os:=⟨h.gd,h.blk,h.uO,h.pg,h.slt,h.ok,h.kO,h.om,h.map,h.ret,h.pl,h.fI,h.n0,h.o1,h.Cw,λj s hj hs hr=>(by have:=h.rd j s hj hs hr;rw[hp]at this;cases this),h.dd⟩
theorem bS.rests(h:bS (P.reads k) w Q H os)(hr:∀s,Q.sl k=some s->s.X.ae.r=false):bS P w Q H os:=⟨h.gd,h.blk,h.uO,h.pg,h.slt,h.ok,h.kO,h.om,h.map,h.ret,h.pl,h.fI,h.n0,h.o1,h.Cw,(λj s hj hs vK=>by have:=h.rd j s hj hs vK;have e:some k=some j:=this;cases e;rw[hr s hs]at vK;cases vK),h.dd⟩
theorem bS.slot(h:bS P w Q H os)(hp:P.rd=none)(hk:k<8)(hc:H.aA k=some c):∃s,Q.sl k=some s/\c=gZ s/\s.X.ae.r=false:=by have hpl:=h.pl k hk;rw[hc]at hpl;cases hs:Q.sl k with|none=>rw[hs]at hpl;cases hpl|some s=>rw[hs]at hpl;cases hpl;refine⟨s,rfl,rfl,?_⟩;cases hr:s.X.ae.r with|false=>rfl|true=>have:=h.rd k s hk hs hr;rw[hp]at this;cases this
def aaT(P:bb)(H:aj)(os:List aP)(F:Nat->Prop)(w a:World):Prop:=(∃Q2,bS P a Q2 H os/\But F w a/\∀b,Q2.has P.B b->F b\/w.heap.size<=b)/\bZ H/\kJ H
theorem al9(hp:P.rd=none)(rX:P.bf<=8)(hR:nj P H F w)(hO:bZ H)(hT:kJ H)(hk:k<8)(hc:H.aA k=some c)(d:List UInt8)(hpl:o7 (c.wait++d))(hlen:c.wait.length+d.length<=1000000)(db yt gM:Nat)(hd:∀j x,d[j]?=some x->w.cell? ⟨db,yt+j,none⟩=some (.int .u8 (x.toNat:Int))):Calls prog 24 #[.pointer (some ⟨P.B,0,none⟩),.int .i64 (k:Int),.slice (some ⟨db,yt,none⟩) d.length gM] w λe w'=>∃x c' kk,e=.returned (.tuple #[.slice x c' kk,.int .i64 0])/\Taken P (iq k H (c.wait++d)).1 (iq k H (c.wait++d)).2 F w (.slice x c' kk) w'/\bZ (iq k H (c.wait++d)).1/\kJ (iq k H (c.wait++d)).1:=by
 obtain⟨Q,h,rfl,_,_⟩:=hR;obtain⟨s,hs,rfl,hr⟩:=h.slot hp hk hc;have hS:=h.slt k s hk hs;have afQ:(gZ s).wait=s.C.waiting:=rfl;rw[afQ]at hpl hlen⊢;have hwb:∀b,s.X.ae.wv.ownBlock=some b->Q.has P.B b:=λb hb=>ag (ag (ag (ag ⟨k,s,hk,hs,ai (ag (ai ⟨hr,hb⟩))⟩)));refine Yh P.B s.X.ae.cb k _ _ (some ⟨db,yt,none⟩) d.length gM _ _ Q.aH Q.aI w (aaT P (iq k H (s.C.waiting++d)).1 (iq k H (s.C.waiting++d)).2 (Q.has P.B) w) (λv w'=>Taken P (iq k H (s.C.waiting++d)).1 (iq k H (s.C.waiting++d)).2 (Q.has P.B) w v w'/\bZ (iq k H (s.C.waiting++d)).1/\kJ (iq k H (s.C.waiting++d)).1) (ai ⟨rfl,rfl,rfl,rfl⟩) h.blk.blk hk (by rw[h.kO k hk,hs];rfl) (λw1 hb1=>?_) ?_;·have h1:=(h.ah (But.of_below (F:=λ_=>False) hb1) (λ_ f=>f.elim)).reads hp k;obtain⟨F',Jz,hF2,JA⟩:=h1.reading hk hs hr rfl;have hsz1:=hb1.size;refine(al4 P.B k s.X.ae.cb hk s.X.ae.wv s.C.waiting d _ rfl (stepT k) _ _ (aje (P.reads k) H.now k s.X.ae.cb s.X.ae.wv s.C.waiting hk rX) H F' db yt gM w1 ⟨Jz,hO,hT,rfl,hpl,ag rfl⟩ (gm (hS.aA.qb hr) hb1) (λb hb=>⟨JA b hb,h.n0 b (hwb b hb)⟩) (λj x hj=>by rw[hb1.cell (eH (hd j x hj))];exact hd j x hj) (by omega)).mono ?_;rintro e a ⟨rfl,hpost⟩;refine⟨rfl,?_⟩;have hB:∀{a},But (λb=>F' b\/s.X.ae.wv.ownBlock=some b) w1 a->But (Q.has P.B) w a:=λhb=>(But.of_below (F:=Q.has P.B) hb1).trans hb (λb _ e=>e.elim (hF2 b) (hwb b));rcases hpost with⟨s2,o,F2,e1,⟨⟨C,ba,sl,⟨Q2,V,h2,⟨_,g2⟩,_,_,_,rfl⟩,hsl⟩,i1,i2,_⟩,hb2,hf2⟩|⟨s2,o,r,F2,w2,w3,v,e1,⟨⟨Q2,t2,h2,rfl,ht2,Jl,_,_⟩,hg⟩,hb2,hf2,hb3,hov,rfl⟩;(·(have ef:iq k H (s.C.waiting++d)=w9 k s2 o:=by unfold iq;rw[e1]);rw[ef];exact⟨⟨Q2,h2.rests (λt ht=>by rw[g2,hsl]at ht;cases ht),hB hb2,λb e=>(hf2 b (ai e)).imp (hF2 b) (λe=>by omega)⟩,i1,i2⟩);·(have ef:iq k H (s.C.waiting++d)=(s2.cI k r,o.filterMap id):=by unfold iq;rw[e1]);rw[ef];have h3:=h2.ah (But.of_below (F:=λ_=>False) hb3) (λ_ f=>f.elim);have Pr:=gG hov;have XA:=h2.pl k hk;rw[ht2]at XA;have hsz:=hb3.size;rw[<-Jl];obtain⟨ack,s4,h4,j1,j2,_,hb4,ahw⟩:=h3.ym (w':=w3.setCell ⟨t2.X.ae.cb,1,none⟩ v) (H':=s2.cI k r) (wv:=v) (r:=false) (C:={t2.C with waiting:=r}) hk ht2 (But.set w3 ⟨t2.X.ae.cb,1,none⟩ v rfl) (by rw[b6 _ (h3.slt k t2 hk ht2).aA.blk,aem];rfl) rfl (λ_=>Pr.1) w2.heap.size h2.gd.env.size (λ_ b hb=>ag ⟨Pr.2 b hb,λe=>by have:=h2.lt e;have:=Pr.2 b hb;omega⟩) (λe=>by cases e) ⟨rfl,rfl,rfl,by show upd s2.aA k ((s2.aA k).map _)=_;rw[XA];rfl⟩;have Wd:=hB hb2;have WQ:∀b,Q2.has P.B b->Q.has P.B b\/w.heap.size<=b:=λb e=>(hf2 b e).imp (hF2 b) (λe=>by omega);have vM:=Wd.size;refine⟨⟨ack,h4.rests (λt ht=>by rw[j1]at ht;unfold upd at ht;rw[ax rfl]at ht;cases ht;rw[j2]),(Wd.trans (But.of_below (F:=λ_=>False) hb3) (λ_ _ f=>f.elim)).trans hb4 (λb hb e=>(WQ b e).elim id (λe=>by omega)),λb e=>?_⟩,CI hg.ok k r,amG hg.tm k r⟩;rcases ahw b e with e|e|e;(·exact WQ b e);(·exact ag (by omega));·exact ag (by omega)
 ·rintro a ⟨⟨Q2,h2,hb,hf⟩,i1,i2⟩;exact h2.taken.mono λe w' ⟨x,c',kk,j1,j2⟩=>⟨x,c',kk,j1,j2.after hb hf,i1,i2⟩
theorem al8(hp:P.rd=none)(hR:nj P H F w)(hO:bZ H)(hk:k<8)(hc:H.aA k=some c):Calls prog 52 #[.pointer (some ⟨P.B,0,none⟩),.int .i64 (k:Int)] w λe w'=>∃x c' kk,e=.returned (.tuple #[.slice x c' kk,.int .i64 0])/\Taken P (H.cut k) (H.dZ k) F w (.slice x c' kk) w':=by
 obtain⟨Q,h,rfl,_,_⟩:=hR;obtain⟨s,hs,rfl,hr⟩:=h.slot hp hk hc;refine Yh P.B s.X.ae.cb k _ _ none 0 0 _ _ Q.aH Q.aI w (λa=>∃Q2,bS P a Q2 (H.cut k) (H.dZ k)/\But (Q.has P.B) w a/\∀b,Q2.has P.B b->Q.has P.B b\/w.heap.size<=b) (Taken P (H.cut k) (H.dZ k) (Q.has P.B) w) (ag ⟨rfl,rfl,rfl,rfl⟩) h.blk.blk hk (by rw[h.kO k hk,hs];rfl) (λw1 hb1=>?_) ?_;·refine((h.ah (But.of_below (F:=λ_=>False) hb1) (λ_ f=>f.elim)).cut hO hk hs (by simp)).mono ?_;rintro e a ⟨rfl,F',⟨Q2,V,h2,_,_,_,_,rfl⟩,hb,hf⟩;exact⟨rfl,Q2,h2,(But.of_below (F:=Q.has P.B) hb1).trans hb (λ_ _ e=>e),λb e=>(hf b (ai e)).imp id (λe=>bi hb1.size e)⟩
 ·rintro a ⟨Q2,h2,hb,hf⟩;exact h2.taken.mono λe w' ⟨x,c',kk,j1,j2⟩=>⟨x,c',kk,j1,j2.after hb hf⟩
def aj.uQ(H:aj)(k:Nat):aj:={H with aA:=upd H.aA k (some ⟨[],0,none,[]⟩)}
theorem ama(hR:nj P H F w)(hO:bZ H)(hk:k<8)(hc:H.aA k=none):Calls prog 23 #[.pointer (some ⟨P.B,0,none⟩),.int .i64 (k:Int)] w λe w'=>e=.returned (.int .i64 0)/\bG (nj P (H.uQ k)) F w w':=by
 obtain⟨Q,h,rfl,hov,hL⟩:=hR;have hs:Q.sl k=none:=by have hpl:=h.pl k hk;rw[hc]at hpl;cases e:Q.sl k with|none=>rfl|some s=>rw[e]at hpl;cases hpl
 refine(ak6 P.B k Q.aH Q.aI Q.L w h.blk hk (by rw[h.kO k hk,hs];rfl)).mono ?_;rintro e w' ⟨rfl,bu,k1,k2,k3,⟨k4,k5⟩,k6⟩;refine⟨rfl,?_⟩;have hno:∀x∈H.aO,x.2≠k:=λx hx e=>by obtain⟨_,c,p,i1,_⟩:=(hO.aO x).1 hx;rw[e,hc]at i1;cases i1
 refine wU (h.Lg (H':=H.uQ k) w.heap.size h.gd.env.size k hk (some ⟨⟨bu,⟨.slice none 0 0,0,none,0,.slice none 0 0⟩,0,0⟩,⟨[],0,none⟩,vQ 0 0⟩) Q.aI [] Q.D Q.nn (k6.wide (λb _ e=>ai (ai e))) (by rw[ek];exact k1) (ai rfl) (λo ho=>by cases ho) (λt ht=>?_) ?_ ?_ ⟨rfl,rfl,rfl⟩ (λt ht _ b e=>by cases ht;rw[k4]at e;cases e) (λt ht e=>by cases ht;rw[k5]at e;cases e)) ?_;·cases ht;refine⟨⟨k2,λo=>absurd rfl o,λo=>absurd rfl o,λo=>absurd rfl o⟩,λo=>absurd rfl o,λb hb=>ag ?_⟩;rcases hb with hb|⟨o,_⟩;(·have:=k3 b hb;exact⟨this,λe=>absurd (h.lt e) (by omega)⟩);·exact absurd rfl o
 ·obtain⟨es,cl,hm⟩:=mV h.map;exact q7 h.map (k6.ah _ (aG hm) (λe=>by have:=h.blk.blk;rw[<-e,hm]at this;cases this))
 ·(have e:H.aO.map (ie (upd Q.sl k (some ⟨⟨bu,⟨.slice none 0 0,0,none,0,.slice none 0 0⟩,0,0⟩,⟨[],0,none⟩,vQ 0 0⟩)))=H.aO.map (ie Q.sl):=ul λx hx=>by unfold ie upd;rw[au (hno x hx)]);show cX Q.D (H.aO.map _);rw[e];exact h.fI
 ·rintro i1 ⟨g2,g3⟩;exact⟨_,⟨_,i1,rfl,hov,by rw[hL];rfl⟩,g2,λb e=>(g3 b e).imp id (λe=>e.elim id (λe=>e.1))⟩
end br
namespace dr
open Go.RowKit aD av aM br Go.Maps
structure eQ where
 sp:Nat
 bU:Value
 fv:Value
 ae:Value
def iE(c:b9)(d:eQ):ay:=match c.bg with|none=>fg|some p=>{p with fv:=d.fv,ae:=d.ae}
def oF(c:b9)(d:eQ):Value:=match c.bg with|none=>.pointer none|some _=>.pointer (some ⟨d.sp,0,none⟩)
def fp:Option (b9×eQ)->List Value|none=>[.bool false,.string ⟨#[]⟩,.pointer none]++(bw fg).toList++[.int .i64 0]|some (c,d)=>[.bool true,.string (bs c.wait),oF c d]++(bw (iE c d)).toList++[.int .i64 c.heard]
structure bB where
 win:Int
 bf:Int
 now:Int
 aZ:Nat→Option (b9×eQ)
 sv:Value
 rv:Value
 aI:Value
def ol(V:bB):List Value:=[.int .i64 V.win,.int .i64 V.bf,.int .i64 V.now]++((List.range 8).flatMap λi=>fp (V.aZ i))++[V.sv,V.rv,V.aI]
def dh(V:bB):Array Value:=(ol V).toArray
theorem rO(x:Option (b9×eQ)):(fp x).length=19:=by cases x<;>rfl
theorem U5(f:α->List Value)(h:∀a,(f a).length=19):∀l:List α,(l.flatMap f).length=19*l.length|[]=>rfl|a::l=>by rw[nb,bT,h,U5 f h l,dL];omega
theorem U4(f:α->List Value)(h:∀a,(f a).length=19):∀(l:List α)(k j:Nat)(a:α),l[k]?=some a->j<19->(l.flatMap f)[k*19+j]?=(f a)[j]?|[],k,j,a,e,_=>by simp at e|b::l,0,j,a,e,hj=>by simp only[Bk,lT]at e;subst e;rw[nb,Nat.zero_mul,iW,vr (by rw[h];exact hj)]|b::l,k+1,j,a,e,hj=>by rw[Bj]at e;rw[nb,rD (by rw[h];omega),h,show(k+1)*19+j-19=k*19+j by omega];exact U4 f h l k j a e hj
theorem yo(V:bB):(ol V).length=158/\((List.range 8).flatMap λi=>fp (V.aZ i)).length=152:=by have hl:=U5 (λi=>fp (V.aZ i)) (λi=>rO _) (List.range 8);rw[List.length_range]at hl;refine⟨?_,hl⟩;unfold ol;rw[bT,bT,hl];rfl
theorem wZ(V:bB)(hk:k<8)(hj:j<19):(dh V)[3+k*19+j]?=(fp (V.aZ k))[j]?:=by show(ol V).toArray[3+k*19+j]?=_;rw[zB];unfold ol;rw[vr (by rw[bT,(yo V).2];simp;omega),rD (by simp;omega)];simp only[dL,lS];rw[show 3+k*19+j-(0+1+1+1)=k*19+j by omega];exact U4 _ (λi=>rO _) _ k j k (by rw[List.getElem?_range hk]) hj
theorem pj(V:bB)(hj:j<3):(dh V)[155+j]?=[V.sv,V.rv,V.aI][j]?:=by show(ol V).toArray[155+j]?=_;rw[zB];unfold ol;rw[rD (by rw[bT,(yo V).2];simp)];rw[bT,(yo V).2];simp only[dL,lS];rw[show 155+j-(0+1+1+1+152)=j by omega]
theorem Dt(V:bB)(hj:j<3):(dh V)[j]?=[Value.int .i64 V.win,.int .i64 V.bf,.int .i64 V.now][j]?:=by show(ol V).toArray[j]?=_;rw[zB];unfold ol;rw[fS,vr (by simpa using hj)]
theorem T6{V:bB}{a:Array Value}(hs:a.size=158)(h3:∀j,j<3->a[j]?=[Value.int .i64 V.win,.int .i64 V.bf,.int .i64 V.now][j]?)(hc:∀k j,k<8->j<19->a[3+k*19+j]?=(fp (V.aZ k))[j]?)(he:∀j,j<3->a[155+j]?=[V.sv,V.rv,V.aI][j]?):a=dh V:=by
 refine Array.ext_getElem? λi=>?_;by_cases h1:i<3;·rw[h3 i h1,Dt V h1]
 ·by_cases h2:i<155;(·(have e:i=3+(i-3)/19*19+(i-3)%19:=by omega);rw[e,hc _ _ (by omega) (by omega),wZ V (by omega) (by omega)]);·by_cases h4:i<158;(·(have e:i=155+(i-155):=by omega);rw[e,he _ (by omega),pj V (by omega)]);·rw[EQ (by omega),EQ (by show(ol V).toArray.size<=i;rw[rE,(yo V).1];omega)]
theorem am1(t vs:List Value)(j i:Nat)(h:j+vs.length<=t.length):(t.take j++vs++t.drop (j+vs.length))[i]?=if j<=i/\i<j+vs.length then vs[i-j]? else t[i]?:=by
 have hl:(t.take j).length=j:=by rw[dY];omega
 by_cases h1:i<j;·rw[au (by omega),fS,vr (by omega),x6 h1]
 ·by_cases h2:i<j+vs.length;(·rw[ax ⟨by omega,h2⟩,vr (by rw[bT,hl];exact h2),rD (by omega),hl]);·rw[au (by omega),rD (by rw[bT,hl];omega),bT,hl,oX,show j+vs.length+(i-(j+vs.length))=i by omega]
theorem Jb(V:bB)(hk:k<8)(vs:List Value)(x:Option (b9×eQ))(hj:j+vs.length<=19)(hx:fp x=(fp (V.aZ k)).take j++vs++(fp (V.aZ k)).drop (j+vs.length)):patch (dh V) (3+k*19+j) vs=dh {V with aZ:=upd V.aZ k x}:=by
 have hz:(dh V).size=158:=by show(ol V).toArray.size=_;rw[rE,(yo V).1]
 have hg:∀i,(patch (dh V) (3+k*19+j) vs)[i]?=_:=λi=>KV vs (dh V) (3+k*19+j) i (by rw[hz];omega);refine T6 (by rw[Qr,hz]) (λi hi=>?_) (λk' i hk' hi=>?_) (λi hi=>?_);·rw[hg,au (by omega)];exact Dt V hi
 ·rw[hg];show _=(fp (if k'=k then x else V.aZ k'))[i]?;by_cases e:k'=k;(·subst e;rw[ax rfl,hx,am1 _ _ _ _ (by rw[rO];exact hj),wZ V hk hi];by_cases h2:j<=i/\i<j+vs.length;(·rw[ax (by omega),ax h2,show 3+k'*19+i-(3+k'*19+j)=i-j by omega]);·rw[au (by omega),au h2]);·rw[au e,au (by omega)];exact wZ V hk' hi
 ·rw[hg,au (by omega)];exact pj V hi
theorem Jc(V V':bB){i:Nat}{v:Value}(h3:∀j,j<3->(if i=j then some v else[Value.int .i64 V.win,.int .i64 V.bf,.int .i64 V.now][j]?)=[Value.int .i64 V'.win,.int .i64 V'.bf,.int .i64 V'.now][j]?)(hc:V'.aZ=V.aZ)(hi:i<3\/155<=i/\i<158)(he:∀j,j<3->(if i=155+j then some v else[V.sv,V.rv,V.aI][j]?)=[V'.sv,V'.rv,V'.aI][j]?):(dh V).setIfInBounds i v=dh V':=by
 have hz:(dh V).size=158:=by show(ol V).toArray.size=_;rw[rE,(yo V).1]
 have hg:∀j,((dh V).setIfInBounds i v)[j]?=if i=j then some v else(dh V)[j]?:=λj=>by rw[Array.getElem?_setIfInBounds];by_cases e:i=j;(·rw[ax e,ax e,ax (by omega)]);·rw[au e,au e]
 refine T6 (by rw[Array.size_setIfInBounds,hz]) (λj hj=>?_) (λk j hk hj=>?_) (λj hj=>?_);·rw[hg,Dt V hj];exact h3 j hj
 ·rw[hg,au (by omega),wZ V hk hj,hc]
 ·rw[hg,pj V hj];exact he j hj
theorem aeO(V:bB)(n:Int):(dh V).setIfInBounds 2 (.int .i64 n)=dh {V with now:=n}:=Jc V {V with now:=n} (λj hj=>by match j,hj with|0,_=>rfl|1,_=>rfl|2,_=>rfl) rfl (by omega) (λj _=>by rw[au (by omega)])
theorem T7(V:bB)(v:Value):(dh V).setIfInBounds 155 v=dh {V with sv:=v}:=Jc V {V with sv:=v} (λj _=>by rw[au (by omega)]) rfl (by omega) (λj hj=>by match j,hj with|0,_=>rfl|1,_=>rfl|2,_=>rfl)
theorem aeP(V:bB)(v:Value):(dh V).setIfInBounds 156 v=dh {V with rv:=v}:=Jc V {V with rv:=v} (λj _=>by rw[au (by omega)]) rfl (by omega) (λj hj=>by match j,hj with|0,_=>rfl|1,_=>rfl|2,_=>rfl)
theorem Nr(V:bB)(v:Value):(dh V).setIfInBounds 157 v=dh {V with aI:=v}:=Jc V {V with aI:=v} (λj _=>by rw[au (by omega)]) rfl (by omega) (λj hj=>by match j,hj with|0,_=>rfl|1,_=>rfl|2,_=>rfl)
def mY(o:aP):List Value:=[.int .i64 o.conn,.string (bs o.data),.bool o.closed]
def qK(aq:List UInt8)(conn:Int)(bU:Value):Array Value:=#[.string (bs aq),.int .i64 conn,bU,.slice none 0 0,.slice none 0 0,.slice none 0 0,.int .i64 0]
def fw(V:bB)(k:Nat):Nat:=match V.aZ k with|some (_,d)=>d.sp|none=>0
def fN(b:Nat):Value:=.pointer (some ⟨b,0,none⟩)
structure Bt (w:World) (k:Nat) (c:b9) (d:eQ) (p:ay):Prop where
 blk:w.heap[d.sp]?=some (.cells (qK p.aq (k:Int) d.bU) 166)
 aJ:w.ownsRow 0 95 2 d.bU c.aJ.length (ct c.aJ)
 sl:(∃ a b c,d.fv=.slice a b c)∧∃ a b c,d.ae=.slice a b c
def eQ.has(d:eQ)(b:Nat):Prop:=b=d.sp\/d.bU.ownBlock=some b
def bB.has(B:Nat)(V:bB)(b:Nat):Prop:=b=B\/V.sv.ownBlock=some b\/V.rv.ownBlock=some b\/V.aI.ownBlock=some b\/∃k c d p,k<8/\V.aZ k=some (c,d)/\c.bg=some p/\d.has b
structure bP (P:bb) (w:World) (V:bB) (H:aj) (os:List aP):Prop where
 gd:kE P.N0 P.bW P.bc w
 blk:w.heap[P.B]?=some (.cells (dh V) 160)
 now:V.now=H.now
 pl:∀ k,k < 8→H.aA k=(V.aZ k).map Prod.fst
 aO:w.ownsRow 0 152 1 V.sv H.aO.length (H.aO.map fun x=>fN (fw V x.2))
 ret:w.ownsRow 0 229 4 V.rv H.ret.length (H.ret.flatMap bz)
 aa:w.ownsRow 0 200 3 V.aI os.length (os.flatMap mY)
 sat:∀ k c d p,k < 8→V.aZ k=some (c,d)→c.bg=some p→Bt w k c d p
 om:∀ j k c d p c' d' p' b,j < 8→k < 8→j≠k→V.aZ j=some (c,d)→V.aZ k=some (c',d')→c.bg=some p→c'.bg=some p'→d.has b→¬ d'.has b
 n0:∀ b,V.has P.B b→P.N0≤b
def jz(P:bb)(H:aj)(os:List aP):dQ:=λF w=>∃V,bP P w V H os/\F=V.has P.B
theorem Bt.lt{d:eQ}(h:Bt w k c d p)(hb:d.has b):b<w.heap.size:=by
 rcases hb with rfl|hb;·exact aG h.blk
 ·obtain⟨cur,hc⟩:=aU h.aJ hb;exact aG hc
theorem Bt.ah{d:eQ}(h:Bt w k c d p)(hk:∀b,d.has b->w'.heap[b]?=w.heap[b]?):Bt w' k c d p:=⟨(hk _ (ai rfl)).trans h.blk,bM h.aJ (λb hb=>hk b (ag hb)),h.sl⟩
theorem bP.lt{V:bB}(h:bP P w V H os)(hb:V.has P.B b):b<w.heap.size:=by
 rcases hb with rfl|hb|hb|hb|⟨k,c,d,p,hk,h1,h2,hb⟩;·exact aG h.blk
 ·obtain⟨cur,hc⟩:=aU h.aO hb;exact aG hc
 ·obtain⟨cur,hc⟩:=aU h.ret hb;exact aG hc
 ·obtain⟨cur,hc⟩:=aU h.aa hb;exact aG hc
 ·exact(h.sat k c d p hk h1 h2).lt hb
def zH(n:Nat)(v' v:Value):Prop:=∀b,v'.ownBlock=some b->v.ownBlock=some b\/n<=b
theorem bP.turn{V:bB}(h:bP P w V H os)(V':bB)(H':aj)(os':List aP)(k0:Nat)(G:Nat->Prop)(hb:But G w w')(hG:∀b,G b->P.N0<=b)(blk:w'.heap[P.B]?=some (.cells (dh V') 160))(now:V'.now=H'.now)(pl:∀k,k<8->H'.aA k=(V'.aZ k).map Prod.fst)(aO:w'.ownsRow 0 152 1 V'.sv H'.aO.length (H'.aO.map λx=>fN (fw V' x.2)))(ret:w'.ownsRow 0 229 4 V'.rv H'.ret.length (H'.ret.flatMap bz))(aa:w'.ownsRow 0 200 3 V'.aI os'.length (os'.flatMap mY))(new:zH w.heap.size V'.sv V.sv/\zH w.heap.size V'.rv V.rv/\zH w.heap.size V'.aI V.aI)(sat:∀k c d p,k<8->V'.aZ k=some (c,d)->c.bg=some p->(∃c0,V.aZ k=some (c0,d)/\c0.bg=some p/\c0.aJ=c.aJ/\∀b,d.has b->¬G b)\/(k=k0/\Bt w' k c d p/\∀b,d.has b->w.heap.size<=b\/∃c0 d0 p0,V.aZ k=some (c0,d0)/\c0.bg=some p0/\d0.has b)):bP P w' V' H' os'/\∀b,V'.has P.B b->V.has P.B b\/w.heap.size<=b:=by
 have hs0:=h.gd.env.size;have old:∀k c d p,k<8->V'.aZ k=some (c,d)->c.bg=some p->∀b,d.has b->w.heap.size<=b/\k=k0\/∃c0 d0 p0,V.aZ k=some (c0,d0)/\c0.bg=some p0/\d0.has b:=λk c d p hk h1 h2 b hb'=>by rcases sat k c d p hk h1 h2 with⟨c0,e1,e2,_⟩|⟨e1,_,e3⟩;(·exact ag ⟨c0,d,p,e1,e2,hb'⟩);·exact(e3 b hb').imp (λe=>⟨e,e1⟩) id
 have hnew:∀b,V'.has P.B b->V.has P.B b\/w.heap.size<=b:=λb hb'=>by rcases hb' with rfl|e|e|e|⟨k,c,d,p,hk,h1,h2,e⟩;(·exact ai (ai rfl));(·exact(new.1 b e).imp (λe=>ag (ai e)) id);(·exact(new.2.1 b e).imp (λe=>ag (ag (ai e))) id);(·exact(new.2.2 b e).imp (λe=>ag (ag (ag (ai e)))) id);·rcases old k c d p hk h1 h2 b e with e|⟨c0,d0,p0,e1,e2,e3⟩;(·exact ag e.1);·exact ai (ag (ag (ag (ag ⟨k,c0,d0,p0,hk,e1,e2,e3⟩))))
 refine⟨⟨h.gd.below (hb.below hG hs0),blk,now,pl,aO,ret,aa,λk c d p hk h1 h2=>?_,λj k c d p c' d' p' b hj hk hjk h1 h2 h3 h4 h5 h6=>?_,λb e=>(hnew b e).elim (h.n0 b) (λe=>bi hs0 e)⟩,hnew⟩;·rcases sat k c d p hk h1 h2 with⟨c0,e1,e2,e3,e4⟩|⟨_,e,_⟩;(·have hS:=h.sat k c0 d p hk e1 e2;have:=hS.ah (λb hx=>hb.ah b (hS.lt hx) (e4 b hx));exact⟨this.blk,by rw[<-e3];exact this.aJ,this.sl⟩);·exact e
 ·rcases old j c d p hj h1 h3 b h5 with⟨e1,e2⟩|⟨c0,d0,p0,e1,e2,e3⟩;(·rcases old k c' d' p' hk h2 h4 b h6 with⟨f1,f2⟩|⟨c1,d1,p1,f1,f2,f3⟩;(·exact hjk (e2.trans f2.symm));·have:=(h.sat k c1 d1 p1 hk f1 f2).lt f3;omega);·rcases old k c' d' p' hk h2 h4 b h6 with⟨f1,f2⟩|⟨c1,d1,p1,f1,f2,f3⟩;(·have:=(h.sat j c0 d0 p0 hj e1 e2).lt e3;omega);·exact h.om j k c0 d0 p0 c1 d1 p1 b hj hk hjk e1 f1 e2 f2 e3 f3
theorem bP.ah{V:bB}{G:Nat->Prop}(h:bP P w V H os)(hb:But G w w')(hG:∀x,G x->¬V.has P.B x/\P.N0<=x):bP P w' V H os:=by have hk:∀b,V.has P.B b->w'.heap[b]?=w.heap[b]?:=λb hx=>hb.ah b (h.lt hx) (λg=>(hG b g).1 hx);exact(h.turn V H os 0 G hb (λb g=>(hG b g).2) ((hk _ (ai rfl)).trans h.blk) h.now h.pl (bM h.aO (λb e=>hk b (ag (ai e)))) (bM h.ret (λb e=>hk b (ag (ag (ai e))))) (bM h.aa (λb e=>hk b (ag (ag (ag (ai e)))))) ⟨λ_ e=>ai e,λ_ e=>ai e,λ_ e=>ai e⟩ (λk c d p h8 h1 h2=>ai ⟨c,h1,h2,rfl,λb e g=>(hG b g).1 (ag (ag (ag (ag ⟨k,c,d,p,h8,h1,h2,e⟩))))⟩)).1
theorem Dv(P:bb)(H:aj)(os:List aP):Fit P.N0 (jz P H os):=⟨λF G a b ⟨V,h,e⟩ hb hG=>⟨V,h.ah hb (λx hx=>by subst e;exact hG x hx),e⟩,λF a ⟨V,h,e⟩ b hb=>by subst e;exact h.lt hb⟩
theorem bP.down{V:bB}(h:bP P w V H os)(hb:Below w.heap.size w w'):bP P w' V H os:=h.ah (But.of_below (F:=λ_=>False) hb) (λ_ f=>f.elim)
theorem bP.kind{V:bB}(h:bP P w V H os){c:Array Value}{t:TypeId}(hb:w.heap[b]?=some (.cells c t)):(t≠160->b≠P.B)/\(t≠152->V.sv.ownBlock≠some b)/\(t≠229->V.rv.ownBlock≠some b)/\(t≠200->V.aI.ownBlock≠some b)/\∀k c d p,k<8->V.aZ k=some (c,d)->c.bg=some p->(t≠166->b≠d.sp)/\(t≠95->d.bU.ownBlock≠some b):=by
 have key:∀{c':Array Value}{t':TypeId},w.heap[b]?=some (.cells c' t')->t=t':=λh1=>by rw[hb]at h1;simp at h1;exact h1.2
 refine⟨λht e=>ht (key (e▸h.blk)),λht e=>?_,λht e=>?_,λht e=>?_,λk c d p hk h1 h2=>⟨λht e=>ht (key (e▸(h.sat k c d p hk h1 h2).blk)),λht e=>?_⟩⟩;·obtain⟨cur,hc⟩:=aU h.aO e;exact ht (key hc)
 ·obtain⟨cur,hc⟩:=aU h.ret e;exact ht (key hc)
 ·obtain⟨cur,hc⟩:=aU h.aa e;exact ht (key hc)
 ·obtain⟨cur,hc⟩:=aU (h.sat k c d p hk h1 h2).aJ e;exact ht (key hc)
def bQ(P:bb)(V:bB)(w:World)(V':bB)(H':aj)(os':List aP)(w':World):Prop:=bP P w' V' H' os'/\But (V.has P.B) w w'/\∀b,V'.has P.B b->V.has P.B b\/w.heap.size<=b
theorem bQ.refl{V:bB}(h:bP P w V H os):bQ P V w V H os w:=⟨h,But.refl _ _,λ_ e=>ai e⟩
theorem bQ.trans{b:World}{V V1 wS:bB}{cg:aj}{o2:List aP}(h:bQ P V w V1 H1 o1 a)(g:bQ P V1 a wS cg o2 b):bQ P V w wS cg o2 b:=⟨g.1,h.2.1.trans g.2.1 (λx hx e=>(h.2.2 x e).elim id (λe=>by omega)),λx e=>(g.2.2 x e).elim (h.2.2 x) (λe=>ag (bi h.2.1.size e))⟩
theorem bQ.down{b:World}{V V1:bB}(h:bQ P V w V1 H1 o1 a)(hb:Below a.heap.size a b):bQ P V w V1 H1 o1 b:=h.trans ⟨h.1.down hb,But.of_below hb,λ_ e=>ai e⟩
theorem bQ.after{b:World}{V V1:bB}(h:bP P w V H os)(hb:Below w.heap.size w a)(g:bQ P V a V1 H1 o1 b):bQ P V w V1 H1 o1 b:=((bQ.refl h).down hb).trans g
end dr
namespace dr
open Go.RowKit aD av aM br Go.Maps b7 bJ
theorem Yd:(prog.info? 200).map (λi=>(i.zero,i.size,i.bytes))=some (some (.agg #[.int .i64 0,.string ByteArray.empty,.bool false]),3,32):=by kernel_rfl
theorem aaC(os:List aP)(o:aP):(os++[o]).flatMap mY=os.flatMap mY++mY o:=by simp
theorem bP.Dm{V:bB}(h:bP P w V H os):w.cell? ⟨P.B,157,none⟩=some V.aI:=ar h.blk (pj V (j:=2) (by decide))
theorem bP.wrote{w1:World}{V:bB}{o:aP}{bC:Value}(h:bP P w V H os)(hg:w.grownBy w1 V.aI.ownBlock)(hr:w1.ownsRow 0 200 3 bC (os.length+1) (os.flatMap mY++mY o))(hl:zH w.heap.size bC V.aI):bQ P V w {V with aI:=bC} H (os++[o]) (w1.setCell ⟨P.B,157,none⟩ bC):=by have hb0:But (λb=>V.aI.ownBlock=some b) w w1:=But.kV hg (λb e=>e);have hb1:But (λb=>b=P.B\/V.aI.ownBlock=some b) w (w1.setCell ⟨P.B,157,none⟩ bC):=(hb0.wide (λ_ _ e=>ag e)).trans (But.set (F:=λb=>b=P.B) w1 ⟨P.B,157,none⟩ bC rfl) (λ_ _ e=>ai e);have aW:w1.heap[P.B]?=some (.cells (dh V) 160):=hb0.blk ((h.kind h.blk).2.2.2.1 (by decide)) h.blk;have cB:∀{b:Nat}{c:Array Value}{t:TypeId},w.heap[b]?=some (.cells c t)->t≠160->t≠200->(w1.setCell ⟨P.B,157,none⟩ bC).heap[b]?=w.heap[b]?:=λhc h1 h2=>hb1.ah _ (aG hc) (λe=>e.elim ((h.kind hc).1 h1) ((h.kind hc).2.2.2.1 h2));obtain⟨g1,g2⟩:=h.turn {V with aI:=bC} H (os++[o]) 0 _ hb1 (λb e=>h.n0 b (e.elim ai (λe=>ag (ag (ag (ai e)))))) (by rw[b6 _ aW,Nr]) h.now h.pl (bM h.aO (λb e=>by obtain⟨c,hc⟩:=aU h.aO e;exact cB hc (by decide) (by decide))) (bM h.ret (λb e=>by obtain⟨c,hc⟩:=aU h.ret e;exact cB hc (by decide) (by decide))) (by rw[aaC,bT,uk];exact bM hr (λb e=>ck _ _ _ _ (λe2=>by obtain⟨c,hc⟩:=aU hr e;have e2:b=P.B:=e2;rw[e2,aW]at hc;simp at hc))) ⟨λ_ e=>ai e,λ_ e=>ai e,hl⟩ (λk c d p hk h1 h2=>ai ⟨c,h1,h2,rfl,λb e=>λe'=>by have hS:=h.sat k c d p hk h1 h2;rcases e with rfl|e;(·exact e'.elim ((h.kind hS.blk).1 (by decide)) ((h.kind hS.blk).2.2.2.1 (by decide)));·obtain⟨bX,hc⟩:=aU hS.aJ e;exact e'.elim ((h.kind hc).1 (by decide)) ((h.kind hc).2.2.2.1 (by decide))⟩);exact⟨g1,hb1.wide (λb _ e=>e.elim ai (λe=>ag (ag (ag (ai e))))),g2⟩
theorem Z9{P:Program}{ops:Array Oper}{o:Oper}{a:Act}{K:Act->World->Prop}{Q:Exit->Act->World->Prop}{E:Prop}(f:Nat)(xs:Array Operand)(ts:Array TypeId)(vs:Array Value)(hg:o.guard=none)(hop:o.op=Op.call {callee:=.value (.func f),args:=xs,argTypes:=ts})(hx:xs.map a.eval=vs)(hc:∀(args:Array Value)(w:World),(callFunc f args).run P w=.ok (.enter f args) w)(h:Calls P f vs w λe w'=>∃r,e=.returned r/\K (a.put o.dst r) w'):if Region.wanted o (yielded ops a.tmps)=true then Oper.wp P o a w K Q else E:=by
 have hw:Region.wanted o (yielded ops a.tmps)=true:=by simp[Region.wanted,hg]
 rw[ax hw];have hr:(execOp a.eval o).run P w=.ok (.enter f vs) w:=by simp only[execOp,hop,resolve,hx];simp[go_sem,invoke,hc]
 unfold Oper.wp;rw[hr,Oper.upon_enter];exact h.mono λe w' ⟨r,hr,hk⟩=>by rw[hr];exact hk
theorem adE(args:Array Value)(w:World):(callFunc 70 args).run prog w=.ok (.enter 70 args) w:=by simp[callFunc,go_sem,func70];kernel_rfl
def xy(w:World)(p:ay)(d:List UInt8):Prop:=∀w',Below w.heap.size w w'->Calls prog 70 #[.agg (bw p)] w' λe w''=>e=.returned (.string (bs d))/\Below w'.heap.size w' w''
theorem bP.write{V:bB}(h:bP P w V H os)(n:Int)(p:ay)(d:List UInt8)(hE:xy w p d)(aQ:∃a b c,p.fv=.slice a b c)(hcv:∃a b c,p.ae=.slice a b c)(hL:os.length<1000000000000):Calls prog 181 #[.pointer (some ⟨P.B,0,none⟩),.int .i64 n,.agg (bw p)] w λe w'=>e=.returned (.tuple #[])/\∃bC,bQ P V w {V with aI:=bC} H (os++[⟨n,d,false⟩]) w':=by
 have HH:=ac h;obtain⟨i0,hi0,hz0,hz1,hz2⟩:=fK Yd;obtain⟨f1,f2,f3,aQ⟩:=aQ;obtain⟨c1,c2,c3,hcv⟩:=hcv;obtain⟨q,cap,hq⟩:=bI h.aa;have uG:=aG h.blk;have Dm:w.cell? ⟨P.B,157,none⟩=some (.slice q os.length cap):=by rw[<-hq];exact h.Dm
 have f157:w.frozen? ⟨P.B,157,none⟩=false:=cM h.blk;have km:=ac h.aa;have bH:=ac hq;have bO:=ac λo=>(aN w.heap.size w).alloc (aC _) o;unfold xy at hE;simp only[bw,aQ,hcv]at hE⊢;have cu:=ac hE;clear hE h hq;go_enter func181,ntmps181;go_wp2_with fail;have hA:=λo=>gA Dm o;go_region_law(first|(refine Z9 70 _ _ #[.agg #[.int .i64 p.kind,.bool p.aR,.bool p.will,.int .i64 p.ah,.string (bs p.aq),.bool p.aS,.int .i64 p.code,.bool p.dup,.int .i64 p.qos,.bool p.aF,.string (bs p.ak),.string (bs p.az),.int .i64 p.id,.slice f1 f2 f3,.slice c1 c2 c3]] rfl rfl ?s1 adE ?_;(case s1=>simp[Act.eval]);refine(cu.aa _ ((bO.aa _).drew)).mono ?_;rintro e w1 ⟨rfl,aW⟩;refine⟨_,rfl,?_⟩;have hBw:Below w.heap.size w w1:=(bO.aa _).drew.trans (aW.mono (by simp));have eJ:=ac hBw;(have Hg:w1.cell? ⟨P.B,157,none⟩=some (.slice q os.length cap):=by rw[hBw.cell uG];exact Dm);(have Va:w1.frozen? ⟨P.B,157,none⟩=false:=by rw[hBw.frozen uG];exact f157);have Ci:P.B<w1.heap.size:=cw uG hBw.size;have gz:=ac (lC w1 #[.int .i64 n,.string (bs d),.bool false] 200);have dV:=λo=>gA Hg o;have abS:=ac (show w1.ownsRow 0 200 3 (.slice q os.length cap) os.length (os.flatMap mY)by rw[<-bH.aa];exact gm km.aa hBw);clear hBw aW)|(refine CJ rfl (.tmp 10) (.tmp 15) 158 rfl 0 200 i0 (.agg #[.int .i64 0,.string ByteArray.empty,.bool false]) 3 32 underlying158 hi0 hz0 hz1 hz2 rfl (by decide) (.slice q os.length cap) os.length (os.flatMap mY) ?s1 ?s2 ⟨w1.heap.size,0,none⟩ 1 1 [.int .i64 n,.string (bs d),.bool false] ?s3 rfl ?s4 ?iH ?jl ?fX ?nM ?_;(case s1=>simp[Act.eval]);(case s3=>simp[Act.eval]);(case s2=>exact abS.aa.alloc _);(case s4=>exact gz.aa);(case iH=>intro u hu;simp at hu;rcases hu with rfl|rfl|rfl<;>rfl);(case jl=>unfold maxLen;omega);(case fX=>omega);(case nM=>exact cm _);intro v' w8 hown' hgrow hloc;obtain⟨q',cap',rfl⟩:=bI hown';have gD:(w1.alloc (.cells #[.int .i64 n,.string (bs d),.bool false] 200)).grownBy w8 (Value.slice q os.length cap).ownBlock:=⟨hgrow.os,hgrow.tape,hgrow.output,hgrow.size,hgrow.block⟩;(have hne:(Value.slice q os.length cap).ownBlock≠some P.B:=by rw[<-bH.aa];exact(HH.aa.kind HH.aa.blk).2.2.2.1 (by decide));have hbk:w8.heap[P.B]?=w1.heap[P.B]?:=(gD.block P.B (by simp;omega) (λe=>hne e.symm)).trans (cU _ _ _ Ci);(have c8:w8.cell? ⟨P.B,157,none⟩=some (.slice q os.length cap):=by rw[eo (w:=w1) hbk];exact Hg);(have f8:w8.frozen? ⟨P.B,157,none⟩=false:=by rw[qB (w:=w1) hbk];exact Va);have HG:=ac gD;have HOW:=ac hown';have HLOC:=ac hloc;clear hgrow gD hown' hloc hne hbk Hg Va gz dV));all_goals go_wp2;go_end0;have hsz1:=eJ.aa.size;have hg:w1.grownBy w8 V.aI.ownBlock:=⟨HG.aa.os,HG.aa.tape,HG.aa.output,bi (by simp) HG.aa.size,λk hk hne=>(HG.aa.block k (by simp;omega) (by rw[<-bH.aa];exact hne)).trans (cU _ _ _ hk)⟩;refine⟨rfl,_,bQ.after HH.aa eJ.aa ((HH.aa.down eJ.aa).wrote hg HOW.aa (λb hb=>?_))⟩;rcases HLOC.aa with e|e;(·exact ai (by rw[bH.aa,<-e];exact hb));·rw[e]at hb;cases hb;exact ag (by simp)
end dr
namespace dr
open Go.RowKit aD av aM rd ew b7 br
theorem afb{x:UInt8}{body:List UInt8}{q:ay×List (List UInt8×Int)×List Int}(h1:jd (x.toNat/16) (x.toNat%16)=some p0)(hl:body.length<=300)(hb:cC p0 body=some q):cG (x::(r8 body.length++body))=.inr (q,(x::(r8 body.length++body)).length):=by rw[KF];unfold cG;simp only[h1,KE hl];rw[au (by rw[bT];omega),List.drop_left,nZ,hb];simp only[dL,bT,Sum.inr.injEq,Prod.mk.injEq,true_and];omega
theorem BO{fs:List (List UInt8×Int)}{q:ay}(hr:uS p)(hw:weight p fs cs<=300)(h1:jd ((l6 p).toNat/16) ((l6 p).toNat%16)=some p0)(hl:(eT p fs cs).length<=300)(hb:cC p0 (eT p fs cs)=some (q,fs,cs))(hs:vX p q):dF p fs cs=eG p fs cs:=by have hd:cG (eG p fs cs)=.inr ((q,fs,cs),(eG p fs cs).length):=afb h1 hl hb;unfold dF;rw[afN _ _ _ _ _ (λh=>agt h) (λh=>adW h)];unfold CC;rw[ax ⟨hw,hr⟩,hd];simp only[hs,and_self,gh,Bo]
theorem YV(h:n<65536)(r:List UInt8):cf (some (gb (n:Int)++r))=(n,some r):=by
 rw[CL (by omega)];show(256*(bk ((n:Int)/256)).toNat+(bk (n:Int)).toNat,some r)=_;have h1:(bk ((n:Int)/256)).toNat=n/256:=by have:=FY (n:=n/256) (by omega);rw[<-this];rfl
 have h2:(bk (n:Int)).toNat=n%256:=by have:=FY (n:=n%256) (by omega);rw[<-this,<-M4];rfl
 rw[h1,h2];congr 1;omega
theorem anX{l:List UInt8}(h:l.length<65536)(r:List UInt8):bE (some (iR l++r))=(l,some r):=by unfold bE iR;rw[fS,YV h];show(if l.length<=(l++r).length then((l++r).take l.length,some ((l++r).drop l.length))else([],none))=_;rw[ax (by rw[bT];omega),List.take_left,List.drop_left]
theorem QB(K:Int)(hK:p.kind=K)(h:1<=K/\K<=14)(hq:p.qos=0)(hk:p.ah=0)(hi:0<=p.id)(hc:p.code=0):uS p:=⟨by omega,by omega,by omega,by omega,by omega,hi,by omega⟩
structure uo (m:bh):Prop where
 top:fZ m.ak=true
 len:m.ak.length+m.az.length≤298
theorem afI(h:uo m)(hq:m.qos=0):dF (iG m 0) [] []=eG (iG m 0) [] []:=by
 have hl:=h.len;have eb:eT (iG m 0) [] []=iR m.ak++m.az:=by unfold eT iG;simp[hq]
 have ht:cx (some (iR m.ak++m.az))=(m.ak,some m.az):=by unfold cx;rw[anX (by omega)];simp only[h.top];rfl
 have key:∀p0:ay,p0.kind=3->p0.qos=0->cC p0 (iR m.ak++m.az)=some ({p0 with ak:=m.ak,az:=m.az},[],[]):=λp0 hk h0=>by(have e:fc p0 (some (iR m.ak++m.az))=({p0 with ak:=m.ak,az:=m.az},[],[],some []):=by unfold fc;rw[au (by omega),au (by omega),ax hk];unfold iu;rw[au (by omega),ht];(have:sf (some m.az)=(m.az,some []):=by unfold sf gB aX;simp);rw[this]);unfold cC;rw[e];rfl
 have hb:(eT (iG m 0) [] []).length<=300:=by rw[eb];simp only[iR,gb,bT,dL,lS];omega
 have hr:uS (iG m 0):=QB 3 rfl (by decide) hq rfl (Int.le_refl 0) rfl;have hw:weight (iG m 0) [] []<=300:=by show 0+m.ak.length+m.az.length+0+0<=300;omega
 cases hR:m.aF with|false=>exact BO (p0:={bA with kind:=3}) (q:={bA with kind:=3,ak:=m.ak,az:=m.az}) hr hw (by simp only[l6,vF,iG,hR,hq];rfl) hb (by rw[eb];exact key _ rfl rfl) ⟨rfl,rfl,rfl,rfl,rfl,rfl,rfl,rfl,hq,hR,rfl,rfl,rfl⟩|true=>exact BO (p0:={bA with kind:=3,aF:=true}) (q:={bA with kind:=3,aF:=true,ak:=m.ak,az:=m.az}) hr hw (by simp only[l6,vF,iG,hR,hq];rfl) hb (by rw[eb];exact key _ rfl rfl) ⟨rfl,rfl,rfl,rfl,rfl,rfl,rfl,rfl,hq,hR,rfl,rfl,rfl⟩
theorem afG(c:Int)(h:c=0\/c=2):dF (gu false c) [] []=eG (gu false c) [] []:=by
 rcases h with rfl|rfl;·exact BO (p0:={bA with kind:=2}) (by decide) (by decide) rfl (by decide) rfl ⟨rfl,rfl,rfl,rfl,rfl,rfl,rfl,rfl,rfl,rfl,rfl,rfl,rfl⟩
 ·exact BO (p0:={bA with kind:=2}) (by decide) (by decide) rfl (by decide) rfl ⟨rfl,rfl,rfl,rfl,rfl,rfl,rfl,rfl,rfl,rfl,rfl,rfl,rfl⟩
theorem afH:dF rb [] []=eG rb [] []:=BO (p0:={bA with kind:=13}) (by decide) (by decide) rfl (by decide) rfl ⟨rfl,rfl,rfl,rfl,rfl,rfl,rfl,rfl,rfl,rfl,rfl,rfl,rfl⟩
theorem X4(h:n<65536)(h0:0<n)(r:List UInt8):bL (some (gb (n:Int)++r))=(n,some r):=by unfold bL;rw[YV h];simp only[cZ h0];rfl
theorem afK{id:Int}(h:1<=id/\id<=65535):dF (jS id) [] []=eG (jS id) [] []:=by
 obtain⟨n,rfl⟩:∃n:Nat,id=(n:Int):=⟨id.toNat,by omega⟩;have eb:eT (jS (n:Int)) [] []=gb (n:Int)++[]:=by unfold eT jS;simp[gb]
 refine BO (p0:={bA with kind:=11}) (q:={bA with kind:=11,id:=(n:Int)}) (QB 11 rfl (by decide) rfl rfl (by show(0:Int)<=n;omega) rfl) (by show 0+0+0+0+0<=300;omega) (by simp only[l6,vF,jS];kernel_rfl) (by rw[eb];simp[gb]) ?_ ⟨rfl,rfl,rfl,rfl,rfl,rfl,rfl,rfl,rfl,rfl,rfl,rfl,rfl⟩;rw[eb];have e:fc {bA with kind:=11} (some (gb (n:Int)++[]))=({bA with kind:=11,id:=(n:Int)},[],[],some []):=by unfold fc;rw[au (by decide),au (by decide),au (by decide),ax (by decide),X4 (by omega) (by omega)]
 unfold cC;rw[e];rfl
def Dr(c:Int):Prop:=0<=c/\c<=2\/c=128
theorem TJ:∀(cs acc:List Int),(∀c∈cs,Dr c)->kN (cs.map bk) acc=(acc++cs,some [])|[],acc,_=>by simp[kN]|c::r,acc,h=>by have hc:=h c (by simp);(have e:((bk c).toNat:Int)=c/\codeOk (bk c).toNat=true:=by unfold Dr at hc;(have h4:c=0\/c=1\/c=2\/c=128:=by omega);rcases h4 with rfl|rfl|rfl|rfl<;>exact⟨rfl,rfl⟩);rw[oZ,kN,ax e.2,e.1,TJ r _ (λx hx=>h x (by simp[hx])),fS];rfl
theorem afJ{id:Int}(v:Value)(h:1<=id/\id<=65535)(hc:∀c∈cs,Dr c)(hl:cs.length<=298)(h0:cs≠[]):dF (jR id v) [] cs=eG (jR id v) [] cs:=by
 obtain⟨n,rfl⟩:∃n:Nat,id=(n:Int):=⟨id.toNat,by omega⟩;have eb:eT (jR (n:Int) v) [] cs=gb (n:Int)++cs.map bk:=by unfold eT jR;simp
 refine BO (p0:={bA with kind:=9}) (q:={bA with kind:=9,id:=(n:Int)}) (QB 9 rfl (by decide) rfl rfl (by show(0:Int)<=n;omega) rfl) (by show 0+0+0+cs.length+0<=300;omega) (by simp only[l6,vF,jR];kernel_rfl) (by rw[eb];simp[gb];omega) ?_ ⟨rfl,rfl,rfl,rfl,rfl,rfl,rfl,rfl,rfl,rfl,rfl,rfl,rfl⟩;rw[eb];have hn:0<aX (some (cs.map bk)):=by show 0<(cs.map bk).length;rw[dU];exact List.length_pos_iff.2 h0
 have Cb:lZ (some (cs.map bk))=(cs,some []):=by unfold lZ;rw[cZ hn];show kN (cs.map bk) []=_;rw[TJ cs [] hc,lf]
 have e:fc {bA with kind:=9} (some (gb (n:Int)++cs.map bk))=({bA with kind:=9,id:=(n:Int)},[],cs,some []):=by unfold fc;rw[au (by decide),au (by decide),au (by decide),au (by decide),au (by decide),ax (by decide),X4 (by omega) (by omega)];simp only[Cb]
 unfold cC;rw[e];rfl
end dr
namespace dr
open Go.RowKit aD av aM br Go.Maps b7 bJ cT
theorem FZ{fs:List (List UInt8×Int)}(hk:qz p.ah)(hi:qz p.id)(hl:p.aq.length<=1000000/\p.ak.length<=1000000/\p.az.length<=1000000)(hf:kD w p.fv fs)(hc:mD w p.ae cs)(hB:(eT p fs cs).length<=1000000):xy w p (eG p fs cs):=λw' hb=>yj p fs cs w' hk hi (by omega) (by omega) (by omega) (hf.below hb) (hc.below hb) (by omega)
theorem Au:qz 0:=⟨by decide,by decide⟩
theorem BQ(w:World):kD w (.slice none 0 0) []:=⟨none,0,rfl,by simp,λj f h=>by simp at h⟩
theorem Ek(w:World):mD w (.slice none 0 0) []:=⟨none,0,rfl,by simp,λj f h=>by simp at h⟩
theorem adm(h:uo m)(hq:m.qos=0):xy w (iG m 0) (dF (iG m 0) [] []):=by
 rw[afI h hq];have:=h.len;refine FZ Au Au ⟨by simp[iG,fg],by simp only[iG];omega,by simp only[iG];omega⟩ (BQ w) (Ek w) ?_;have e:eT (iG m 0) [] []=iR m.ak++m.az:=by unfold eT iG;simp[hq]
 rw[e];simp only[iR,gb,bT,dL,lS];omega
theorem bP.tell{V:bB}(h:bP P w V H os){d:eQ}(hk:k<8)(hc:V.aZ k=some (c,d))(hh:c.bg=some p)(m:bh)(hm:uo m)(hq:m.qos=0)(hL:os.length<1000000000000):Calls prog 186 #[.pointer (some ⟨P.B,0,none⟩),.pointer (some ⟨d.sp,0,none⟩),ft m] w λe w'=>e=.returned (.tuple #[])/\∃bC,bQ P V w {V with aI:=bC} H (os++[⟨(k:Int),dF (iG m 0) [] [],false⟩]) w':=by
 have hS:=h.sat k c d p hk hc hh;have c1:w.cell? ⟨d.sp,1,none⟩=some (.int .i64 (k:Int)):=ar hS.blk rfl;have hlt:=aG hS.blk;have oK:=ac λw' (hb:Below w.heap.size w w')=>(h.down hb).write (k:Int) (iG m 0) _ (adm (w:=w') hm hq) ⟨_,_,_,rfl⟩ ⟨_,_,_,rfl⟩ hL;have HH:=ac h;have bO:=ac λo=>(aN w.heap.size w).alloc (aC _) o;have h0:(0:Int)<=k:=by omega
 clear h hS hm;generalize dF (iG m 0) [] []=D at oK⊢;simp only[bw,iG,fg,hq]at oK;simp only[ft,hq];go_enter func186,ntmps186;go_wp2_with fail;have hc1:=λo=>gA c1 o;have dK:=cj w (.cells #[.string (bs m.ak),.string (bs m.az),.int .i64 0,.bool m.aF] 229);have m0:=ar dK (i:=0) rfl;have m1:=ar dK (i:=1) rfl;have m3:=ar dK (i:=3) rfl;clear dK;go_region_held3(λw'=>w'.cell? ⟨d.sp,1,none⟩=some (.int .i64 (k:Int))/\w'.cell? ⟨w.heap.size,0,none⟩=some (.string (bs m.ak))/\w'.cell? ⟨w.heap.size,1,none⟩=some (.string (bs m.az))/\w'.cell? ⟨w.heap.size,3,none⟩=some (.bool m.aF)) (first|exact⟨hc1 _,m0,m1,m3⟩|exact⟨kA,z0,z2,z3⟩) (first|(go_at_call 181;refine(oK.aa _ (bO.aa _).drew).mono ?_;rintro e w1 ⟨rfl,bC,hw⟩;have dK:∀{i:Nat}{v:Value},(w.alloc (.cells #[.string (bs m.ak),.string (bs m.az),.int .i64 0,.bool m.aF] 229)).drew.cell? ⟨w.heap.size,i,none⟩=some v->w1.cell? ⟨w.heap.size,i,none⟩=some v:=λhv=>hw.2.1.cell (λe=>ko _ (HH.aa.lt e)) hv;have kA:w1.cell? ⟨d.sp,1,none⟩=some (.int .i64 (k:Int)):=ar (hw.1.sat k c d p hk hc hh).blk rfl;have z0:w1.cell? ⟨w.heap.size,0,none⟩=some (.string (bs m.ak)):=dK m0;have z2:w1.cell? ⟨w.heap.size,1,none⟩=some (.string (bs m.az)):=dK m1;have z3:w1.cell? ⟨w.heap.size,3,none⟩=some (.bool m.aF):=dK m3;have HW:=ac (bQ.after HH.aa (bO.aa _).drew hw);clear hw dK));go_wp2;refine dJ (v:=.tuple #[]) (by simp[results,results186]) rfl ?_;exact⟨rfl,_,HW.aa⟩
def wW(t:List UInt8):List (List UInt8×Int)->Int->Int|[],b=>b|f::r,b=>wW t r (if iQ f.1 t&&decide (b<f.2)then f.2 else b)
theorem acU(t:List UInt8)(l:List (List UInt8×Int)){f:List UInt8×Int}(h:l[k]?=some f)(b:Int):wW t (l.take (k+1)) b=if iQ f.1 t&&decide (wW t (l.take k) b<f.2)then f.2 else wW t (l.take k) b:=by induction l generalizing k b with|nil=>simp at h|cons a r ih=>cases k with|zero=>simp only[Bk,lT]at h;subst h;rfl|succ k=>rw[Bj]at h;exact ih h _
theorem MM(t:List UInt8):∀(l:List (List UInt8×Int))(b q:Int)(a:Bool),(∀f∈l,0<=f.2)->(a=decide (0<=b))->(mH t l q a).2=decide (0<=wW t l b)|[],b,q,a,_,h=>h|f::r,b,q,a,hf,h=>by have h0:=hf f (by simp);unfold mH wW;cases hm:iQ f.1 t with|false=>simp only[tT,kB,iO];exact MM t r b q a (λg hg=>hf g (by simp[hg])) h|true=>simp only[CT,gh];refine MM t r _ _ true (λg hg=>hf g (by simp[hg])) ?_;by_cases hb:b<f.2;(·rw[ax (by simpa using hb)];simp;exact h0);·rw[au (by simpa using hb)];simp;omega
theorem bP.Dj{V:bB}(h:bP P w V H os)(hO:bZ H)(hx:x∈H.aO):x.2<8/\∃c d p,V.aZ x.2=some (c,d)/\H.aA x.2=some c/\c.bg=some p/\fw V x.2=d.sp/\p.aq=x.1:=by obtain⟨h8,c,p,h1,h2,h3⟩:=(hO.aO x).1 hx;have:=h.pl x.2 h8;rw[h1]at this;cases hc:V.aZ x.2 with|none=>rw[hc]at this;cases this|some BG=>obtain⟨c',d⟩:=BG;rw[hc]at this;simp only[uq,lT]at this;subst this;exact⟨h8,c,d,p,rfl,h1,h2,by unfold fw;rw[hc],h3⟩
theorem bP.amy{V:bB}{q:Option Addr}{cap:Nat}(h:bP P w V H os)(hq:V.sv=.slice q n cap)(hx:H.aO[j]?=some x):∃g,q=some ⟨g,0,none⟩/\n=H.aO.length/\n<=cap/\cap<=maxLen/\w.cell? ⟨g,j,none⟩=some (fN (fw V x.2)):=by have hlt:=(dw.1 hx).1;obtain⟨q',cap',hq'⟩:=bI h.aO;rw[hq]at hq';cases hq';have hr:=h.aO;rw[hq]at hr;obtain⟨g,e1,_,e3,e4,e5⟩:=fE hr (by omega);exact⟨g,e1,rfl,e3,e4,e5 j _ (by rw[oY,hx];rfl)⟩
theorem bP.lW{V:bB}(h:bP P w V H os):w.cell? ⟨P.B,155,none⟩=some V.sv:=ar h.blk (pj V (j:=0) (by decide))
theorem alO(H:aj)(m:bh)(hx:H.aO[j]?=some x):(H.aO.take (j+1)).flatMap (gp H m)=(H.aO.take j).flatMap (gp H m)++gp H m x:=by rw[jL,hx];simp
theorem bP.KZ{V:bB}(h:bP P w V H os)(hO:bZ H)(hF:∀k c,H.aA k=some c->∀f∈c.aJ,0<=f.2)(m:bh)(hm:uo m)(hq:m.qos=0)(hL:os.length<1000000)(hret:m.aF=true->∀w',Below w.heap.size w w'->Calls prog 184 #[.pointer (some ⟨P.B,0,none⟩),ft m] w' λe w''=>e=.returned (.tuple #[])/\∃iw,bQ P V w' {V with rv:=iw} {H with ret:=jw H.ret m} os w''):Calls prog 139 #[.pointer (some ⟨P.B,0,none⟩),ft m] w λe w'=>e=.returned (.tuple #[])/\∃iw bC,bQ P V w {V with rv:=iw,aI:=bC} (H.ia m) (os++H.ky m) w':=by
 have HH:=ac h;have aB:=ac λo=>(aN w.heap.size w).alloc (aC _) o;have fk:=ac λ(f:List UInt8) w (h:av.Inv w) (hl:f.length<=65535)=>show Calls prog 185 #[.string (bs f),.string (bs m.ak)] w λe w'=>e=.returned (.bool (iQ f m.ak))/\Below w.heap.size w w' from Zr (bs f) (bs m.ak) w (by simp[bs,ByteArray.size];omega) (by have:=hm.len;simp[bs,ByteArray.size];omega) h;obtain⟨t,pl,dm,rt⟩:=m;simp only at hq fk;subst hq;have ez:=Qw hO ⟨t,pl,0,rt⟩ (by have:=hm.len;simp only at this⊢;omega) rfl;obtain⟨H1,Oh,hes,WM⟩:∃H1:aj,H1=H.ia ⟨t,pl,0,rt⟩/\H1.aO=H.aO/\H1.aA=H.aA:=⟨_,rfl,rfl,rfl⟩;have hpo:H.ky ⟨t,pl,0,rt⟩=H.aO.flatMap (gp H ⟨t,pl,0,false⟩):=rfl;rw[<-Oh]at ez⊢;rw[hpo];have HO:=ac ez;have LW:=ac hF;have ab5:=ac (show uo ⟨t,pl,0,false⟩from⟨hm.top,hm.len⟩);have Cg:=hO.len;simp only[ft]at hret⊢;have LR:=ac hes;have E6:=ac WM;have C4:=ac Oh;clear h hO hF hm hpo ez hes WM Oh;cases rt;case' false=>clear hret;go_enter func139,ntmps139;go_wp2_with fail;have dV:=aB.aa (.cells #[.string (bs t),.string (bs pl),.int .i64 0,.bool false] 229);have hnew:=cj w (.cells #[.string (bs t),.string (bs pl),.int .i64 0,.bool false] 229);clear aB;generalize w.alloc (.cells #[.string (bs t),.string (bs pl),.int .i64 0,.bool false] 229)=W3 at *;obtain⟨rh,hnew⟩:∃rh,W3.heap[w.heap.size]?=some (.cells #[.string (bs t),.string (bs pl),.int .i64 0,.bool rh] 229):=⟨_,hnew⟩;have uh:Hid (∃iw,bQ P V w {V with rv:=iw} H1 os W3/\¬({V with rv:=iw}:bB).has P.B w.heap.size):=⟨V.rv,by rw[show H1=H from C4.aa];exact(bQ.refl HH.aa).down dV,λe=>ko _ (HH.aa.lt e)⟩;clear dV
 case' true=>have aT:=ac (hret rfl);clear hret;go_enter func139,ntmps139;go_wp2_with fail;have dV:=aB.aa (.cells #[.string (bs t),.string (bs pl),.int .i64 0,.bool true] 229);have hnew:=cj w (.cells #[.string (bs t),.string (bs pl),.int .i64 0,.bool true] 229);clear aB;generalize w.alloc (.cells #[.string (bs t),.string (bs pl),.int .i64 0,.bool true] 229)=W0 at *;refine(aT.aa W0 dV).mono ?_;rintro e W3 ⟨rfl,iw,hd⟩;have Xw:=hd.2.1.blk (b:=w.heap.size) (λe=>ko _ (HH.aa.lt e)) hnew;have uh:Hid (∃iw,bQ P V w {V with rv:=iw} H1 os W3/\¬({V with rv:=iw}:bB).has P.B w.heap.size):=⟨iw,by rw[C4.aa];exact bQ.after HH.aa dV hd,λe=>(hd.2.2 _ e).elim (λe=>ko _ (HH.aa.lt e)) (λe=>ko _ (cw (aG hnew) e))⟩;obtain⟨rh,hnew⟩:∃rh,W3.heap[w.heap.size]?=some (.cells #[.string (bs t),.string (bs pl),.int .i64 0,.bool rh] 229):=⟨_,Xw⟩;clear hd Xw dV aT
 all_goals obtain⟨iw,hd3,hnb⟩:=uh.aa;have lM:=ac hd3;obtain⟨V1,hV1⟩:∃V1:bB,V1={V with rv:=iw}:=⟨_,rfl⟩;rw[<-hV1]at hd3 hnb;obtain⟨q,cap,Py⟩:=bI hd3.1.aO;rw[LR.aa]at Py;have Sj:=ac Py;have Iz:=ac hV1;have qx:=ac hnb;have lc:=ac hnew;have nV:=ac (bQ.refl hd3.1);have ahY:=aG hnew;clear hd3 hnb Py hnew uh hV1;go_wp2_with fail;go_loopw[4] (λi wx=>∃(j:Nat) (bC:Value),j<=H.aO.length/\i=.int .i64 j/\bQ P V1 W3 {V1 with aI:=bC} H1 (os++(H.aO.take j).flatMap (gp H ⟨t,pl,0,false⟩)) wx) (λi _=>H.aO.length-(intOf i).toNat);(case atStart=>exact⟨0,V1.aI,cm _,rfl,by simp only[wR,List.flatMap_nil,ek];exact nV.aa⟩);case round=>obtain⟨j,bC,hj,rfl,hd⟩:=hrel;generalize wr=W at *;(have lW:W.cell? ⟨P.B,155,none⟩=some (.slice q H.aO.length cap):=by rw[<-Sj.aa];exact hd.1.lW);have hn:=hd.2.1.blk qx.aa lc.aa;have m0:W.cell? ⟨w.heap.size,0,none⟩=some (.string (bs t)):=ar hn rfl;have m1:W.cell? ⟨w.heap.size,1,none⟩=some (.string (bs pl)):=ar hn rfl;have m2:W.cell? ⟨w.heap.size,2,none⟩=some (.int .i64 0):=ar hn rfl;have yF:=aG hn;have HD:=ac hd;by_cases hlt:j<H.aO.length;(·obtain⟨x,hx⟩:∃x,H.aO[j]?=some x:=⟨_,cS hlt⟩;obtain⟨h8,c,d,p,e1,e2,e3,e4,e5⟩:=hd.1.Dj HO.aa (x:=x) (by rw[LR.aa];exact ld hx);obtain⟨g,rfl,_,xg,hcm,WY⟩:=hd.1.amy (j:=j) (x:=x) (q:=q) (n:=H.aO.length) (cap:=cap) Sj.aa (by rw[LR.aa];exact hx);rw[e4]at WY;unfold fN at WY;unfold maxLen at hcm;have hS:=hd.1.sat _ c d p h8 e1 e3;obtain⟨mh,lm,Pw⟩:=bI hS.aJ;(have s2:W.cell? ⟨d.sp,2,none⟩=some (.slice mh c.aJ.length lm):=by rw[<-Pw];exact ar hS.blk rfl);have hls:=aG hS.blk;have hlB:=eH lW;have km:=ac (show W.ownsRow 0 95 2 (.slice mh c.aJ.length lm) c.aJ.length (ct c.aJ)by rw[<-Pw];exact hS.aJ);have fh:=ac hd.1.gd.env.inv;have cR:=ac hx;have qq:=ac e1;have xK:=ac (E6.aa▸e2:H.aA x.2=some c);have abf:=ac e3;have hfl:∀f∈c.aJ,f.1.length<=65535:=HO.aa.aJ _ c e2;have qu:=ac hfl;clear hd hn hS Pw hx e1 e2 e3 e4 e5 hfl;go_wp2_with fail;go_loopw[6,7] (λbv iv wx=>∃(i:Nat),i<=c.aJ.length/\iv=.int .i64 i/\bv=.int .i64 (wW t (c.aJ.take i) (-1))/\Below W.heap.size W wx) (λ_ iv _=>c.aJ.length-(intOf iv).toNat);(case atStart=>exact⟨0,cm _,rfl,rfl,aN _ _⟩);case round=>obtain⟨i,hi,rfl,rfl,hB⟩:=hrel;have kF:=ac hB;(have QG:wr.cell? ⟨d.sp,2,none⟩=some (.slice mh c.aJ.length lm):=by rw[hB.cell hls];exact s2);(have P9:wr.cell? ⟨w.heap.size,0,none⟩=some (.string (bs t)):=by rw[hB.cell yF];exact m0);(have akk:wr.cell? ⟨w.heap.size,1,none⟩=some (.string (bs pl)):=by rw[hB.cell yF];exact m1);(have akl:wr.cell? ⟨w.heap.size,2,none⟩=some (.int .i64 0):=by rw[hB.cell yF];exact m2);clear hB;by_cases hil:i<c.aJ.length;(·obtain⟨f,hf⟩:∃f,c.aJ[i]?=some f:=⟨_,cS hil⟩;obtain⟨Dy,rfl,Al,arv,Wq,_⟩:=fE km.aa (by omega);unfold maxLen at Wq;obtain⟨f0,f1⟩:=uy (wr:=wr) km.aa hf rfl (kF.aa.block _ Al);have Pe:d.sp<wr.heap.size:=cw hls kF.aa.size;have WW:Dy<wr.heap.size:=cw Al kF.aa.size;have lN:=ac (acU t c.aJ hf (-1));have abn:=ac hf;clear hf;go_wp2_with fail;go_region_held3(λw'=>w'.cell? ⟨d.sp,2,none⟩=some (.slice (some ⟨Dy,0,none⟩) c.aJ.length lm)/\w'.cell? ⟨Dy,i*2,none⟩=some (.string (bs f.1))/\w'.cell? ⟨w.heap.size,0,none⟩=some (.string (bs t))) (first|exact⟨QG,f0,P9⟩|exact⟨amq,Uu,YE⟩) (first|(go_at_call 185;refine(fk.aa f.1 _ (fh.aa.below kF.aa.drew) (qu.aa f (ld abn.aa))).mono ?_;rintro e w1 ⟨rfl,aW⟩;have aW:Below wr.heap.size wr w1:=(aN wr.heap.size wr).drew.trans aW;have bD:=ac (kF.aa.trans (aW.mono kF.aa.size));(have amq:w1.cell? ⟨d.sp,2,none⟩=some (.slice (some ⟨Dy,0,none⟩) c.aJ.length lm):=by rw[aW.cell Pe];exact QG);(have Uu:w1.cell? ⟨Dy,i*2,none⟩=some (.string (bs f.1)):=by rw[aW.cell WW];exact f0);(have aqM:w1.cell? ⟨Dy,i*2+1,none⟩=some (.int .i64 f.2):=by rw[aW.cell WW];exact f1);(have YE:w1.cell? ⟨w.heap.size,0,none⟩=some (.string (bs t)):=by rw[aW.cell (cw yF kF.aa.size)];exact P9);clear aW));clear f0 f1 QG P9 akk akl Uu YE;generalize wW t (c.aJ.take i) (-1)=b at *;cases hmb:iQ f.1 t with|false=>rw[hmb]at lN;go_wp2;go_roundw;(case rel=>exact⟨i+1,by omega,by go_num,by rw[lN.aa];rfl,bD.aa⟩);case measure=>simp[intOf];omega|true=>rw[hmb]at lN;by_cases uC:b<f.2;(·have u9:=ac (show(if(true&&decide (b<f.2))=true then f.2 else b)=f.2 by rw[cZ uC];rfl);go_wp2;go_roundw;(case rel=>exact⟨i+1,by omega,by go_num,by rw[lN.aa,u9.aa],bD.aa⟩);case measure=>simp[intOf];omega);·have u9:=ac (show(if(true&&decide (b<f.2))=true then f.2 else b)=b by rw[dO uC];rfl);go_wp2;go_roundw;(case rel=>exact⟨i+1,by omega,by go_num,by rw[lN.aa,u9.aa],bD.aa⟩);case measure=>simp[intOf];omega);·have Ce:c.aJ.take i=c.aJ:=iV (by omega);rw[Ce];(have GH:(Di H t x).2=decide (0<=wW t c.aJ (-1)):=by unfold Di;rw[xK.aa];exact MM t c.aJ (-1) 0 false (LW.aa _ c xK.aa) rfl);have Rz:=ac GH;have Su:=ac λw' (hb:Below wr.heap.size wr w')=>((HD.aa.down kF.aa).down hb).1.tell h8 qq.aa abf.aa ⟨t,pl,0,false⟩ ab5.aa rfl (by rw[bT];have:=Qv H ⟨t,pl,0,false⟩;(have h2:((H.aO.take j).flatMap (gp H ⟨t,pl,0,false⟩)).length<=8:=by(have h3:(H.aO.take j).flatMap (gp H ⟨t,pl,0,false⟩)++(H.aO.drop j).flatMap (gp H ⟨t,pl,0,false⟩)=H.ky ⟨t,pl,0,false⟩:=by rw[<-uj,um];rfl);have:=bq List.length h3;rw[bT]at this;omega);omega);simp only[ft]at Su;have dc:w.heap.size<wr.heap.size:=cw yF kF.aa.size;clear Ce GH m0 m1 m2;generalize wW t c.aJ (-1)=b at *;(have fin:∀(w'':World)(Qn:Value)(o:List aP),gp H ⟨t,pl,0,false⟩ x=o->bQ P V1 W3 {V1 with aI:=Qn} H1 (os++(H.aO.take j).flatMap (gp H ⟨t,pl,0,false⟩)++o) w''->bQ P V1 W3 {V1 with aI:=Qn} H1 (os++(H.aO.take (j+1)).flatMap (gp H ⟨t,pl,0,false⟩)) w'':=λw'' Qn o ho hd=>by rw[alO H _ cR.aa,ho,<-fS];exact hd);have qs:=ac fin;clear fin;by_cases hb1:0<=b;(·(have hp1:gp H ⟨t,pl,0,false⟩ x=[⟨(x.2:Int),dF (iG ⟨t,pl,0,false⟩ 0) [] [],false⟩]:=by unfold gp;rw[Rz.aa,cZ hb1];rfl);have wL:=ac hp1;clear hp1;by_cases hb0:0<b;(case' neg=>(have hbz:b=0:=by omega);subst hbz);all_goals go_wp2_with fail;refine(Su.aa _ (aN _ _)).mono ?_;rintro e w2 ⟨rfl,alm,hw⟩;have HW:=ac (qs.aa _ _ _ wL.aa ((HD.aa.down kF.aa).trans hw));clear hw;go_wp2;go_roundw;(case rel=>exact⟨j+1,alm,by omega,by go_num,HW.aa⟩);case measure=>simp[intOf];omega);·(have hp1:gp H ⟨t,pl,0,false⟩ x=[]:=by unfold gp;rw[Rz.aa,dO hb1];rfl);have wL:=ac hp1;(have hb0:¬0<b:=by omega);clear hp1;go_wp2;go_roundw;(case rel=>exact⟨j+1,bC,by omega,by go_num,qs.aa _ _ _ wL.aa (by rw[ek];exact HD.aa.down kF.aa)⟩);case measure=>simp[intOf];omega);·have J0:H.aO.take j=H.aO:=iV (by omega);rw[J0]at HD;clear hd hn m0 m1 m2 J0;go_wp2;go_end0;refine⟨rfl,iw,bC,?_⟩;have hh:=lM.aa;rw[<-Iz.aa]at hh;have:=hh.trans HD.aa;rw[Iz.aa]at this;exact this
end dr
end Go.Proofs.YtnmfmoimjkoieaaGreatDoor
