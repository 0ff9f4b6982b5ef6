import Derived.Test.YtnmfmoimjkoieaaGreatDoorF24
import Derived.Test.YtnmfmoimjkoieaaGreatDoorF25
import Derived.Test.YtnmfmoimjkoieaaGreatDoorF26
set_option maxHeartbeats 25600000
set_option maxRecDepth 100000
set_option linter.all false
namespace Go.Proofs.YtnmfmoimjkoieaaGreatDoor
open Go.Proofs.Tryz
variable{w w' a:World}{B k b n ba f N:Nat}{c:Array Value}{L:List (br.aP×Value)}{os ms:List br.aP}{F G:Nat->Prop}{D:DataW Unit}{l:List UInt8}{q:aM.ay×List (List UInt8×Int)×List Int}{p:aM.ay}{gs fs:List (List UInt8×Int)}{ds cs:List Int}
namespace br
open Go.RowKit aD av aM Go.Maps
structure Slot where
 X:acq
 C:eD
 S:eY
def Slot.on(s:Slot):Prop:=s.C.bg≠none
def Slot.has(s:Slot)(b:Nat):Prop:=s.X.ae.has b\/(s.on/\(s.X.sv.has s.X.ae.sp b\/b=s.X.x\/b=s.X.y))
structure oc (w:World) (B k:Nat) (s:Slot):Prop where
 aA:gT w B (k:Int) s.X.ae s.C
 aO:s.on→cK w s.X.ae.sp s.X.sv s.S
 snd:s.on→s.X.sv.snd=some (s.X.x,s.X.y)
 kW:s.on→oa w B s.X.ae.cb s.X.x s.X.y (k:Int)
theorem oc.ah{s:Slot}(h:oc w B k s)(hk:∀b,s.has b->w'.heap[b]?=w.heap[b]?):oc w' B k s:=⟨h.aA.ah (λb hb=>hk b (ai hb)),λo=>(h.aO o).ah (λb hb=>hk b (ag ⟨o,ai hb⟩)),h.snd,λo=>(h.kW o).ah (hk _ (ag ⟨o,ag (ai rfl)⟩)) (hk _ (ag ⟨o,ag (ag rfl)⟩)) (hk _ (ai (ai rfl)))⟩
theorem oc.lt{s:Slot}(h:oc w B k s)(hb:s.has b):b<w.heap.size:=by
 rcases hb with hb|⟨o,hb|rfl|rfl⟩;·exact h.aA.lt hb
 ·exact(h.aO o).lt hb
 ·exact aG (h.kW o).bx
 ·exact aG (h.kW o).cD
theorem oc.not{s:Slot}(h:oc w B k s){t:TypeId}(hb:w.heap[b]?=some (.cells c t))(h1:t≠137/\t≠5/\t≠55/\t≠124)(h2:t≠188/\t≠95/\t≠252):¬s.has b:=by
 rintro(hh|⟨o,hh|rfl|rfl⟩);·exact h.aA.not hb h1 hh
 ·exact(h.aO o).not hb h2 hh
 ·have:=(h.kW o).bx;rw[hb]at this;simp at this;exact h1.2.2.1 this.2
 ·have:=(h.kW o).cD;rw[hb]at this;simp at this;exact h1.2.2.2 this.2
theorem oc.u8{s:Slot}(h:oc w B k s)(hb:w.heap[b]?=some (.cells c 5))(hx:s.has b):s.X.ae.r=false/\s.X.ae.wv.ownBlock=some b:=by
 have key:∀{c':Array Value}{t:TypeId},w.heap[b]?=some (.cells c' t)->t≠5->False:=λh1 h2=>by rw[hb]at h1;simp at h1;exact h2 h1.2.symm
 rcases hx with(e|e|e|e|e|e)|⟨o,e|e|e⟩;·exact(key (e▸h.aA.blk) (by decide)).elim
 ·exact e
 ·exact(key (e▸h.aA.b1.bx) (by decide)).elim
 ·exact(key (e▸h.aA.b1.cD) (by decide)).elim
 ·exact(key (e▸h.aA.b2.bx) (by decide)).elim
 ·exact(key (e▸h.aA.b2.cD) (by decide)).elim
 ·exact((h.aO o).not hb (by decide) e).elim
 ·exact(key (e▸(h.kW o).bx) (by decide)).elim
 ·exact(key (e▸(h.kW o).cD) (by decide)).elim
theorem oc.AA{s:Slot}(h:oc w B k s){es:_}(hb:w.heap[b]?=some (.map es n))(hne:s.on->b≠s.X.sv.kb):¬s.has b:=by
 rintro(hh|⟨o,hh|rfl|rfl⟩);·exact h.aA.AA hb hh
 ·exact(h.aO o).AA hb (hne o) hh
 ·have:=(h.kW o).bx;rw[hb]at this;simp at this
 ·have:=(h.kW o).cD;rw[hb]at this;simp at this
theorem oc.apart{s:Slot}{aH:dD}{aI:Value}(h:oc w B k s)(hB:dn w B aH aI L)(hb:s.has b):¬il B aI b:=by
 rcases hb with hb|⟨o,hb|rfl|rfl⟩;·exact Nh h.aA hB hb
 ·exact(h.aO o).apart hB hb
 ·exact((h.kW o).apart hB).1
 ·exact((h.kW o).apart hB).2.1
def ji(p:ay):ay:={p with fv:=.slice none 0 0,ae:=.slice none 0 0}
structure b9 where
 wait:List UInt8
 heard:Int
 bg:Option ay
 aJ:List (List UInt8×Int)
def gZ(s:Slot):b9:=⟨s.C.waiting,s.C.heard,s.C.bg.map ji,s.S.bn⟩
structure aj where
 now:Int
 aA:Nat→Option b9
 aO:fP
 ret:List bh
structure bb where
 N0:Nat
 x9:Nat
 bW:Addr
 bc:Addr
 B:Nat
 win:Int
 bf:Nat
 rd:Option Nat
structure dg where
 aH:dD
 aI:Value
 L:List (aP×Value)
 sl:Nat→Option Slot
 D:DataW Unit
 nn:Nat
def lg(aI:Value)(L:List (aP×Value))(b:Nat):Prop:=aI.ownBlock=some b\/∃x,x∈L/\x.2.ownBlock=some b
def dg.has(B:Nat)(Q:dg)(b:Nat):Prop:=b=B\/lg Q.aI Q.L b\/b=Q.aH.ba\/Q.aH.rv.ownBlock=some b\/∃k s,k<8/\Q.sl k=some s/\s.has b
def ie(sl:Nat->Option Slot)(x:List UInt8×Nat):List UInt8×Nat:=(x.1,match sl x.2 with|some s=>s.X.ae.sp|none=>0)
def yQ(s:Option Slot):Value:=.pointer (s.map λs=>⟨s.X.ae.cb,0,none⟩)
def Slot.ok(P:bb)(aH:dD)(s:Slot):Prop:=s.on->s.X.sv.kb≠aH.ba/\s.S={vQ P.win P.bf with bn:=s.S.bn}/\∀p,s.C.bg=some p->(∃a b c,p.fv=.slice a b c)/\∃a b c,p.ae=.slice a b c
def zb(L:List (aP×Value)):Prop:=L.Pairwise (λa b=>∀x,a.2.ownBlock=some x->b.2.ownBlock≠some x)
theorem zb.one(h:L.length<=1):zb L:=by match L,h with|[],_=>exact List.Pairwise.nil|[a],_=>exact List.pairwise_singleton _ _
structure bS (P:bb) (w:World) (Q:dg) (H:aj) (os:List aP):Prop where
 gd:kE P.N0 P.bW P.bc w
 blk:dn w P.B Q.aH Q.aI Q.L
 uO:Q.L.map Prod.fst=os
 pg:Q.aH.win=P.win∧Q.aH.bf=(P.bf:Int)∧Q.aH.lY=H.now
 slt:∀ k s,k < 8→Q.sl k=some s→oc w P.B k s
 ok:∀ k s,k < 8→Q.sl k=some s→s.ok P Q.aH
 kO:∀ k,k < 8→Q.aH.ae k=yQ (Q.sl k)
 om:∀ j k s t b,j < 8→k < 8→j≠k→Q.sl j=some s→Q.sl k=some t→s.has b→¬ t.has b
 map:w.ownsMap prog 9 gv Q.aH.ba Q.nn Q.D
 ret:w.ownsRow 0 206 4 Q.aH.rv H.ret.length (H.ret.flatMap bz)
 pl:∀ k,k < 8→H.aA k=(Q.sl k).map gZ
 fI:cX Q.D (H.aO.map (ie Q.sl))
 n0:∀ b,Q.has P.B b→P.N0≤b
 o1:P.x9≤w.heap.size∧∀ b,lg Q.aI Q.L b→P.x9≤b
 Cw:∀ k s,k < 8→Q.sl k=some s→s.X.ae.r=false→∀ o,o∈Q.L→∀ b,o.2.ownBlock=some b→s.X.ae.wv.ownBlock≠some b
 rd:∀ k s,k < 8→Q.sl k=some s→s.X.ae.r=true→P.rd=some k
 dd:zb Q.L
def ace(P:bb)(H:aj)(os:List aP):dQ:=λF w=>∃Q,bS P w Q H os/\F=Q.has P.B
def oU(P:bb)(H:aj)(os:List aP)(ba:Nat)(sl:Nat->Option Slot)(D:DataW Unit):dQ:=λF w=>∃Q,bS P w Q H os/\F=Q.has P.B/\Q.aH.ba=ba/\Q.sl=sl/\Q.D=D
def rB(P:bb)(H:aj)(os:List aP)(k:Nat)(ae:dt)(C:eD):dQ:=λF w=>∃Q s,bS P w Q H os/\F=Q.has P.B/\Q.sl k=some s/\s.X.ae=ae/\s.C=C
def vp(P:bb)(H:aj)(os:List aP)(k cb:Nat)(wv:Value):dQ:=λF w=>∃Q s,bS P w Q H os/\F=Q.has P.B/\Q.sl k=some s/\s.X.ae.cb=cb/\s.X.ae.wv=wv/\s.X.ae.r=true
theorem bG.QY{P:bb}{H:aj}{ae:dt}{C:eD}{b:World}(h:bG (rB P H os k ae C) F a b)(hr:ae.r=true):bG (vp P H os k ae.cb ae.wv) F a b:=h.mono (λ_ _ ⟨Q,s,h1,h2,h3,h4,_⟩=>⟨Q,s,h1,h2,h3,by rw[h4],by rw[h4],by rw[h4];exact hr⟩)
theorem bG.HB{P:bb}{H:aj}{sl:Nat->Option Slot}{s:Slot}{b:World}(h:bG (oU P H os ba sl D) F a b)(hs:sl k=some s):bG (rB P H os k s.X.ae s.C) F a b:=h.mono (λ_ _ ⟨Q,h1,h2,_,h3,_⟩=>⟨Q,s,h1,h2,by rw[h3];exact hs,rfl,rfl⟩)
theorem bG.at{P:bb}{H:aj}{sl:Nat->Option Slot}{b:World}(h:bG (oU P H os ba sl D) F a b):bG (ace P H os) F a b:=h.mono (λ_ _ ⟨Q,h1,h2,_⟩=>⟨Q,h1,h2⟩)
theorem bS.lt{P:bb}{Q:dg}{H:aj}(h:bS P w Q H os)(hb:Q.has P.B b):b<w.heap.size:=by
 rcases hb with rfl|(hb|⟨o,ho,hb⟩)|rfl|hb|⟨k,s,hk,hs,hb⟩;·exact aG h.blk.blk
 ·obtain⟨cur,hc⟩:=aU h.blk.aa.row hb;exact aG hc
 ·obtain⟨cur,hc⟩:=aU (h.blk.aa.cA o ho) hb;exact aG hc
 ·obtain⟨es,cl,hm⟩:=mV h.map;exact aG hm
 ·obtain⟨cur,hc⟩:=aU h.ret hb;exact aG hc
 ·exact(h.slt k s hk hs).lt hb
theorem bS.ah{P:bb}{Q:dg}{H:aj}(h:bS P w Q H os)(hb:But G w w')(hG:∀x,G x->¬Q.has P.B x/\P.N0<=x):bS P w' Q H os:=by have hk:∀b,Q.has P.B b->w'.heap[b]?=w.heap[b]?:=λb hx=>hb.ah b (h.lt hx) (λg=>(hG b g).1 hx);exact⟨h.gd.below (hb.below (λb g=>(hG b g).2) h.gd.env.size),⟨(hk _ (ai rfl)).trans h.blk.blk,h.blk.aa.ah (λb hx=>hk b (ag (ai (ai hx)))) (λo b ho hx=>hk b (ag (ai (ag ⟨o,ho,hx⟩))))⟩,h.uO,h.pg,λk s h1 h2=>(h.slt k s h1 h2).ah (λb hx=>hk b (ag (ag (ag (ag ⟨k,s,h1,h2,hx⟩))))),h.ok,h.kO,h.om,q7 h.map (hk _ (ag (ag (ai rfl)))),bM h.ret (λb hx=>hk b (ag (ag (ag (ai hx))))),h.pl,h.fI,h.n0,⟨bi h.o1.1 hb.size,h.o1.2⟩,h.Cw,h.rd,h.dd⟩
theorem aiy(P:bb)(H:aj)(os:List aP)(ba:Nat)(sl:Nat->Option Slot)(D:DataW Unit):Fit P.N0 (oU P H os ba sl D):=⟨λF G a b ⟨Q,h,e,r⟩ hb hG=>⟨Q,h.ah hb (λx hx=>by subst e;exact hG x hx),e,r⟩,λF a ⟨Q,h,e,_⟩ b hb=>by subst e;exact h.lt hb⟩
theorem Km(P:bb)(H:aj)(os:List aP)(k:Nat)(ae:dt)(C:eD):Fit P.N0 (rB P H os k ae C):=⟨λF G a b ⟨Q,s,h,e,r⟩ hb hG=>⟨Q,s,h.ah hb (λx hx=>by subst e;exact hG x hx),e,r⟩,λF a ⟨Q,s,h,e,_⟩ b hb=>by subst e;exact h.lt hb⟩
theorem PI(P:bb)(H:aj)(os:List aP)(k cb:Nat)(wv:Value):Fit P.N0 (vp P H os k cb wv):=⟨λF G a b ⟨Q,s,h,e,r⟩ hb hG=>⟨Q,s,h.ah hb (λx hx=>by subst e;exact hG x hx),e,r⟩,λF a ⟨Q,s,h,e,_⟩ b hb=>by subst e;exact h.lt hb⟩
def dg.own(B:Nat)(Q:dg)(k:Nat)(b:Nat):Prop:=il B Q.aI b\/b=Q.aH.ba\/∃s,Q.sl k=some s/\s.has b
theorem dg.Zd{Q:dg}(hk:k<8)(h:Q.own B k b):Q.has B b:=by
 rcases h with(h|h)|h|⟨s,h1,h2⟩;·exact ai h
 ·exact ag (ai (ai h))
 ·exact ag (ag (ai h))
 ·exact ag (ag (ag (ag ⟨k,s,hk,h1,h2⟩)))
theorem wU{a:Prop}{b:Prop}{c:Prop}(h:a/\b)(f:a->b->c):c:=f h.1 h.2
def upd{α:Type}(f:Nat->α)(k:Nat)(a:α):Nat->α:=λj=>if j=k then a else f j
theorem bS.AA{P:bb}{Q:dg}{H:aj}(h:bS P w Q H os){s:Slot}(hk:k<8)(hs:Q.sl k=some s):¬s.has Q.aH.ba:=by obtain⟨es,cl,hm⟩:=mV h.map;exact(h.slt k s hk hs).AA hm (λo e=>(h.ok k s hk hs o).1 e.symm)
theorem bS.Lg{P:bb}{Q:dg}{H H':aj}(h:bS P w Q H os)(ni:Nat)(agU:P.N0<=ni)(k:Nat)(hk:k<8)(s':Option Slot)(bC:Value)(M:List (aP×Value))(D':DataW Unit)(Cs:Nat)(hb:But (Q.own P.B k) w w')(h1:dn w' P.B (Q.aH.lG k (yQ s')) bC (Q.L++M))(h2:bC.ownBlock=Q.aI.ownBlock\/∃b,bC.ownBlock=some b/\w.heap.size<=b)(h3:∀o,o∈M->∀b,o.2.ownBlock=some b->w.heap.size<=b)(h4:∀s,s'=some s->oc w' P.B k s/\s.ok P Q.aH/\∀b,s.has b->(∃s0,Q.sl k=some s0/\s0.has b)\/(ni<=b/\¬Q.has P.B b))(h5:w'.ownsMap prog 9 gv Q.aH.ba Cs D')(h6:cX D' (H'.aO.map (ie (upd Q.sl k s'))))(h7:H'.now=H.now/\H'.ret=H.ret/\H'.aA=upd H.aA k (s'.map gZ))(h8:∀s,s'=some s->s.X.ae.r=false->∀b,s.X.ae.wv.ownBlock=some b->(M=[]/\¬Q.has P.B b)\/∃s0,Q.sl k=some s0/\s0.X.ae.r=false/\s0.X.ae.wv.ownBlock=some b)(h9:∀s,s'=some s->s.X.ae.r=true->P.rd=some k)(hM:M.length<=1:=by simp):bS P w' ⟨Q.aH.lG k (yQ s'),bC,Q.L++M,upd Q.sl k s',D',Cs⟩ H' (os++M.map Prod.fst)/\But (Q.has P.B) w w'/\∀b,(dg.mk (Q.aH.lG k (yQ s')) bC (Q.L++M) (upd Q.sl k s') D' Cs).has P.B b->Q.has P.B b\/w.heap.size<=b\/(ni<=b/\¬Q.has P.B b):=by
 have hs0:=h.gd.env.size;have hnew:∀b,(dg.mk (Q.aH.lG k (yQ s')) bC (Q.L++M) (upd Q.sl k s') D' Cs).has P.B b->Q.has P.B b\/w.heap.size<=b\/(ni<=b/\¬Q.has P.B b):=λb e=>by rcases e with e|(e|⟨o,ho,e⟩)|e|e|⟨j,s,hj,hs,e⟩;(·exact ai (ai e));(·rcases h2 with k4|⟨b',k4,Hh⟩;(·exact ai (ag (ai (ai (k4▸e)))));·have e2:bC.ownBlock=some b:=e;rw[k4]at e2;cases e2;exact ag (ai Hh));(·rcases mE.1 ho with ho|ho;(·exact ai (ag (ai (ag ⟨o,ho,e⟩))));·exact ag (ai (h3 o ho b e)));(·exact ai (ag (ag (ai e))));(·exact ai (ag (ag (ag (ai e)))));·have hs:upd Q.sl k s' j=some s:=hs;unfold upd at hs;by_cases bF:j=k;(·rw[ax bF]at hs;rcases(h4 s hs).2.2 b e with⟨s0,e1,e2⟩|e;(·exact ai (ag (ag (ag (ag ⟨k,s0,hk,e1,e2⟩)))));·exact ag (ag e));·rw[au bF]at hs;exact ai (ag (ag (ag (ag ⟨j,s,hj,hs,e⟩))))
 have hout:∀b,lg bC (Q.L++M) b->P.x9<=b:=λb e=>by rcases e with e|⟨o,ho,e⟩;(·rcases h2 with k4|⟨b',k4,Hh⟩;(·exact h.o1.2 b (ai (k4▸e)));·rw[k4]at e;cases e;exact bi h.o1.1 Hh);·rcases mE.1 ho with ho|ho;(·exact h.o1.2 b (ag ⟨o,ho,e⟩));·exact bi h.o1.1 (h3 o ho b e)
 have hoth:∀j s,j<8->j≠k->Q.sl j=some s->∀b,s.has b->¬Q.own P.B k b:=λj s hj hjk hs b hb e=>by rcases e with e|e|⟨t,e1,e2⟩;(·exact(h.slt j s hj hs).apart h.blk hb e);(·subst e;exact h.AA hj hs hb);·exact h.om j k s t b hj hk hjk hs e1 hb e2
 have Cn:∀j s,upd Q.sl k s' j=some s->(j=k/\s'=some s)\/(j≠k/\Q.sl j=some s):=λj s e=>by unfold upd at e;by_cases bF:j=k;(·rw[ax bF]at e;exact ai ⟨bF,e⟩);·rw[au bF]at e;exact ag ⟨bF,e⟩
 have aii:∀j t,j<8->upd Q.sl k s' j=some t->t.X.ae.r=false->∀o,o∈Q.L++M->∀b,o.2.ownBlock=some b->t.X.ae.wv.ownBlock≠some b:=λj t hj ht hr o ho b hb' e=>by(have hold:∀i s0,i<8->Q.sl i=some s0->s0.X.ae.r=false->s0.X.ae.wv.ownBlock=some b->False:=λi s0 hi hs0 hr e=>by rcases mE.1 ho with ho|ho;(·exact h.Cw i s0 hi hs0 hr o ho b hb' e);·have h9:=h3 o ho b hb';have:=(h.slt i s0 hi hs0).lt (b:=b) (ai (ag (ai ⟨hr,e⟩)));omega);rcases Cn j t ht with⟨_,g⟩|⟨_,g⟩;(·rcases h8 t g hr b e with⟨e1,e2⟩|⟨s0,e1,er,e2⟩;(·rw[e1,ek]at ho;exact e2 (ag (ai (ag ⟨o,ho,hb'⟩))));·exact hold k s0 hk e1 er e2);·exact hold j t hj g hr e
 have hdd:zb (Q.L++M):=List.pairwise_append.2 ⟨h.dd,zb.one hM,λa ha b hb x e1 e2=>by obtain⟨cur,hc⟩:=aU (h.blk.aa.cA a ha) e1;have:=aG hc;have:=h3 b hb x e2;omega⟩;refine⟨⟨h.gd.below (hb.below (λb e=>h.n0 b (dg.Zd hk e)) hs0),h1,by rw[FK,h.uO],⟨h.pg.1,h.pg.2.1,by rw[h7.1];exact h.pg.2.2⟩,λj s hj e=>?_,λj s hj e=>?_,λj hj=>?_,λi j s t b hi hj hij e1 e2 vL=>?_,h5,?_,λj hj=>?_,h6,λb e=>(hnew b e).elim (h.n0 b) (λe=>e.elim (λe=>bi hs0 e) (λe=>bi agU e.1)),⟨bi h.o1.1 hb.size,hout⟩,aii,λj s hj e=>(Cn j s e).elim (λ⟨bF,g⟩=>by rw[bF];exact h9 s g) (λ⟨_,g⟩=>h.rd j s hj g),hdd⟩,hb.wide (λb _ e=>dg.Zd hk e),hnew⟩;·rcases Cn j s e with⟨rfl,g⟩|⟨bF,g⟩;(·exact(h4 s g).1);·exact(h.slt j s hj g).ah (λb hx=>hb.ah b ((h.slt j s hj g).lt hx) (hoth j s hj bF g b hx))
 ·rcases Cn j s e with⟨rfl,g⟩|⟨bF,g⟩;(·exact(h4 s g).2.1);·exact h.ok j s hj g
 ·show(if j=k then yQ s' else Q.aH.ae j)=yQ (if j=k then s' else Q.sl j);by_cases bF:j=k;(·rw[ax bF,ax bF]);·rw[au bF,au bF];exact h.kO j hj
 ·rcases Cn i s e1 with⟨rfl,g1⟩|⟨aqJ,g1⟩;(·rcases Cn j t e2 with⟨rfl,g2⟩|⟨bF,g2⟩;(·exact absurd rfl hij);·intro Kl;rcases(h4 s g1).2.2 b vL with⟨s0,f1,f2⟩|f;(·exact h.om _ j s0 t b hi hj hij f1 g2 f2 Kl);·exact f.2 (ag (ag (ag (ag ⟨j,t,hj,g2,Kl⟩)))));·rcases Cn j t e2 with⟨rfl,g2⟩|⟨bF,g2⟩;(·intro Kl;rcases(h4 t g2).2.2 b Kl with⟨s0,f1,f2⟩|f;(·exact h.om i _ s s0 b hi hj hij g1 f1 vL f2);·exact f.2 (ag (ag (ag (ag ⟨i,s,hi,g1,vL⟩)))));·exact h.om i j s t b hi hj hij g1 g2 vL
 ·rw[h7.2.1];refine bM h.ret (λb hx=>hb.ah b (by obtain⟨cur,hc⟩:=aU h.ret hx;exact aG hc) (λe=>?_));obtain⟨cur,hc⟩:=aU h.ret hx;rcases e with e|e|⟨t,e1,e2⟩;(·exact(h.blk.not hc (by decide)).1 e);(·obtain⟨es,cl,hm⟩:=mV h.map;rw[e,hm]at hc;cases hc);·exact(h.slt k t hk e1).not hc (by decide) (by decide) e2
 ·rw[h7.2.2];show(if j=k then _ else H.aA j)=Option.map gZ (if j=k then s' else Q.sl j);by_cases bF:j=k;(·rw[ax bF,ax bF]);·rw[au bF,au bF];exact h.pl j hj
theorem bS.turn{P:bb}{Q:dg}{H H':aj}(h:bS P w Q H os)(k:Nat)(hk:k<8)(s':Option Slot)(bC:Value)(M:List (aP×Value))(D':DataW Unit)(Cs:Nat)(hb:But (Q.own P.B k) w w')(h1:dn w' P.B (Q.aH.lG k (yQ s')) bC (Q.L++M))(h2:bC.ownBlock=Q.aI.ownBlock\/∃b,bC.ownBlock=some b/\w.heap.size<=b)(h3:∀o,o∈M->∀b,o.2.ownBlock=some b->w.heap.size<=b)(h4:∀s,s'=some s->oc w' P.B k s/\s.ok P Q.aH/\∀b,s.has b->(∃s0,Q.sl k=some s0/\s0.has b)\/w.heap.size<=b)(h5:w'.ownsMap prog 9 gv Q.aH.ba Cs D')(h6:cX D' (H'.aO.map (ie (upd Q.sl k s'))))(h7:H'.now=H.now/\H'.ret=H.ret/\H'.aA=upd H.aA k (s'.map gZ))(h8:∀s,s'=some s->s.X.ae.r=false->∀b,s.X.ae.wv.ownBlock=some b->(M=[]/\¬Q.has P.B b)\/∃s0,Q.sl k=some s0/\s0.X.ae.r=false/\s0.X.ae.wv.ownBlock=some b)(h9:∀s,s'=some s->s.X.ae.r=true->P.rd=some k)(hM:M.length<=1:=by simp):bG (oU P H' (os++M.map Prod.fst) Q.aH.ba (upd Q.sl k s') D') (Q.has P.B) w w':=by obtain⟨k1,k2,k3⟩:=h.Lg w.heap.size h.gd.env.size k hk s' bC M D' Cs hb h1 h2 h3 (λs hs=>⟨(h4 s hs).1,(h4 s hs).2.1,λb e=>((h4 s hs).2.2 b e).imp id (λe=>⟨e,λe'=>absurd (h.lt e') (Nat.not_lt.2 e)⟩)⟩) h5 h6 h7 h8 h9 hM;exact⟨_,⟨_,k1,rfl,rfl,rfl,rfl⟩,k2,λb e=>(k3 b e).imp id (λe=>e.elim id (λe=>e.1))⟩
theorem upd_same{α:Type}{f:Nat->α}{a:α}(h:f k=a):upd f k a=f:=by
 funext j;unfold upd;by_cases e:j=k;·rw[ax e,e,h]
 ·rw[au e]
theorem K5{V:dD}{v:Value}(h:V.ae k=v):V.lG k v=V:=by have:(λi=>if i=k then v else V.ae i)=V.ae:=upd_same h;unfold dD.lG;rw[this]
theorem bS.aaD{P:bb}{Q:dg}{H:aj}(h:bS P w Q H os)(hw:Wrote (λ_=>False) w P.B Q.aH Q.aI Q.L ms w')(hm:ms.length<=1:=by simp):bG (oU P H (os++ms) Q.aH.ba Q.sl Q.D) (Q.has P.B) w w':=by
 obtain⟨bC,M,k1,rfl,k3,k4,k5⟩:=hw;have hb:But (Q.own P.B 0) w w':=k3.wide (λb _ e=>ai (e.elim (λf=>f.elim) id));have OP:But (il P.B Q.aI) w w':=k3.wide (λb _ e=>e.elim (λf=>f.elim) id);have h8:(0:Nat)<8:=by decide
 have hu:upd Q.sl 0 (Q.sl 0)=Q.sl:=upd_same rfl;rw[<-hu];refine h.turn (H':=H) 0 h8 (Q.sl 0) bC M Q.D Q.nn hb (by rw[K5 (h.kO 0 h8)];exact k1) k4 k5 (λs hs=>⟨(h.slt 0 s h8 hs).ah (λb hx=>OP.ah b ((h.slt 0 s h8 hs).lt hx) ((h.slt 0 s h8 hs).apart h.blk hx)),h.ok 0 s h8 hs,λb hx=>ai ⟨s,hs,hx⟩⟩) ?_ (by rw[upd_same rfl];exact h.fI) ⟨rfl,rfl,(upd_same (h.pl 0 h8)).symm⟩ (λs hs hr b e=>ag ⟨s,hs,hr,e⟩) (λs hs=>h.rd 0 s h8 hs) (by rw[dU]at hm;exact hm);obtain⟨es,cl,hm⟩:=mV h.map;refine q7 h.map (OP.ah _ (aG hm) ?_);rintro(e|e);·have:=h.blk.blk;rw[<-e,hm]at this;cases this
 ·obtain⟨cur,hc⟩:=aU h.blk.aa.row e;rw[hm]at hc;cases hc
theorem bS.write{P:bb}{Q:dg}{H:aj}{s:Slot}(h:bS P w Q H os)(hk:k<8)(hs:Q.sl k=some s)(p:ay)(d:List UInt8)(hE:mZ N w p d)(hL:os.length<1000000000000):Calls prog 131 #[.pointer (some ⟨P.B,0,none⟩),.pointer (some ⟨s.X.ae.cb,0,none⟩),.agg (bw p)] w λe w'=>e=.returned (.tuple #[])/\bG (oU P H (os++[⟨(k:Int),d,false⟩]) Q.aH.ba Q.sl Q.D) (Q.has P.B) w w':=by refine(M3 P.B s.X.ae.cb (k:Int) p d Q.aH Q.aI Q.L w hE h.blk (ar (h.slt k s hk hs).aA.blk (jM _ _ _).1) (by rw[<-h.uO,dU]at hL;exact hL)).mono ?_;rintro e w' ⟨rfl,bC,mL,k1,k2,k3,k4⟩;exact⟨rfl,h.aaD ⟨bC,[(⟨(k:Int),d,false⟩,mL)],k1,rfl,k2.wide (λ_ _ e=>ag e),k3,λo ho b hb=>by simp only[jW]at ho;subst ho;exact k4 b hb⟩⟩
def aj.cN(H:aj)(k:Nat)(f:List (List UInt8×Int)):aj:={H with aA:=upd H.aA k ((H.aA k).map λc=>{c with aJ:=f})}
theorem ZN{P:bb}{Q:dg}{H:aj}{s:Slot}(h:bS P w Q H os)(hk:k<8)(hs:Q.sl k=some s):H.cN k s.S.bn=H:=by unfold aj.cN;rw[h.pl k hk,hs,upd_same];rw[h.pl k hk,hs];rfl
theorem bS.went{P:bb}{Q:dg}{H:aj}{s:Slot}{dP:eK}{f:List (List UInt8×Int)}(h:bS P w Q H os)(hk:k<8)(hs:Q.sl k=some s)(ho:s.on)(hG:∀b,G b->s.X.sv.has s.X.ae.sp b)(hw:Wrote G w P.B Q.aH Q.aI Q.L ms w')(PB:cK w' s.X.ae.sp dP {s.S with bn:=f})(hn:dP.snd=s.X.sv.snd)(hkb:dP.kb=s.X.sv.kb)(hh:∀b,dP.has s.X.ae.sp b->s.X.sv.has s.X.ae.sp b\/w.heap.size<=b)(hm:ms.length<=1:=by simp):bG (rB P (H.cN k f) (os++ms) k s.X.ae s.C) (Q.has P.B) w w':=by
 obtain⟨bC,M,k1,rfl,k3,k4,k5⟩:=hw;have hS:=h.slt k s hk hs;have hb:But (Q.own P.B k) w w':=k3.wide (λb _ e=>e.elim (λe=>ag (ag ⟨s,hs,ag ⟨ho,ai (hG b e)⟩⟩)) ai);have hno:∀{b:Nat}{c:Array Value}{t:TypeId},w.heap[b]?=some (.cells c t)->(t≠188/\t≠95/\t≠252)->s.has b->w'.heap[b]?=w.heap[b]?:=λhc ht hx=>k3.ah _ (aG hc) (λe=>e.elim (λe=>(hS.aO ho).not hc ht (hG _ e)) (hS.apart h.blk hx));have hcon:∀b,s.X.ae.has b->w'.heap[b]?=w.heap[b]?:=λb hx=>by rcases hx with rfl|hx|rfl|rfl|rfl|rfl;(·exact hno hS.aA.blk (by decide) (ai (by simp[dt.has])));(·obtain⟨cur,hc⟩:=aU (hS.aA.qb hx.1) hx.2;exact hno hc (by decide) (ai (ag (ai hx))));(·exact hno hS.aA.b1.bx (by decide) (ai (by simp[dt.has])));(·exact hno hS.aA.b1.cD (by decide) (ai (by simp[dt.has])));(·exact hno hS.aA.b2.bx (by decide) (ai (by simp[dt.has])));·exact hno hS.aA.b2.cD (by decide) (ai (by simp[dt.has]))
 refine bG.HB (s:=⟨⟨s.X.ae,dP,s.X.x,s.X.y⟩,s.C,{s.S with bn:=f}⟩) (h.turn k hk (some ⟨⟨s.X.ae,dP,s.X.x,s.X.y⟩,s.C,{s.S with bn:=f}⟩) bC M Q.D Q.nn hb ?_ k4 k5 (λt ht=>?_) ?_ ?_ ⟨rfl,rfl,?_⟩ (λt ht hr b e=>by cases ht;exact ag ⟨s,hs,hr,e⟩) (λt ht=>by cases ht;exact h.rd k s hk hs) (by rw[dU]at hm;exact hm)) (by unfold upd;rw[ax rfl]);·rw[K5 (by rw[h.kO k hk,hs];rfl)];exact k1
 ·cases ht;refine⟨⟨hS.aA.ah hcon,λ_=>PB,λ_=>hn.trans (hS.snd ho),λ_=>(hS.kW ho).ah (hno (hS.kW ho).bx (by decide) (ag ⟨ho,ag (ai rfl)⟩)) (hno (hS.kW ho).cD (by decide) (ag ⟨ho,ag (ag rfl)⟩)) (hcon _ (ai rfl))⟩,λ_=>⟨by rw[hkb];exact(h.ok k s hk hs ho).1,by show({s.S with bn:=f}:eY)=_;rw[(h.ok k s hk hs ho).2.1],(h.ok k s hk hs ho).2.2⟩,λb hx=>?_⟩;rcases hx with hx|⟨_,hx|hx|hx⟩;(·exact ai ⟨s,hs,ai hx⟩);(·exact(hh b hx).imp (λe=>⟨s,hs,ag ⟨ho,ai e⟩⟩) id);(·exact ai ⟨s,hs,ag ⟨ho,ag (ai hx)⟩⟩);·exact ai ⟨s,hs,ag ⟨ho,ag (ag hx)⟩⟩
 ·obtain⟨es,cl,hm⟩:=mV h.map;refine q7 h.map (k3.ah _ (aG hm) ?_);rintro(e|e|e);(·exact h.AA hk hs (ag ⟨ho,ai (hG _ e)⟩));(·have:=h.blk.blk;rw[<-e,hm]at this;cases this);·obtain⟨cur,hc⟩:=aU h.blk.aa.row e;rw[hm]at hc;cases hc
 ·(have e:ie (upd Q.sl k (some ⟨⟨s.X.ae,dP,s.X.x,s.X.y⟩,s.C,{s.S with bn:=f}⟩))=ie Q.sl:=by funext x;unfold ie upd;by_cases e:x.2=k;(·rw[ax e,e,hs]);·rw[au e]);rw[e];exact h.fI
 ·show upd H.aA k ((H.aA k).map _)=_;rw[h.pl k hk,hs];rfl
structure LC (N0:Nat) (B:Nat) (n:Int) (bf ba m:Nat) (cl:List UInt8) (d:List UInt8) (D:DataW Unit) (aH:dD) (aI:Value) (L:List (aP×Value)) (bu:dt) (C:eD) (a:World):Prop where
 enc:mZ N0 a (gu false 0) d
 blk:dn a B aH aI L
 aA:gT a B n bu C
 hel:C.bg=none
 map:a.ownsMap prog 9 gv aH.ba m D
 no:Maps.has D (.string cl)=false
 m1:m < 1000
 afE:aH.ba=ba
 bf:aH.bf=(bf:Int)∧bf≤8
 len:L.length < 1000000000000
 n0:N0≤bu.cb∧N0≤aH.ba
theorem TU{N0:Nat}(B cb ba m:Nat)(n:Int)(bf:Nat)(p:ay)(f1:Option Addr)(f2 f3:Nat)(c1:Option Addr)(c2 c3:Nat)(d:List UInt8)(D:DataW Unit)(fD:Option (Nat×Nat))(w:World)(CR:dQ)(F0:Nat->Prop)(Rr:World->Prop)(hne:p.aq≠[])(hcn:p.aR=true)(hcl:p.aq.length<=1000)(js:w.cell? ⟨B,10,none⟩=some (.map (some ba)))(hM:w.ownsMap prog 9 gv ba m D)(hD:match fD with|none=>Maps.has D (.string p.aq)=false/\Maps.size D<8|some (sp,_)=>D.atKey (.string p.aq) .nil=.lit (.int .i64 ((sp:Nat):Int)))(hF:∀b,F0 b->b<w.heap.size)(hfit:Fit N CR)(hA:fD=none->CR F0 w)(WT:∀W,Below w.heap.size w W->Calls prog 128 #[.pointer (some ⟨B,0,none⟩),.string (bs p.aq)] W λe W'=>e=.returned (.pointer (fD.map λx=>⟨x.2,0,none⟩))/\Below W.heap.size W W')(hcut:∀x,fD=some x->∀W,Below w.heap.size w W->Calls prog 79 #[.pointer (some ⟨B,0,none⟩),.pointer (some ⟨x.2,0,none⟩)] W λe W'=>e=.returned (.tuple #[])/\bG CR F0 W W')(h4:∀kC a,CR kC a->But F0 w a->w.heap.size+2<a.heap.size->(∀b,kC b->F0 b\/w.heap.size+2<b)->∃m4 oL aH aI L bu C,bu.cb=cb/\LC N0 B n bf ba m4 p.aq d oL aH aI L bu C a/\∀w0 w' sb V fQ,But (λg=>g=ba) a w0->H5 w0 B n d {p with fv:=.slice f1 f2 f3,ae:=.slice c1 c2 c3} bf m4 oL aH aI L bu C w' sb V fQ w.heap.size (w.heap.size+1)->Rr w'):Calls prog 90 #[.pointer (some ⟨B,0,none⟩),.pointer (some ⟨cb,0,none⟩),.agg (bw {p with fv:=.slice f1 f2 f3,ae:=.slice c1 c2 c3})] w λe w'=>e=.returned (.tuple #[])/\Rr w':=by
 have hlB:=eH js;simp only at hlB;have JC:=ac λW (hb:Below w.heap.size w W)=>(show W.ownsMap prog 9 gv ba m D by obtain⟨es,cl,k1,k2⟩:=hM;exact⟨es,cl,(hb.block _ (aG k1)).trans k1,k2⟩);have fU:=ac λW (hb:Below w.heap.size w W)=>(hb.cell (p:=⟨B,10,none⟩) hlB).trans js;have yG:∀(W:World)(ty:TypeId),W.ownsMap prog 9 gv ba m D->(Builtin.len_ #[126] ty #[.map (some ba)]).run prog W=.ok (.int .i64 (Maps.size D)) W:=λW ty hW=>hW.len (t:=126) (e:=135) underlying126 ty;have JW:((bs p.aq).toList==[])=false:=by rw[wz,dS];simpa using hne
 have DV:¬((bs p.aq).toList=[]):=by rw[wz,dS];exact hne
 have dv:Hid (bw {p with fv:=.slice f1 f2 f3,ae:=.slice c1 c2 c3}=#[.int .i64 p.kind,.bool p.aR,.bool p.will,.int .i64 p.ah,.string (bs p.aq),.bool p.aS,.int .i64 p.code,.bool p.dup,.int .i64 p.qos,.bool p.aF,.string (bs p.ak),.string (bs p.az),.int .i64 p.id,.slice f1 f2 f3,.slice c1 c2 c3]):=rfl;have aa6:=ac hcn;have cv:=ac hF;have jq:=ac hfit;have bO:=ac hA;have abp:=ac WT;have aa9:=ac hcut;have RN:=ac h4;clear hM hne hcn js hF hfit hA WT hcut h4;simp only[bw];cases fD;case' none=>obtain⟨hD,hm⟩:=hD;(have hlk:∀W:World,W.ownsMap prog 9 gv ba m D->(Instr.lookup 126 (.map (some ba)) (.string (bs p.aq)) false).run prog W=.ok (.pointer none) W:=λW hW=>by obtain⟨v,ps,hrun,hv⟩:=hW.lookup (t:=126) (e:=135) xo underlying126 (EM _) (zd:=.nil) (zp:=[]) rfl (Av p.aq hcl);rw[atKey_none hD]at hv;obtain rfl:=Qt hv;exact hrun);(have h8:¬(8:Int)<=(Maps.size D:Int):=by omega);clear hD hm
 case' some=>rename_i x;obtain⟨sp,adU⟩:=x;(have hlk:∀W:World,W.ownsMap prog 9 gv ba m D->(Instr.lookup 126 (.map (some ba)) (.string (bs p.aq)) false).run prog W=.ok (.pointer (some ⟨sp,0,none⟩)) W:=λW hW=>by obtain⟨v,ps,hrun,hv⟩:=hW.lookup (t:=126) (e:=135) xo underlying126 (EM _) (zd:=.nil) (zp:=[]) rfl (Av p.aq hcl);rw[hD]at hv;rw[Qu hv]at hrun;exact hrun);clear hD
 all_goals go_enter func90,ntmps90;refine mq λMs FT=>?_;have wH:=ac FT;clear FT;go_wp2_with fail;refine wH.aa _ _ ?_;clear wH Ms;obtain⟨W3,hW3⟩:∃W3,W3=((w.alloc (.cells #[.pointer (some ⟨B,0,none⟩)] 55)).alloc (.cells #[.pointer (some ⟨cb,0,none⟩)] 124)).alloc (.cells #[.int .i64 p.kind,.bool p.aR,.bool p.will,.int .i64 p.ah,.string (bs p.aq),.bool p.aS,.int .i64 p.code,.bool p.dup,.int .i64 p.qos,.bool p.aF,.string (bs p.ak),.string (bs p.az),.int .i64 p.id,.slice f1 f2 f3,.slice c1 c2 c3] 36):=⟨_,rfl⟩;rw[<-hW3];obtain⟨g1,g2,g3,g4⟩:=TH w B cb _ W3 hW3;clear hW3;have iC:W3.cell? ⟨w.heap.size,0,none⟩=some (.pointer (some ⟨B,0,none⟩)):=ar g1.bx rfl;have gH:W3.cell? ⟨w.heap.size+1+1,4,none⟩=some (.string (bs p.aq)):=ar g2 rfl;have js:W3.cell? ⟨B,10,none⟩=some (.map (some ba)):=fU.aa _ g3;have VR:=JC.aa _ g3;(have Ol:W3.drew.ownsMap prog 9 gv ba m D:=by obtain⟨es,cl,k1,k2⟩:=VR;exact⟨es,cl,k1,k2⟩);have E1:=ac g1;have G2:=ac g2;have ql:=ac g3;clear g1 g2 g3;refine mq λvq nr=>?_;have gJ:=ac nr;clear nr;go_wp2_with fail;refine gJ.aa _ _ ?_;clear gJ vq;refine mq λzx nt=>?_;have fA:=ac nt;clear nt;refine mq λMt FU=>?_;have qw:=ac FU;clear FU;(first|(have hnil:∀W:World,(binOp .eql 135 (.pointer (some ⟨sp,0,none⟩)) (.pointer none)).run prog W=.ok (.bool false) W:=λW=>by kernel_rfl);go_region|go_region_held3(λw'=>w'.cell? ⟨w.heap.size,0,none⟩=some (.pointer (some ⟨B,0,none⟩))/\w'.cell? ⟨B,10,none⟩=some (.map (some ba))/\w'.cell? ⟨w.heap.size+1+1,4,none⟩=some (.string (bs p.aq))/\w'.ownsMap prog 9 gv ba m D) (go_keep) (fail));go_wp2_with fail;refine qw.aa _ _ ?_;clear qw Mt;go_wp2_with fail;refine fA.aa _ _ ?_;clear fA zx hlk yG Ol;refine mq λzx nt=>?_;have fA:=ac nt;clear nt;go_wp2_with fail;have Vm:Below w.heap.size w W3.drew:=ql.aa.drew;refine(abp.aa W3.drew Vm).mono ?_;rintro e w4 ⟨rfl,hB4⟩;have oo:Below W3.heap.size W3 w4:=(aN W3.heap.size W3).drew.trans hB4;have Vr:=ql.aa.trans (oo.mono ql.aa.size);have FH:=ac (E1.aa.below oo);have Ir:=ac ((oo.block _ g4).trans G2.aa);have hs4:=cw g4 oo.size;have kg:=ac Vr;have kf:w4.cell? ⟨w.heap.size,0,none⟩=some (.pointer (some ⟨B,0,none⟩)):=ar FH.aa.bx rfl;clear hB4 oo Vr Vm gH js iC VR;first|have iK:=ac (aa9.aa (sp,adU) rfl w4 kg.aa);go_wp2_with fail;refine iK.aa.mono ?_;rintro e w5 ⟨rfl,fV⟩;have fC:=λb (h1:w.heap.size<=b) (h2:b<w4.heap.size)=>fV.kept (b:=b) h2 (λe=>absurd (cv.aa _ e) (Nat.not_lt.2 h1));have Da:=ac (FH.aa.ah (fC _ (aC _) (by omega)) (fC _ (by omega) (by omega)));have A8:=ac ((fC _ (by omega) hs4).trans Ir.aa);(have Mj:Hid (∃kC,CR kC w5/\But F0 w w5/\w.heap.size+2<w5.heap.size/\∀b,kC b->F0 b\/w.heap.size+2<b):=by obtain⟨kC,k1,k2,k3⟩:=fV;exact⟨kC,k1,(But.of_below kg.aa).trans k2 (λ_ _ e=>e),cw hs4 k2.size,λb e=>(k3 b e).imp id (λe=>cw hs4 e)⟩);clear fV fC iK kf hs4 FH Ir;go_wp2_with fail|obtain⟨w5,ew⟩:∃w5,w5=w4:=⟨_,rfl⟩;(have Mj:Hid (∃kC,CR kC w5/\But F0 w w5/\w.heap.size+2<w5.heap.size/\∀b,kC b->F0 b\/w.heap.size+2<b):=by subst ew;exact⟨F0,jq.aa.below (bO.aa (by simp)) kg.aa,But.of_below kg.aa,hs4,λb e=>ai e⟩);have Da:=ac FH.aa;have A8:=ac Ir.aa;rw[<-ew]at Da A8;clear hs4 FH Ir;go_wp2_with fail;clear kf;rw[<-ew];clear ew
 all_goals refine fA.aa _ _ ?_;clear fA zx;obtain⟨kC,k1,k2,k3,k4⟩:=Mj.aa;obtain⟨m4,oL,aH,aI,L,bu,C,rfl,hpre,hpost⟩:=RN.aa kC w5 k1 k2 k3 k4;(have asq:w5.cell? ⟨w.heap.size+1+1,1,none⟩=some (.bool true):=by rw[<-aa6.aa];exact ar A8.aa rfl);have kf:w5.cell? ⟨w.heap.size,0,none⟩=some (.pointer (some ⟨B,0,none⟩)):=ar Da.aa.bx rfl;have asr:w5.cell? ⟨w.heap.size+1+1,4,none⟩=some (.string (bs p.aq)):=ar A8.aa rfl;have aqa:w5.cell? ⟨B,10,none⟩=some (.map (some aH.ba)):=ar hpre.blk.blk rfl;have jv:=hpre.map;(have VP:w5.drew.ownsMap prog 9 gv aH.ba m4 oL:=by obtain⟨es,cl,k1,k2⟩:=jv;exact⟨es,cl,k1,k2⟩);obtain⟨cQ,arP,jf,XM⟩:=VP.drop (t:=126) (e:=135) xo underlying126 (Av p.aq hcl) 0;rw[Maps.del_of_not_has hpre.no]at jf;(have l9:w5.grownBy cQ (some aH.ba):=by have:=XM.grown;exact⟨this.os,this.tape,this.output,this.size,this.block⟩);obtain⟨es,cl,hmb,_⟩:=jv;have cH:But (λg=>g=aH.ba) w5 cQ:=But.kV l9 (λb hb=>(iA hb).symm);have jP:∀g o,w5.heap[g]?=some o->(∀es cl,o≠Obj.map es cl)->cQ.heap[g]?=some o:=λg o hg ho=>cH.blk (λe=>by subst e;rw[hmb]at hg;exact ho _ _ (iA hg).symm) hg;have PN:fF cQ B bu.cb w.heap.size (w.heap.size+1):=⟨jP _ _ Da.aa.bx (λ_ _ e=>by cases e),jP _ _ Da.aa.cD (λ_ _ e=>by cases e)⟩;have Pv:=jP _ _ A8.aa (λ_ _ e=>by cases e);(have xj:∀b c t,w5.heap[b]?=some (.cells c t)->b≠aH.ba:=λb c t hb e=>by subst e;rw[hmb]at hb;cases hb);have h5:dn cQ B aH aI L:=hpre.blk.but cH (λg e=>by subst e;refine⟨?_,λo ho e=>?_⟩;(·rintro(e|e);(·exact xj _ _ _ hpre.blk.blk e.symm);·obtain⟨cur,hc⟩:=aU hpre.blk.aa.row e;exact xj _ _ _ hc rfl);·obtain⟨cur,hc⟩:=aU (hpre.blk.aa.cA o ho) e;exact xj _ _ _ hc rfl);have Wl:gT cQ B n bu C:=hpre.aA.but cH (λg hg e=>by subst e;rcases hg with e|hg|e|e|e|e;(·exact xj _ _ _ hpre.aA.blk e.symm);(·obtain⟨cur,hc⟩:=aU (hpre.aA.qb hg.1) hg.2;exact xj _ _ _ hc rfl);(·exact xj _ _ _ hpre.aA.b1.bx e.symm);(·exact xj _ _ _ hpre.aA.b1.cD e.symm);(·exact xj _ _ _ hpre.aA.b2.bx e.symm);·exact xj _ _ _ hpre.aA.b2.cD e.symm);have nR:cQ.cell? ⟨w.heap.size,0,none⟩=some (.pointer (some ⟨B,0,none⟩)):=ar PN.bx rfl;have ass:cQ.cell? ⟨w.heap.size+1+1,4,none⟩=some (.string (bs p.aq)):=ar Pv rfl;have aqb:cQ.cell? ⟨B,10,none⟩=some (.map (some aH.ba)):=ar h5.blk rfl;have L9:=ac (λw' sb V fQ=>hpost cQ w' sb V fQ (hpre.afE▸cH));have abg:=ac (hpre.enc.but cH (λg e=>by subst e;exact hpre.n0.2));have A9:=ac hpre;have acb:=ac PN;have abL:=ac Pv;have oN:=ac h5;have E4:=ac Wl;have abD:=ac jf;clear k1 k2 k3 k4 hpre hpost VP XM l9 hmb cH jP PN Pv xj h5 Wl jf Mj RN Da A8;refine mq λzx nt=>?_;have fA:=ac nt;clear nt;go_wp2_with fail;go_region_held3(λw'=>w'.cell? ⟨w.heap.size,0,none⟩=some (.pointer (some ⟨B,0,none⟩))/\w'.cell? ⟨B,10,none⟩=some (.map (some aH.ba))/\w'.cell? ⟨w.heap.size+1+1,4,none⟩=some (.string (bs p.aq))) (go_keep) (fail);go_wp2_with fail;refine fA.aa _ _ ?_;clear fA zx;refine ad8 (N0:=N0) B w.heap.size (w.heap.size+1) (w.heap.size+1+1) m4 n bf p f1 f2 f3 c1 c2 c3 d oL aH aI L bu C cQ _ abg.aa acb.aa oN.aa E4.aa A9.aa.hel (by rw[dv.aa,abL.aa]) abD.aa A9.aa.no A9.aa.m1 hcl A9.aa.bf.1 A9.aa.bf.2 A9.aa.len A9.aa.n0 ?_ _ _ _ _ _ _ _ _ _ _ _ _ _ _ _ _ _ _ _ _ _ _ _ _ _ _ _ _ _ _ _ _ _ _ _ _ _ _ _ _ _ _ _ _ _ _ _ _ _ _ _ _ _ _ _ _ _ _ _ _ _ _ _ _ _ _ _ _ _ _ _ _ _ _ _ _ _ _ _ _ _ _ _ _ _ _ _ _ _ _ _ _ _ _;intro w' sb V fQ hq;exact⟨rfl,L9.aa w' sb V fQ hq⟩
theorem aei(n:Int)(V:dt)(C:eD):(dB n V C)[22]?=some (.int .i64 (C.bg.getD fg).ah):=by obtain⟨wt,hd,hl⟩:=C;cases hl<;>kernel_rfl
def pB(clock:Int)(C:eD):Bool:=decide (0<(C.bg.getD fg).ah)&&decide (3*(C.bg.getD fg).ah<=2*(clock-C.heard))
theorem amN(cb:Nat)(n clock:Int)(V:dt)(C:eD)(w:World)(h:w.heap[cb]?=some (.cells (dB n V C) 137))(h1:0<=(C.bg.getD fg).ah/\(C.bg.getD fg).ah<=65535)(h2:0<=C.heard)(h3:C.heard<=clock)(h4:clock<=1000000000000000000):Calls prog 107 #[.pointer (some ⟨cb,0,none⟩),.int .i64 clock] w λe w'=>e=.returned (.bool (pB clock C))/\Below w.heap.size w w':=by
 have a1:=ar h (aei n V C);have a2:=ar h (jM n V C).2.2.1;unfold pB;generalize(C.bg.getD fg).ah=cB at *;generalize C.heard=hd at *;have e1:IntKind.i64.wrap (clock-hd)=clock-hd:=by simp[IntKind.wrap,IntKind.bits,IntKind.signed];omega
 have e2:IntKind.i64.wrap (2*(clock-hd))=2*(clock-hd):=by simp[IntKind.wrap,IntKind.bits,IntKind.signed];omega
 have e3:IntKind.i64.wrap (3*cB)=3*cB:=by simp[IntKind.wrap,IntKind.bits,IntKind.signed];omega
 clear h;by_cases hk:0<cB;·by_cases hg:3*cB<=2*(clock-hd);(·go_enter func107,ntmps107;go_wp2;go_ret;refine⟨bq (λb=>Ending.returned (.bool b)) ?_,?_⟩;(·simp[hk,hg]);·exact aN _ _);·go_enter func107,ntmps107;go_wp2;go_ret;refine⟨bq (λb=>Ending.returned (.bool b)) ?_,?_⟩;(·simp[hg]);·exact aN _ _
 ·go_enter func107,ntmps107;go_wp2;go_ret;refine⟨bq (λb=>Ending.returned (.bool b)) ?_,?_⟩;(·simp;omega);·exact aN _ _
theorem anL(B:Nat)(n:Int)(V:dD)(aI:Value)(Dp:Nat->Option Nat)(La:Nat->Bool)(w:World)(J:Nat->dQ)(F0:Nat->Prop)(Rr:Value->World->Prop)(hB:w.heap[B]?=some (.cells (jX V aI) 131))(hn:0<=n/\n<=100000)(hc:0<=V.lY/\V.lY<=1000000000000000000)(hcv:∀k,k<8->V.ae k=.pointer ((Dp k).map λc=>⟨c,0,none⟩))(hfit:∀k,Fit N (J k))(h0:J 0 F0 (w.setCell ⟨B,12,none⟩ (.int .i64 (V.lY+n))))(B6:∀k F a,J k F a->a.cell? ⟨B,12,none⟩=some (.int .i64 (V.lY+n)))(hno:∀k,k<8->Dp k=none->∀F a,J k F a->J (k+1) F a)(XH:∀k cb,k<8->Dp k=some cb->∀F a,J k F a->Calls prog 107 #[.pointer (some ⟨cb,0,none⟩),.int .i64 (V.lY+n)] a λe a'=>e=.returned (.bool (La k))/\Below a.heap.size a a')(hs0:∀k cb,k<8->Dp k=some cb->La k=false->∀F a,J k F a->J (k+1) F a)(hs1:∀k cb,k<8->Dp k=some cb->La k=true->∀F a,J k F a->Calls prog 79 #[.pointer (some ⟨B,0,none⟩),.pointer (some ⟨cb,0,none⟩)] a λe a'=>e=.returned (.tuple #[])/\bG (J (k+1)) F a a')(hT:∀a,bG (J 8) F0 (w.setCell ⟨B,12,none⟩ (.int .i64 (V.lY+n))) a->Calls prog 60 #[.pointer (some ⟨B,0,none⟩)] a λe a'=>∃x c k,e=.returned (.slice x c k)/\Rr (.slice x c k) a'):Calls prog 76 #[.pointer (some ⟨B,0,none⟩),.int .i64 n] w λe w'=>∃x c k,e=.returned (.tuple #[.slice x c k,.int .i64 0])/\Rr (.slice x c k) w':=by
 obtain⟨n0,n1⟩:=hn;obtain⟨k0,k1⟩:=hc;have Dk:w.cell? ⟨B,12,none⟩=some (.int .i64 V.lY):=ar hB rfl;have f12:w.frozen? ⟨B,12,none⟩=false:=cM hB;have hlt:=aG hB;have e1:IntKind.i64.wrap (V.lY+n)=V.lY+n:=by simp[IntKind.wrap,IntKind.bits,IntKind.signed];omega
 have rY:(w.setCell ⟨B,12,none⟩ (.int .i64 (V.lY+n))).heap[B]?=some (.cells (jX {V with lY:=V.lY+n} aI) 131):=by rw[b6 _ hB];rfl
 have v0:=kq rY (show 0<8 by omega);have v1:=kq rY (show 1<8 by omega);have v2:=kq rY (show 2<8 by omega);have v3:=kq rY (show 3<8 by omega);have v4:=kq rY (show 4<8 by omega);have v5:=kq rY (show 5<8 by omega);have v6:=kq rY (show 6<8 by omega);have v7:=kq rY (show 7<8 by omega);simp only[Nat.reduceAdd]at v0 v1 v2 v3 v4 v5 v6 v7;have xI:=ac hcv;have jq:=ac hfit;have dx:=ac h0;have LO:=ac B6;have xO:=ac hno;have abZ:=ac XH;have zo:=ac hs0;have bN:=ac hs1;have mB:=ac hT;clear hB hcv hfit h0 B6 hno XH hs0 hs1 hT rY;go_enter func76,ntmps76;go_wp2_with fail;have hget:∀k,k<8->(#[V.ae 0,V.ae 1,V.ae 2,V.ae 3,V.ae 4,V.ae 5,V.ae 6,V.ae 7]:Array Value)[k]?=some (V.ae k):=λk hk=>by(have:k=0\/k=1\/k=2\/k=3\/k=4\/k=5\/k=6\/k=7:=by omega);rcases this with rfl|rfl|rfl|rfl|rfl|rfl|rfl|rfl<;>rfl
 have HG:=ac hget;clear hget v0 v1 v2 v3 v4 v5 v6 v7 Dk f12 e1 k0 k1;generalize(#[V.ae 0,V.ae 1,V.ae 2,V.ae 3,V.ae 4,V.ae 5,V.ae 6,V.ae 7]:Array Value)=arr at *;generalize w.setCell ⟨B,12,none⟩ (.int .i64 (V.lY+n))=W0 at *;generalize V.lY+n=aqo at *;go_loopw[26] (λi wx=>∃(k:Nat),k<=8/\i=.int .i64 k/\bG (J k) F0 W0 wx) (λi _=>8-(intOf i).toNat);case atStart=>exact⟨0,cm _,rfl,bG.refl dx.aa⟩
 case round=>obtain⟨k,hk,rfl,hW⟩:=hrel;have HW:=ac hW;by_cases kw:k<8;(·have hg:=HG.aa k kw;(have h8:(k:Int)<8:=by omega);rw[xI.aa k kw]at hg;obtain⟨F,hJ,hb,hF⟩:=hW;have Dk:=LO.aa k F wr hJ;have hlr:=eH Dk;simp only at hlr;have iU:=ac hJ;have aB:=ac hb;have cv:=ac hF;clear hJ hb hF;cases hcs:Dp k with|none=>have Cf:=λw=>Hb arr k _ w hg kw;rw[hcs]at Cf;have HN:=ac (xO.aa k kw hcs F wr iU.aa);clear hg hcs;go_wp2;go_roundw;(case rel=>exact⟨k+1,by omega,by go_num,F,HN.aa,aB.aa,cv.aa⟩);case measure=>simp[intOf];omega|some cb=>have Cf:=λw=>Hb arr k _ w hg kw;rw[hcs]at Cf;simp only[uq]at Cf;have jY:=ac (abZ.aa k cb kw hcs F);have abX:=ac (zo.aa k cb kw hcs);have abY:=ac (bN.aa k cb kw hcs);clear hg hcs;go_wp2_with fail;refine(jY.aa _ iU.aa).mono ?_;rintro e w1 ⟨rfl,aW⟩;have Fb:=ac ((jq.aa k).below iU.aa aW);have bD:=ac (aB.aa.trans (But.of_below (F:=λ_=>False) aW) (λ_ _ f=>f.elim));clear aW;cases hs:La k with|false=>have HN:=ac (abX.aa hs F w1 Fb.aa);go_wp2;go_roundw;(case rel=>exact⟨k+1,by omega,by go_num,F,HN.aa,bD.aa,cv.aa⟩);case measure=>simp[intOf];omega|true=>have iK:=ac (abY.aa hs F w1 Fb.aa);go_wp2_with fail;refine iK.aa.mono ?_;rintro e w2 ⟨rfl,hW2⟩;have FD:=ac (bG.step bD.aa cv.aa hW2);clear hW2;go_wp2;go_roundw;(case rel=>exact⟨k+1,by omega,by go_num,FD.aa⟩);case measure=>simp[intOf];omega);·(have hkl:k=8:=by omega);subst hkl;have cV:=ac (mB.aa wr hW);clear hW;go_wp2_with fail;refine cV.aa.mono ?_;rintro e w2 ⟨x,c,kk,rfl,hR⟩;have aT:=ac hR;clear hR;go_wp2;go_ret2;exact⟨x,c,kk,rfl,aT.aa⟩
end br
namespace bX
open Go.RowKit aD av aM rd
theorem BJ(h:cG l=.inr (q,n)):0<n/\n<=l.length:=by match l,h with|[],h=>simp[cG]at h|x::r,h=>unfold cG at h;simp only at h;cases hf:jd (x.toNat/16) (x.toNat%16)with|none=>simp[hf]at h|some p=>simp only[hf]at h;cases hl:eA r with|none=>simp[hl]at h|some o=>cases o with|none=>simp[hl]at h|some akE=>obtain⟨n',k⟩:=akE;simp only[hl]at h;by_cases hn:r.length<k+n';(·simp[hn]at h);·rw[au hn]at h;cases hb:cC p ((r.drop k).take n')with|none=>simp[hb]at h|some q'=>simp[hb]at h;obtain⟨_,rfl⟩:=h;simp;omega
abbrev lK:=ay×List (List UInt8×Int)×List Int
section
variable {σ iI:Type} (step:σ→lK→σ×List iI×Bool) (shut:iI)
def pz:Nat->σ->List UInt8->σ×List iI×Option (List UInt8)|0,s,l=>(s,[],some l)|f+1,s,l=>match cG l with| .inl true=>(s,[],some l)| .inl false=>(s,[shut],none)| .inr (q,n)=>match step s q with|(s',o,true)=>(s',o,none)|(s',o,false)=>match pz f s' (l.drop n)with|(s2,o2,r)=>(s2,o++o2,r)
def j5(s:σ)(l:List UInt8):σ×List iI×Option (List UInt8):=pz step shut (l.length+1) s l
theorem Zt:∀(f:Nat)(s:σ)(l:List UInt8)(k:Nat),l.length<f->pz step shut (f+k) s l=pz step shut f s l|0,_,_,_,h=>by omega|f+1,s,l,k,h=>by rw[show f+1+k=(f+k)+1 by omega];unfold pz;cases hd:cG l with|inl b=>cases b<;>rfl|inr qn=>obtain⟨q,n⟩:=qn;obtain⟨h1,h2⟩:=BJ hd;simp only;have hs:∃s' o c,step s q=(s',o,c):=⟨_,_,_,rfl⟩;obtain⟨s',o,c,hs⟩:=hs;rw[hs];cases c with|true=>rfl|false=>simp only;rw[Zt f s' (l.drop n) k (by rw[eX];omega)]
theorem al0(f:Nat)(s:σ)(l:List UInt8)(h:l.length<f):pz step shut f s l=j5 step shut s l:=by unfold j5;rw[show f=(l.length+1)+(f-(l.length+1))by omega];exact Zt step shut (l.length+1) s l _ (by omega)
end
theorem NN(k8:Bool):∀(n:Nat)(st:Option (List UInt8))(acc:List (List UInt8×Int)),aX st<=300->(∀f∈acc,f.1.length<=300)->(gN k8 n st acc).1.length<=acc.length+n/\∀f∈(gN k8 n st acc).1,f.1.length<=300|0,_,_,_,h=>⟨aC _,h⟩|n+1,st,acc,hs,h=>by rw[gN];by_cases hz:aX st=0;(·rw[ax hz];exact⟨by simp only;omega,h⟩);·rw[au hz];have hlt:=Gf k8 st (by omega);(have hf:(gU k8 st).1.1.length<=300:=by(have:(gU k8 st).1.1=(bE st).1:=by unfold gU;split<;>rfl);rw[this];exact bi (EI st) hs);obtain⟨h1,h2⟩:=NN k8 n (gU k8 st).2 (acc++[(gU k8 st).1]) (by omega) (λf hf'=>by rcases mE.1 hf' with h'|h';(·exact h f h');·simp only[jW]at h';subst h';exact hf);refine⟨?_,h2⟩;rw[bT,uk]at h1;omega
theorem apy(so:Bool){st:Option (List UInt8)}(h:aX st<=300):aX (bt so st)<=300:=bi (nO so st) h
structure EZ (p:ay) (fs:List (List UInt8×Int)):Prop where
 kind:1≤p.kind∧p.kind≤14
 qos:p.kind=3→p.qos=0∨p.qos=1∨p.qos=2
 top:p.kind=3→p.ak.length≤300
 id:0≤p.id∧p.id≤65535
 PS:p.kind=3→p.qos=2→1≤p.id
 aJ:∀ f∈fs,f.1.length≤300
 len:fs.length≤300
theorem agk(h:jd k f=some p):(p.kind=3->p.qos=0\/p.qos=1\/p.qos=2)/\p.id=0:=by
 unfold jd at h;split at h;·cases h
 ·split at h;(·rename_i h1 h2;split at h;(·cases h;exact⟨λe=>by simp only at e;omega,rfl⟩);·cases h);·split at h;(·cases h);·rename_i h1 h2 h3;cases h;refine⟨λ_=>?_,rfl⟩;simp only;have:¬2<f/2%4:=λe=>h3 (ai e);omega
theorem TV(p:ay)(st:Option (List UInt8)):(cY p st).1.id=p.id/\(cY p st).1.kind=p.kind:=by unfold cY;simp only;split<;>exact⟨rfl,rfl⟩
theorem ac8{q:ay}(hp:jd k f=some p)(hl:l.length<=300)(h:cC p l=some (q,gs,ds)):EZ q gs:=by
 obtain⟨hk1,hk2,_⟩:=UY hp;obtain⟨hq,hid⟩:=agk hp;unfold cC at h;split at h;·rename_i hend;simp only[lT,Prod.mk.injEq]at h;obtain⟨rfl,rfl,rfl⟩:=h;have hls:aX (some l)<=300:=hl;have hn:=Hr (some l);unfold fc at hend⊢;split;(·rename_i h1;obtain⟨c1,c2⟩:=TV p (some l);(have hne:(cY p (some l)).1.kind≠3:=by rw[c2,h1];decide);exact⟨by rw[c2];exact⟨hk1,hk2⟩,λe=>(hne e).elim,λe=>(hne e).elim,by rw[c1,hid];decide,λe=>(hne e).elim,(λf hf=>by cases hf),by simp⟩);·rename_i h1;split;(·rename_i h2;(have hne:p.kind≠3:=by rw[h2];decide);exact⟨⟨hk1,hk2⟩,λe=>(hne e).elim,λe=>(hne e).elim,by show 0<=p.id/\p.id<=65535;rw[hid];decide,λe=>(hne e).elim,(λf hf=>by cases hf),by simp⟩);·rename_i h2;split;(·rename_i h3;simp only[au h1,au h2,ax h3]at hend;(have htop:(cx (some l)).1.length<=300:=by show(bE (some l)).1.length<=300;exact bi (EI _) hls);unfold iu at hend⊢;by_cases hq0:0<p.qos;(·simp only[ax hq0]at hend⊢;have bY:=Hr (cx (some l)).2;(have aro:0<(cf (cx (some l)).2).1:=by apply H4;intro hz;(have:(bL (cx (some l)).2).2=none:=by unfold bL;simp only;(have:decide (0<(cf (cx (some l)).2).1)=false:=by simpa using hz);rw[this];rfl);rw[this]at hend;exact hend.2 rfl);exact⟨⟨hk1,hk2⟩,λ_=>hq h3,λ_=>htop,by show 0<=(((cf (cx (some l)).2).1:Nat):Int)/\(((cf (cx (some l)).2).1:Nat):Int)<=65535;omega,λ_ _=>by show 1<=(((cf (cx (some l)).2).1:Nat):Int);omega,(λf hf=>by cases hf),by simp⟩);·simp only[au hq0]at hend⊢;exact⟨⟨hk1,hk2⟩,λ_=>hq h3,λ_=>htop,by show 0<=p.id/\p.id<=65535;rw[hid];decide,λ_ e=>by have:p.qos=2:=e;omega,(λf hf=>by cases hf),by simp⟩);·rename_i h3;(have O7:0<=(((bL (some l)).1:Nat):Int)/\(((bL (some l)).1:Nat):Int)<=65535:=by show 0<=(((cf (some l)).1:Nat):Int)/\(((cf (some l)).1:Nat):Int)<=65535;omega);split;(·exact⟨⟨hk1,hk2⟩,λe=>(h3 e).elim,λe=>(h3 e).elim,O7,λe=>(h3 e).elim,(λf hf=>by cases hf),by simp⟩);·split;(·have ahH:aX (bL (some l)).2<=300:=bi (Kt _) hls;have hw:=apy (decide (0<aX (bL (some l)).2)) ahH;obtain⟨g1,g2⟩:=NN (p.kind==8) (aX (bt (decide (0<aX (bL (some l)).2)) (bL (some l)).2)) (bt (decide (0<aX (bL (some l)).2)) (bL (some l)).2) [] hw (λf hf=>by cases hf);exact⟨⟨hk1,hk2⟩,λe=>(h3 e).elim,λe=>(h3 e).elim,O7,λe=>(h3 e).elim,g2,by simp only[lS]at g1;exact bi g1 (by omega)⟩);·split;(·exact⟨⟨hk1,hk2⟩,λe=>(h3 e).elim,λe=>(h3 e).elim,O7,λe=>(h3 e).elim,(λf hf=>by cases hf),by simp⟩);·exact⟨⟨hk1,hk2⟩,λe=>(h3 e).elim,λe=>(h3 e).elim,by rw[hid];decide,λe=>(h3 e).elim,(λf hf=>by cases hf),by simp⟩
 ·cases h
theorem Ua(h:cG l=.inr (q,n)):∃x r p m k,l=x::r/\jd (x.toNat/16) (x.toNat%16)=some p/\eA r=some (some (m,k))/\k+m<=r.length/\cC p ((r.drop k).take m)=some q/\n=1+k+m:=by
 unfold cG at h;split at h;·cases h
 ·rename_i x r;split at h;(·cases h);·rename_i p hp;split at h;(·cases h);(·cases h);·rename_i m k hm;split at h;(·cases h);·rename_i hlen;split at h;(·cases h);·rename_i q' hq;injection h with h;injection h with h h';subst h h';exact⟨x,r,p,m,k,rfl,hp,hm,by omega,hq,rfl⟩
theorem Jg(h:cG l=.inr ((p,fs,cs),n)):EZ p fs:=by obtain⟨x,r,p0,m,k,_,h2,h3,_,h5,_⟩:=Ua h;exact ac8 h2 (by rw[dY];have:=(Ax h3).1;omega) h5
end bX
namespace br
open Go.RowKit aD av aM Go.Maps
theorem aer(B cb:Nat)(p:ay)(w:World)(R:Ending->World->Prop)(hne:p.aq=[])(aQ:∃a b c,p.fv=.slice a b c)(hcv:∃a b c,p.ae=.slice a b c)(hK:∀w',Below w.heap.size w w'->Calls prog 127 #[.pointer (some ⟨B,0,none⟩),.pointer (some ⟨cb,0,none⟩),.int .i64 2] w' λe w''=>e=.returned (.tuple #[])/\R e w''):Calls prog 90 #[.pointer (some ⟨B,0,none⟩),.pointer (some ⟨cb,0,none⟩),.agg (bw p)] w λe w''=>e=.returned (.tuple #[])/\R e w'':=by
 obtain⟨f1,f2,f3,aQ⟩:=aQ;obtain⟨c1,c2,c3,hcv⟩:=hcv;have DV:(bs p.aq).toList=[]:=by rw[wz,dS];exact hne
 have JW:((bs p.aq).toList==[])=true:=by rw[DV];rfl
 have HK:=ac hK;clear hK hne;simp only[bw,aQ,hcv];go_enter func90,ntmps90;refine mq λMs FT=>?_;have wH:=ac FT;clear FT;go_wp2_with fail;refine wH.aa _ _ ?_;clear wH Ms;obtain⟨W3,hW3⟩:∃W3,W3=((w.alloc (.cells #[.pointer (some ⟨B,0,none⟩)] 55)).alloc (.cells #[.pointer (some ⟨cb,0,none⟩)] 124)).alloc (.cells #[.int .i64 p.kind,.bool p.aR,.bool p.will,.int .i64 p.ah,.string (bs p.aq),.bool p.aS,.int .i64 p.code,.bool p.dup,.int .i64 p.qos,.bool p.aF,.string (bs p.ak),.string (bs p.az),.int .i64 p.id,.slice f1 f2 f3,.slice c1 c2 c3] 36):=⟨_,rfl⟩;rw[<-hW3];obtain⟨g1,g2,g3,g4⟩:=TH w B cb _ W3 hW3;clear hW3;have iC:W3.cell? ⟨w.heap.size,0,none⟩=some (.pointer (some ⟨B,0,none⟩)):=ar g1.bx rfl;have kr:W3.cell? ⟨w.heap.size+1,0,none⟩=some (.pointer (some ⟨cb,0,none⟩)):=ar g1.cD rfl;have gH:W3.cell? ⟨w.heap.size+1+1,4,none⟩=some (.string (bs p.aq)):=ar g2 rfl;have CU:=ac (HK.aa _ g3);clear g1 g2 g3;go_wp2_with fail;refine CU.aa.mono ?_;rintro e w1 ⟨rfl,hR⟩;have aT:=ac hR;clear hR;go_wp2;refine dJ (v:=.tuple #[]) (by simp[results,results90]) rfl ?_;exact⟨rfl,aT.aa⟩
end br
namespace bX
open Go.RowKit aD av aM rd b7
theorem YW{st:Option (List UInt8)}(h:(bo st).2≠none):st≠none/\aX st=1+aX (bo st).2:=by match st,h with|some (x::r),_=>exact⟨by simp,by simp[bo,aX];omega⟩|some [],h=>exact absurd rfl h|none,h=>exact absurd rfl h
theorem YU{st:Option (List UInt8)}(h:(cf st).2≠none):st≠none/\aX st=2+aX (cf st).2:=by have h:(bo (bo st).2).2≠none:=h;obtain⟨h1,h2⟩:=YW h;obtain⟨h3,h4⟩:=YW h1;exact⟨h3,by show _=2+aX (bo (bo st).2).2;omega⟩
theorem aar{st:Option (List UInt8)}(h:(bE st).2≠none):st≠none/\aX st=2+(bE st).1.length+aX (bE st).2:=by
 have h:(gB (cf st).1 (cf st).2).2≠none:=h;have hb:(cf st).2≠none/\aX (cf st).2=(gB (cf st).1 (cf st).2).1.length+aX (gB (cf st).1 (cf st).2).2:=by generalize(cf st).1=n at h⊢;generalize(cf st).2=r at h⊢;unfold gB at h⊢;split at h;(·split at h;(·rename_i l hn;exact⟨by simp,by simp[ax hn,aX];omega⟩);·exact absurd rfl h);·exact absurd rfl h
 obtain⟨h3,h4⟩:=YU hb.1;exact⟨h3,by show _=2+(gB (cf st).1 (cf st).2).1.length+aX (gB (cf st).1 (cf st).2).2;omega⟩
theorem aan{st:Option (List UInt8)}(h:(cx st).2≠none):fZ (cx st).1=true/\aX st=2+(cx st).1.length+aX (cx st).2:=by
 obtain⟨h1,h2⟩:=HP (so:=fZ (bE st).1) h;refine⟨h1,?_⟩;have e:(cx st).2=(bE st).2:=by show bt (fZ (bE st).1) (bE st).2=_;rw[h1];rfl
 rw[e];exact(aar h2).2
structure za (p:ay) (fs:List (List UInt8×Int)):Prop where
 aA:p.kind=1→p.aq.length≤10∧(0≤p.ah∧p.ah≤65535)∧p.ak.length≤300∧(p.will=true→fZ p.ak=true∧p.ak.length+p.az.length≤298)
 ia:p.kind=3→p.qos=0→fZ p.ak=true∧p.ak.length+p.az.length≤298
 aJ:∀ f∈fs,0≤f.2∧f.2≤2
 PS:p.kind=8∨p.kind=10→1≤p.id
 len:fs.length≤298
 one:p.kind=8→fs≠[]
theorem aeu(h:(cY p (some l)).2≠none)(hl:l.length<=300)(hp:p.ak=[]/\p.az=[]):(cY p (some l)).1.aq.length<=10/\(0<=(cY p (some l)).1.ah/\(cY p (some l)).1.ah<=65535)/\(cY p (some l)).1.ak.length<=300/\((cY p (some l)).1.will=true->fZ (cY p (some l)).1.ak=true/\(cY p (some l)).1.ak.length+(cY p (some l)).1.az.length<=298):=by
 have hn:=Hr (gK p (gi (eB (some l)))).2;have hc:∀{st:Option (List UInt8)},bt (mJ (bE (cf (gK p (gi (eB (some l)))).2).2).1) (bE (cf (gK p (gi (eB (some l)))).2).2).2=st->st≠none->(bE (cf (gK p (gi (eB (some l)))).2).2).1.length<=10/\aX st<=300:=λ{st} e hs=>by subst e;obtain⟨h1,h2⟩:=HP hs;unfold mJ at h1;simp only[tS,yr]at h1;refine⟨by omega,bi (nO _ _) ?_⟩;refine bi (HI _) (bi (Hq _) (bi (nO _ _) (bi (Cv _) (bi (nO _ _) (bi (Cv _) (bi (nO _ _) (bi (HI _) hl)))))))
 generalize hS:bt (mJ (bE (cf (gK p (gi (eB (some l)))).2).2).1) (bE (cf (gK p (gi (eB (some l)))).2).2).2=st at hc;unfold cY at h⊢;simp only[hS]at h⊢;by_cases hw:(gK p (gi (eB (some l)))).1.will=true;·simp only[ax hw]at h⊢;obtain⟨h1,h2⟩:=aar h;obtain⟨h3,h4⟩:=aan h1;(have h5:st≠none:=λe=>by rw[e]at h1;exact h1 aam);obtain⟨h6,h7⟩:=hc rfl h5;exact⟨h6,⟨by omega,by omega⟩,by omega,λ_=>⟨h3,by omega⟩⟩
 ·simp only[au hw]at h⊢;obtain⟨h6,h7⟩:=hc rfl h;have e1:(gK p (gi (eB (some l)))).1.ak=[]:=hp.1;exact⟨h6,⟨by omega,by omega⟩,by rw[e1];exact cm _,λe=>absurd e hw⟩
theorem UE(k8:Bool):∀(n:Nat)(st:Option (List UInt8))(acc:List (List UInt8×Int)),aX (gN k8 n st acc).2=0/\(gN k8 n st acc).2≠none->(∀f∈acc,0<=f.2/\f.2<=2)->(st≠none/\acc.length<=(gN k8 n st acc).1.length/\(0<n->0<aX st->acc.length<(gN k8 n st acc).1.length))/\∀f∈(gN k8 n st acc).1,0<=f.2/\f.2<=2|0,_,_,hs,h=>⟨⟨hs.2,aC _,λe=>absurd e (by omega)⟩,h⟩|n+1,st,acc,hs,h=>by rw[gN]at hs⊢;by_cases hz:aX st=0;(·rw[ax hz]at hs⊢;exact⟨⟨hs.2,aC _,λ_ e=>absurd e (by omega)⟩,h⟩);·rw[au hz]at hs⊢;(have key:(gU k8 st).2≠none->0<=(gU k8 st).1.2/\(gU k8 st).1.2<=2:=λhn=>by unfold gU at hn⊢;cases k8 with|false=>simp only[kB,iO];exact⟨by decide,by decide⟩|true=>simp only[gh]at hn⊢;have:=(HP hn).1;simp only[yr]at this;omega);(have h0:(gU k8 st).2≠none:=by intro e;(have:∀n acc,(gN k8 n none acc).2=none:=λn=>by induction n with|zero=>exact λ_=>rfl|succ n ih=>exact λacc=>by rw[gN,ax (show aX none=0 from rfl)]);rw[e]at hs;exact hs.2 (this _ _));obtain⟨⟨g1,g2,g3⟩,g4⟩:=UE k8 n (gU k8 st).2 (acc++[(gU k8 st).1]) hs (λf hf=>by rcases mE.1 hf with h'|h';(·exact h f h');·simp only[jW]at h';subst h';exact key h0);rw[bT,uk]at g2;exact⟨⟨λe=>hz (by rw[e];rfl),by omega,λ_ _=>by omega⟩,g4⟩
theorem ac1{q:ay}(hp:jd k f=some p)(hl:l.length<=300)(h:cC p l=some (q,gs,ds)):za q gs:=by
 obtain⟨_,_,_,hid,_,_,uJ,hpl⟩:=NY hp;unfold cC at h;split at h;·rename_i hend;simp only[lT,Prod.mk.injEq]at h;obtain⟨rfl,rfl,rfl⟩:=h;unfold fc at hend⊢;by_cases h1:p.kind=1;(·rw[ax h1]at hend⊢;have c2:=(TV p (some l)).2;have hk:∀n:Int,n≠1->¬(cY p (some l)).1.kind=n:=λn hn e=>hn (by rw[<-e,c2,h1]);exact⟨λ_=>aeu hend.2 hl ⟨uJ,hpl⟩,λe=>absurd e (hk 3 (by decide)),λf hf=>(by cases hf),λe=>(e.elim (λe=>absurd e (hk 8 (by decide))) (λe=>absurd e (hk 10 (by decide)))),by simp,λe=>absurd e (hk 8 (by decide))⟩);·rw[au h1]at hend⊢;by_cases h2:p.kind=2;(·rw[ax h2]at hend⊢;have hk:∀n:Int,n≠2->¬(l4 p (some l)).1.kind=n:=λn hn e=>hn (by rw[<-e];exact h2);exact⟨λe=>absurd e (hk 1 (by decide)),λe=>absurd e (hk 3 (by decide)),λf hf=>(by cases hf),λe=>(e.elim (λe=>absurd e (hk 8 (by decide))) (λe=>absurd e (hk 10 (by decide)))),by simp,λe=>absurd e (hk 8 (by decide))⟩);·rw[au h2]at hend⊢;by_cases h3:p.kind=3;(·rw[ax h3]at hend⊢;(have c2:(iu p (some l)).1.kind=p.kind:=by unfold iu;split<;>rfl);have hk:∀n:Int,n≠3->¬(iu p (some l)).1.kind=n:=λn hn e=>hn (by rw[<-e,c2,h3]);refine⟨λe=>absurd e (hk 1 (by decide)),λ_ hq=>?_,λf hf=>(by cases hf),λe=>(e.elim (λe=>absurd e (hk 8 (by decide))) (λe=>absurd e (hk 10 (by decide)))),by simp,λe=>absurd e (hk 8 (by decide))⟩;(have hq0:¬0<p.qos:=λe=>by unfold iu at hq;simp only[ax e]at hq;omega);unfold iu at hend⊢;simp only[au hq0]at hend⊢;(have h4:(cx (some l)).2≠none:=λe=>by rw[e]at hend;exact hend.2 rfl);obtain⟨h5,h6⟩:=aan h4;refine⟨h5,?_⟩;have h7:(sf (cx (some l)).2).1.length<=aX (cx (some l)).2:=Tp _ _;have:aX (some l)=l.length:=rfl;omega);·rw[au h3]at hend⊢;(have hi:(bL (some l)).2≠none->1<=(((bL (some l)).1:Nat):Int)/\aX (bL (some l)).2<=298:=λe=>by obtain⟨g1,g2⟩:=HP (so:=decide (0<(cf (some l)).1)) e;simp only[yr]at g1;have g3:=(YU g2).2;have g4:aX (bL (some l)).2<=aX (cf (some l)).2:=nO _ _;have:aX (some l)=l.length:=rfl;refine⟨?_,by omega⟩;show 1<=(((cf (some l)).1:Nat):Int);omega);by_cases h4:p.kind=8\/p.kind=10;(·(have h4':¬(p.kind=4\/p.kind=5\/p.kind=6\/p.kind=7\/p.kind=11):=by omega);rw[au h4',ax h4]at hend⊢;have hend:aX (gN (p.kind==8) (aX (bt (decide (0<aX (bL (some l)).2)) (bL (some l)).2)) (bt (decide (0<aX (bL (some l)).2)) (bL (some l)).2) []).2=0/\(gN (p.kind==8) (aX (bt (decide (0<aX (bL (some l)).2)) (bL (some l)).2)) (bt (decide (0<aX (bL (some l)).2)) (bL (some l)).2) []).2≠none:=hend;obtain⟨⟨g1,_,g2⟩,g3⟩:=UE _ _ _ _ hend (λf hf=>by cases hf);obtain⟨g4,g5⟩:=HP g1;simp only[yr]at g4;(have ew:bt (decide (0<aX (bL (some l)).2)) (bL (some l)).2=(bL (some l)).2:=by rw[cZ g4];rfl);obtain⟨g6,g7⟩:=hi g5;have g8:=(NN (p.kind==8) (aX (bt (decide (0<aX (bL (some l)).2)) (bL (some l)).2)) (bt (decide (0<aX (bL (some l)).2)) (bL (some l)).2) [] (by rw[ew];omega) (λf hf=>by cases hf)).1;rw[ew]at g2 g8;refine⟨λe=>absurd e h1,λe=>absurd e h3,g3,λ_=>g6,?_,λ_ e=>?_⟩;(·show(gN (p.kind==8) (aX (bt (decide (0<aX (bL (some l)).2)) (bL (some l)).2)) (bt (decide (0<aX (bL (some l)).2)) (bL (some l)).2) []).1.length<=298;rw[ew];simp only[lS]at g8;omega);·have e:(gN (p.kind==8) (aX (bt (decide (0<aX (bL (some l)).2)) (bL (some l)).2)) (bt (decide (0<aX (bL (some l)).2)) (bL (some l)).2) []).1=[]:=e;rw[ew]at e;have:=g2 g4 g4;rw[e]at this;simp at this);·have hk:¬p.kind=8:=λe=>h4 (ai e);split;(·exact⟨λe=>absurd e h1,λe=>absurd e h3,λf hf=>(by cases hf),λe=>absurd e h4,by simp,λe=>absurd e hk⟩);·split;(·exact⟨λe=>absurd e h1,λe=>absurd e h3,λf hf=>(by cases hf),λe=>absurd e h4,by simp,λe=>absurd e hk⟩);·exact⟨λe=>absurd e h1,λe=>absurd e h3,λf hf=>(by cases hf),λe=>absurd e h4,by simp,λe=>absurd e hk⟩
 ·cases h
theorem Jf(h:cG l=.inr ((p,fs,cs),n)):za p fs:=by obtain⟨x,r,p0,m,k,_,h2,h3,_,h5,_⟩:=Ua h;exact ac1 h2 (by rw[dY];have:=(Ax h3).1;omega) h5
end bX
namespace br
open Go.RowKit aD av aM Go.Maps cB
theorem acJ(B m sb:Nat)(aq:List UInt8)(D:DataW Unit)(aH:dD)(aI:Value)(L:List (aP×Value))(V:eK)(S:eY)(x:Nat×Nat)(w:World)(h:dn w B aH aI L)(hM:w.ownsMap prog 9 gv aH.ba m D)(hcl:aq.length<=1000)(hD:D.atKey (.string aq) .nil=.lit (.int .i64 (sb:Int)))(hH:Maps.has D (.string aq)=true)(hs:cK w sb V S)(hx:V.snd=some x):Calls prog 29 #[.pointer (some ⟨B,0,none⟩),.string (bs aq)] w λe w'=>e=.returned (uN true S)/\Below w.heap.size w w':=by
 have js:w.cell? ⟨B,10,none⟩=some (.map (some aH.ba)):=ar h.blk rfl;have hlk:∀W:World,W.ownsMap prog 9 gv aH.ba m D->(Instr.lookup 126 (.map (some aH.ba)) (.string (bs aq)) true).run prog W=.ok (.tuple #[.pointer (some ⟨sb,0,none⟩),.bool true]) W:=λW hW=>by obtain⟨v,ps,hrun,hv⟩:=hW.look_ok (t:=126) (e:=135) xo underlying126 (EM _) (zd:=.nil) (zp:=[]) rfl (Av aq hcl);rw[hD]at hv;obtain rfl:=Qu hv;rw[hH]at hrun;exact hrun
 obtain⟨es,cl,hmb⟩:=mV hM;have hlm:=aG hmb;have hlB:=aG h.blk;have jY:=ac λw' (hb:Below w.heap.size w w')=>ams sb V S x w' (hs.below hb) hx;have fk:=ac λw' (hb:Below w.heap.size w w')=>q7 hM (hb.block _ hlm);clear h hs hM hmb;unfold uN at *;go_enter func29,ntmps29;go_wp2;have bK:=cj w (.cells #[.bool false,.bool false,.int .i64 0,.int .i64 0,.int .i64 0] 80);have aW:=(aN w.heap.size w).alloc (aC _) (.cells #[.bool false,.bool false,.int .i64 0,.int .i64 0,.int .i64 0] 80);generalize w.alloc (.cells #[.bool false,.bool false,.int .i64 0,.int .i64 0,.int .i64 0] 80)=W1 at *;rw[hlk _ (fk.aa _ aW)];go_wp2_with fail;refine(jY.aa _ aW).mono ?_;rintro e w2 ⟨rfl,cJ⟩;have bY:=(cJ.block _ (aG bK)).trans bK;have Vl:=aW.trans (cJ.mono aW.size);have d0:w2.cell? ⟨w.heap.size,0,none⟩=some (.bool false):=ar bY rfl;have d1:w2.cell? ⟨w.heap.size,1,none⟩=some (.bool false):=ar bY rfl;have d2:w2.cell? ⟨w.heap.size,2,none⟩=some (.int .i64 0):=ar bY rfl;have d3:w2.cell? ⟨w.heap.size,3,none⟩=some (.int .i64 0):=ar bY rfl;have d4:w2.cell? ⟨w.heap.size,4,none⟩=some (.int .i64 0):=ar bY rfl;have Nt:∀i,w2.frozen? ⟨w.heap.size,i,none⟩=false:=λi=>cM bY;have hl2:=aG bY;have bp:=ac Vl;clear bK aW cJ bY Vl hlk js;go_wp2_with fail;obtain⟨W5,fV⟩:∃W5,W5=((((w2.setCell ⟨w.heap.size,0,none⟩ (.bool true)).setCell ⟨w.heap.size,1,none⟩ (.bool true)).setCell ⟨w.heap.size,2,none⟩ (.int .i64 (S.bn.length:Int))).setCell ⟨w.heap.size,3,none⟩ (.int .i64 (S.waiting.length:Int))).setCell ⟨w.heap.size,4,none⟩ (.int .i64 (S.under.length:Int)):=⟨_,rfl⟩;have ed:Below w.heap.size w W5:=by rw[fV];exact((((bp.aa.setCell (aC _) _).setCell (aC _) _).setCell (aC _) _).setCell (aC _) _).setCell (aC _) _
 have m0:W5.cell? ⟨w.heap.size,0,none⟩=some (.bool true):=by rw[fV];exact so (by decide) (so (by decide) (so (by decide) (so (by decide) (ss d0))))
 have m1:W5.cell? ⟨w.heap.size,1,none⟩=some (.bool true):=by rw[fV];exact so (by decide) (so (by decide) (so (by decide) (ss (so (by decide) d1))))
 have m2:W5.cell? ⟨w.heap.size,2,none⟩=some (.int .i64 (S.bn.length:Int)):=by rw[fV];exact so (by decide) (so (by decide) (ss (so (by decide) (so (by decide) d2))))
 have m3:W5.cell? ⟨w.heap.size,3,none⟩=some (.int .i64 (S.waiting.length:Int)):=by rw[fV];exact so (by decide) (ss (so (by decide) (so (by decide) (so (by decide) d3))))
 have m4:W5.cell? ⟨w.heap.size,4,none⟩=some (.int .i64 (S.under.length:Int)):=by rw[fV];exact ss (so (by decide) (so (by decide) (so (by decide) (so (by decide) d4))))
 rw[<-fV];refine dJ (v:=.agg #[.bool true,.bool true,.int .i64 (S.bn.length:Int),.int .i64 (S.waiting.length:Int),.int .i64 (S.under.length:Int)]) (by simp[results,results29,go_sem,m0,m1,m2,m3,m4]) rfl ⟨rfl,ed⟩
end br
end Go.Proofs.YtnmfmoimjkoieaaGreatDoor
