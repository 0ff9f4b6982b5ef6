import Derived.Test.YtnmfmoimjkoieaaGreatDoorF06
import Derived.Test.YtnmfmoimjkoieaaGreatDoorF08
import Derived.Laws.EntriesVeiled
import Derived.StillTailTactics
set_option maxHeartbeats 25600000
set_option maxRecDepth 100000
set_option linter.all false
namespace Go.Proofs.YtnmfmoimjkoieaaGreatDoor
open Go.Proofs.Tryz
variable{w w' w0 W:World}{g k sb b B cb x y af C:Nat}{n:Int}{l:List br.lV}{F:Nat->Prop}{aI:Value}{fn:Func}{P:Ending->World->Prop}{Q:Exit->Act->World->Prop}{a:Act}{p q:aM.ay}{tmps:Array Value}
namespace br
open Go.RowKit aD av
theorem af7(u:lV)(bx:Nat)(id:Int)(w:World)(hb:w.cell? ⟨bx,0,none⟩=some (.int .i64 id)):Calls prog 239 #[.agg #[.int .i64 u.id,.int .i64 u.qos,.bool u.rel,.string (bs u.msg.ak),.string (bs u.msg.az),.int .i64 u.msg.qos,.bool u.msg.aF],.pointer (some ⟨bx,0,none⟩)] w λe w'=>e=.returned (.bool (u.id==id))/\Below w.heap.size w w':=by have hlt:=eH hb;simp only at hlt;go_enter func239,ntmps239;go_wp2;go_ret;exact⟨rfl,(aN _ _).alloc (aC _) _⟩
theorem apu{wr:World}{n bj:Nat}(h:w.ownsRow 0 252 7 (.slice (some ⟨g,0,none⟩) n bj) n (l.flatMap wk)){u:lV}(hu:l[k]?=some u)(hn:l.length=n)(hb:wr.heap[g]?=w.heap[g]?):wr.cell? ⟨g,k*7,none⟩=some (.int .i64 u.id)/\wr.cell? ⟨g,k*7+1,none⟩=some (.int .i64 u.qos)/\wr.cell? ⟨g,k*7+2,none⟩=some (.bool u.rel)/\wr.cell? ⟨g,k*7+3,none⟩=some (.string (bs u.msg.ak))/\wr.cell? ⟨g,k*7+4,none⟩=some (.string (bs u.msg.az))/\wr.cell? ⟨g,k*7+5,none⟩=some (.int .i64 u.msg.qos)/\wr.cell? ⟨g,k*7+6,none⟩=some (.bool u.msg.aF):=by
 have hlt:=(dw.1 hu).1;obtain⟨g',e,_,_,_,hc⟩:=fE h (by omega);cases e;have hk:∀j,j<7->∀x,(wk u)[j]?=some x->wr.cell? ⟨g,k*7+j,none⟩=some x:=λj hj x hx=>by rw[eo (w:=w) hb];exact hc _ _ (by rw[apt hu j hj];exact hx)
 exact⟨hk 0 (by omega) _ rfl,hk 1 (by omega) _ rfl,hk 2 (by omega) _ rfl,hk 3 (by omega) _ rfl,hk 4 (by omega) _ rfl,hk 5 (by omega) _ rfl,hk 6 (by omega) _ rfl⟩
theorem aiJ(v:Value)(l:List lV)(id:Int)(bx:Nat)(w:World)(hv:w.ownsRow 0 252 7 v l.length (l.flatMap wk))(dK:w.cell? ⟨bx,0,none⟩=some (.int .i64 id)):Calls prog 238 #[v,.func (.func 239) #[] #[.pointer (some ⟨bx,0,none⟩)]] w λe w'=>e=.returned (.int .i64 (idx (λu=>u.id==id) l))/\Below w.heap.size w w':=by
 obtain⟨q,bj,rfl⟩:=bI hv;have cz:=ac hv;have cR:=ac dK;have cv:=ac λu w hb=>af7 u bx id w hb;clear hv dK;go_enter func238,ntmps238;go_wp2_with fail;go_loopw[8] (λi wx=>∃(k:Nat),k<=l.length/\i=.int .i64 k/\Below w.heap.size w wx/\∀(j:Nat) y,j<k->l[j]?=some y->(y.id==id)=false) (λi _=>l.length-(intOf i).toNat);case atStart=>exact⟨0,cm _,rfl,aN _ _,λj y h=>by omega⟩
 case round=>obtain⟨k,hk,rfl,hB,hno⟩:=hrel;have aB:=ac hB;have HN:=ac hno;clear hB hno;by_cases hlt:k<l.length;(·obtain⟨u,hu⟩:∃u,l[k]?=some u:=⟨_,cS hlt⟩;obtain⟨g,rfl,hg,hkc,hcm,_⟩:=fE cz.aa (by omega);unfold maxLen at hcm;obtain⟨h0,h1,h2,h3,h4,h5,h6⟩:=apu (wr:=wr) cz.aa hu rfl (aB.aa.block _ hg);have HU:=ac hu;clear hu;go_wp2_with fail;refine(cv.aa u wr (by rw[aB.aa.cell (eH cR.aa)];exact cR.aa)).mono ?_;rintro e w1 ⟨rfl,aW⟩;have bD:=ac (aB.aa.trans (aW.mono aB.aa.size));clear aW;by_cases hp:(u.id==id)=true;(·rw[hp];go_wp2;go_ret;exact⟨by rw[X6 HU.aa hp HN.aa];rfl,bD.aa⟩);·(have hp':(u.id==id)=false:=by simpa using hp);rw[hp'];have dv:=ac hp';clear hp hp';go_wp2;go_roundw;(case rel=>exact⟨k+1,by omega,by go_num,bD.aa,λj y hj hy=>by by_cases e:j=k;(·subst e;have:=HU.aa;rw[this]at hy;cases hy;exact dv.aa);·exact HN.aa j y (by omega) hy⟩);case measure=>simp[intOf];omega);·go_wp2;go_ret;exact⟨by rw[X5 (λj x hj=>HN.aa j x (by have:=(dw.1 hj).1;omega) hj)];rfl,aB.aa⟩
theorem af8(sb:Nat)(oG:Value)(l:List lV)(id:Int)(w:World)(hs:w.cell? ⟨sb,5,none⟩=some oG)(hv:w.ownsRow 0 252 7 oG l.length (l.flatMap wk)):Calls prog 210 #[.pointer (some ⟨sb,0,none⟩),.int .i64 id] w λe w'=>e=.returned (.int .i64 (idx (λu=>u.id==id) l))/\Below w.heap.size w w':=by have hlt:=eH hs;simp only at hlt;have c:=ac λw' (hB:Below w.heap.size w w') (hx:w'.cell? ⟨w.heap.size,0,none⟩=some (.int .i64 id))=>aiJ oG l id w.heap.size w' (bM hv (λb hb=>by obtain⟨cur,hc⟩:=aU hv hb;exact hB.block b (aG hc))) hx;have aB:=ac λo=>(aN w.heap.size w).alloc (aC _) o;clear hv;go_enter func210,ntmps210;go_wp2_with fail;refine(c.aa _ (aB.aa _) (BH _ _ _ rfl)).mono ?_;rintro e w1 ⟨rfl,aW⟩;have bD:=ac ((aB.aa _).trans (aW.mono (by simp)));clear aW;go_wp2;go_ret;exact⟨rfl,bD.aa⟩
def qC(id:Int):Int:=id%65535+1
def busy(l:List lV)(id:Int):Bool:=l.any (λu=>u.id==id)
def KM(l:List lV):Nat->Int->Int|0,id=>id|n+1,id=>if busy l id then KM l n (qC id)else id
def Ho(last:Int)(l:List lV):Int:=KM l (l.length+1) (qC last)
def nth(last:Int):Nat->Int|0=>qC last|k+1=>qC (nth last k)
theorem akC{last:Int}(n k i:Nat)(h:∀j,i<=j->j<i+k->busy l (nth last j)=true)(hk:busy l (nth last (i+k))=false)(hn:k<n):KM l n (nth last i)=nth last (i+k):=by induction n generalizing k i with|zero=>omega|succ n ih=>unfold KM;cases k with|zero=>simp only[mF]at hk⊢;simp[hk]|succ k=>rw[ax (h i (aC _) (by omega))];have:=ih k (i+1) (λj h1 h2=>h j (by omega) (by omega)) (by rw[<-hk];congr 2;omega) (by omega);rw[show i+(k+1)=i+1+k by omega,<-this];rfl
theorem Qd(last:Int)(k:Nat):nth last k=(last+k)%65535+1:=by induction k with|zero=>simp[nth,qC]|succ k ih=>unfold nth;rw[ih];unfold qC;omega
theorem akN(last:Int)(k:Nat):1<=nth last k/\nth last k<=65535:=by rw[Qd];omega
theorem akM{last:Int}{i j:Nat}(hi:i<65535)(hj:j<65535)(e:nth last i=nth last j):i=j:=by rw[Qd,Qd]at e;omega
theorem alC{f:Nat->Int}(n:Nat):∀(l:List Int),(∀i j,i<n->j<n->f i=f j->i=j)->(∀i,i<n->f i∈l)->n<=l.length:=by induction n with|zero=>exact λl _ _=>cm _|succ n ih=>intro l hinj hm;have h1:n<=(l.erase (f n)).length:=ih _ (λi j hi hj=>hinj i j (by omega) (by omega)) (λi hi=>(List.mem_erase_of_ne (λe=>by have:=hinj i n (by omega) (by omega) e;omega)).2 (hm i (by omega)));rw[List.length_erase_of_mem (hm n (by omega))]at h1;have:=List.length_pos_of_mem (hm n (by omega));omega
theorem adj{id:Int}(h:busy l id=true):id∈l.map (·.id):=by unfold busy at h;rw[List.any_eq_true]at h;obtain⟨u,hu,e⟩:=h;exact i7.2 ⟨u,hu,by simpa using e⟩
theorem adi{last:Int}(k:Nat)(hk:k<=65535)(h:∀j,j<k->busy l (nth last j)=true):k<=l.length:=by have:=alC (f:=nth last) k (l.map (·.id)) (λi j hi hj=>akM (by omega) (by omega)) (λi hi=>adj (h i hi));simpa using this
end br
namespace br
open Go.RowKit aD av aM
def ct(l:List (List UInt8×Int)):List Value:=l.flatMap λf=>[.string (bs f.1),.int .i64 f.2]
def eI(l:List UInt8):List Value:=l.map λx=>.int .u8 (x.toNat:Int)
structure eY where
 bn:List (List UInt8×Int)
 known:List Int
 window:Int
 queue:Nat
 waiting:List bh
 under:List lV
 last:Int
def ft(m:bh):Value:=.agg #[.string (bs m.ak),.string (bs m.az),.int .i64 m.qos,.bool m.aF]
structure eK where
 fv:Value
 kb:Nat
 snd:Option (Nat×Nat)
 cb:Nat
 oG:Value
def wj:Option (Nat×Nat)->Value|none=>.nilFunc|some (x,y)=>.func (.func 133) #[] #[.pointer (some ⟨x,0,none⟩),.pointer (some ⟨y,0,none⟩)]
def K4(V:eK)(S:eY):Array Value:=#[V.fv,.map (some V.kb),wj V.snd,.int .i64 S.window,.chan (some V.cb),V.oG,.int .i64 S.last]
structure cK (w:World) (sb:Nat) (V:eK) (S:eY):Prop where
 blk:w.heap[sb]?=some (.cells (K4 V S) 188)
 aJ:w.ownsRow 0 95 2 V.fv S.bn.length (ct S.bn)
 und:w.ownsRow 0 252 7 V.oG S.under.length (S.under.flatMap wk)
 uM:∃ D:DataW Unit,w.ownsMap prog 3 (unitElem (H:=Unit)) V.kb S.known.length D∧∀ id:Int,(Lit.int .i64 id).wf=true→Maps.has D (.int .i64 id)=S.known.contains id
 rL:∃ s r,w.heap[V.cb]?=some (.chan S.queue (S.waiting.map ft).toArray false s r false)
def eK.has(V:eK)(sb b:Nat):Prop:=b=sb\/V.fv.ownBlock=some b\/b=V.kb\/b=V.cb\/V.oG.ownBlock=some b
theorem cK.ah{V:eK}{S:eY}(h:cK w sb V S)(hk:∀b,V.has sb b->w'.heap[b]?=w.heap[b]?):cK w' sb V S:=⟨(hk sb (ai rfl)).trans h.blk,bM h.aJ (λb hb=>hk b (ag (ai hb))),bM h.und (λb hb=>hk b (ag (ag (ag (ag hb))))),by obtain⟨D,⟨es,clock,hb,h1,h2,h3⟩,h4⟩:=h.uM;exact⟨D,⟨es,clock,(hk _ (ag (ag (ai rfl)))).trans hb,h1,h2,h3⟩,h4⟩,by obtain⟨s,r,hb⟩:=h.rL;exact⟨s,r,(hk _ (ag (ag (ag (ai rfl))))).trans hb⟩⟩
theorem But.drew(h:But F w w'):But F w w'.drew:=⟨h.os,h.tape,h.output,h.size,h.ah⟩
theorem cK.drew{V:eK}{S:eY}(h:cK w sb V S):cK w.drew sb V S:=h.ah (λ_ _=>rfl)
theorem cK.lt{V:eK}{S:eY}(h:cK w sb V S)(hb:V.has sb b):b<w.heap.size:=by
 rcases hb with rfl|hb|rfl|rfl|hb;·exact aG h.blk
 ·obtain⟨cur,hc⟩:=aU h.aJ hb;exact aG hc
 ·obtain⟨D,⟨es,clock,hb,_⟩,_⟩:=h.uM;exact aG hb
 ·obtain⟨s,r,hb⟩:=h.rL;exact aG hb
 ·obtain⟨cur,hc⟩:=aU h.und hb;exact aG hc
theorem cK.below{V:eK}{S:eY}(h:cK w sb V S)(hb:Below w.heap.size w w'):cK w' sb V S:=h.ah (λb hx=>hb.block b (h.lt hx))
theorem cK.own_ne{V:eK}{S:eY}(h:cK w sb V S):V.fv.ownBlock≠some sb/\V.oG.ownBlock≠some sb/\V.kb≠sb/\V.cb≠sb/\V.kb≠V.cb/\(∀b,V.fv.ownBlock=some b->V.oG.ownBlock≠some b/\b≠V.kb/\b≠V.cb)/\(∀b,V.oG.ownBlock=some b->b≠V.kb/\b≠V.cb):=by
 obtain⟨D,⟨es,clock,hk,_⟩,_⟩:=h.uM;obtain⟨s,r,hc⟩:=h.rL;refine⟨λe=>?_,λe=>?_,λe=>?_,λe=>?_,λe=>?_,λb hb=>⟨λe=>?_,λe=>?_,λe=>?_⟩,λb hb=>⟨λe=>?_,λe=>?_⟩⟩;·obtain⟨cur,hf⟩:=aU h.aJ e;have:=h.blk;rw[hf]at this;simp at this
 ·obtain⟨cur,hf⟩:=aU h.und e;have:=h.blk;rw[hf]at this;simp at this
 ·have:=h.blk;rw[<-e,hk]at this;simp at this
 ·have:=h.blk;rw[<-e,hc]at this;simp at this
 ·rw[e,hc]at hk;simp at hk
 ·obtain⟨cur,hf⟩:=aU h.aJ hb;obtain⟨aqt,hf2⟩:=aU h.und e;rw[hf2]at hf;simp at hf
 ·obtain⟨cur,hf⟩:=aU h.aJ hb;rw[e,hk]at hf;simp at hf
 ·obtain⟨cur,hf⟩:=aU h.aJ hb;rw[e,hc]at hf;simp at hf
 ·obtain⟨cur,hf⟩:=aU h.und hb;rw[e,hk]at hf;simp at hf
 ·obtain⟨cur,hf⟩:=aU h.und hb;rw[e,hc]at hf;simp at hf
theorem cK.but{V:eK}{S:eY}(h:cK w sb V S)(hb:But F w w')(hn:∀b,V.has sb b->¬F b):cK w' sb V S:=h.ah (λb hx=>hb.ah b (h.lt hx) (hn b hx))
structure aP where
 conn:Int
 data:List UInt8
 closed:Bool
 deriving DecidableEq
def py(L:List (aP×Value)):List Value:=L.flatMap λo=>[.int .i64 o.1.conn,o.2,.bool o.1.closed]
structure lU (w:World) (v:Value) (L:List (aP×Value)):Prop where
 row:w.ownsRow 0 66 3 v L.length (py L)
 cA:∀ o,o∈L→w.ownsRow 0 5 1 o.2 o.1.data.length (eI o.1.data)
theorem lU.ah{v:Value}{L:List (aP×Value)}(h:lU w v L)(h1:∀b,v.ownBlock=some b->w'.heap[b]?=w.heap[b]?)(h2:∀o b,o∈L->o.2.ownBlock=some b->w'.heap[b]?=w.heap[b]?):lU w' v L:=⟨bM h.row h1,λo ho=>bM (h.cA o ho) (λb hb=>h2 o b ho hb)⟩
theorem lU.nil(w:World):lU w (.slice none 0 0) []:=⟨⟨rfl,ai ⟨rfl,rfl⟩⟩,λ_ h=>by cases h⟩
structure dD where
 win:Int
 bf:Int
 ae:Nat→Value
 ba:Nat
 rv:Value
 lY:Int
def jX(V:dD)(aI:Value):Array Value:=#[.int .i64 V.win,.int .i64 V.bf,V.ae 0,V.ae 1,V.ae 2,V.ae 3,V.ae 4,V.ae 5,V.ae 6,V.ae 7,.map (some V.ba),V.rv,.int .i64 V.lY,aI]
structure dn (w:World) (B:Nat) (V:dD) (aI:Value) (L:List (aP×Value)):Prop where
 blk:w.heap[B]?=some (.cells (jX V aI) 131)
 aa:lU w aI L
def il(B:Nat)(aI:Value)(b:Nat):Prop:=b=B\/aI.ownBlock=some b
structure oa (w:World) (B cb x y:Nat) (n:Int):Prop where
 bx:w.heap[x]?=some (.cells #[.pointer (some ⟨B,0,none⟩)] 55)
 cD:w.heap[y]?=some (.cells #[.pointer (some ⟨cb,0,none⟩)] 124)
 num:∃ cc,w.heap[cb]?=some (.cells cc 137)∧cc[0]?=some (.int .i64 n)
theorem oa.ah(h:oa w B cb x y n)(hx:w'.heap[x]?=w.heap[x]?)(hy:w'.heap[y]?=w.heap[y]?)(hc:w'.heap[cb]?=w.heap[cb]?):oa w' B cb x y n:=⟨hx.trans h.bx,hy.trans h.cD,by obtain⟨cc,h1,h2⟩:=h.num;exact⟨cc,hc.trans h1,h2⟩⟩
theorem oa.below(h:oa w B cb x y n)(hb:Below w.heap.size w w'):oa w' B cb x y n:=h.ah (hb.block _ (aG h.bx)) (hb.block _ (aG h.cD)) (by obtain⟨cc,h1,_⟩:=h.num;exact hb.block _ (aG h1))
def FO(w:World)(B cb:Nat)(n:Int)(snd:Option (Nat×Nat)):Prop:=∀x y,snd=some (x,y)->oa w B cb x y n
theorem cK.apart{V:eK}{S:eY}{aH:dD}{L:List (aP×Value)}(h:cK w sb V S)(k:dn w B aH aI L)(hb:V.has sb b):¬il B aI b:=by
 have key:∀o,w.heap[b]?=some o->(∀c,o≠.cells c 131)->(∀c,o≠.cells c 66)->¬il B aI b:=λo ho h1 h2 hh=>by rcases hh with rfl|hh;(·rw[k.blk]at ho;exact h1 _ (iA ho).symm);·obtain⟨cur,hc⟩:=aU k.aa.row hh;rw[hc]at ho;exact h2 _ (iA ho).symm
 rcases hb with rfl|hb|rfl|rfl|hb;·exact key _ h.blk (λc e=>by simp at e) (λc e=>by simp at e)
 ·obtain⟨cur,hc⟩:=aU h.aJ hb;exact key _ hc (λc e=>by simp at e) (λc e=>by simp at e)
 ·obtain⟨D,⟨es,clock,hb,_⟩,_⟩:=h.uM;exact key _ hb (λc e=>by simp at e) (λc e=>by simp at e)
 ·obtain⟨s,r,hb⟩:=h.rL;exact key _ hb (λc e=>by simp at e) (λc e=>by simp at e)
 ·obtain⟨cur,hc⟩:=aU h.und hb;exact key _ hc (λc e=>by simp at e) (λc e=>by simp at e)
theorem oa.apart{aH:dD}{L:List (aP×Value)}(h:oa w B cb x y n)(k:dn w B aH aI L):¬il B aI x/\¬il B aI y/\¬il B aI cb:=by
 have key:∀b o,w.heap[b]?=some o->(∀c,o≠.cells c 131)->(∀c,o≠.cells c 66)->¬il B aI b:=λb o ho h1 h2 hh=>by rcases hh with rfl|hh;(·rw[k.blk]at ho;exact h1 _ (iA ho).symm);·obtain⟨cur,hc⟩:=aU k.aa.row hh;rw[hc]at ho;exact h2 _ (iA ho).symm
 obtain⟨cc,h1,_⟩:=h.num;exact⟨key _ _ h.bx (λc e=>by simp at e) (λc e=>by simp at e),key _ _ h.cD (λc e=>by simp at e) (λc e=>by simp at e),key _ _ h1 (λc e=>by simp at e) (λc e=>by simp at e)⟩
theorem FO.below{s:Option (Nat×Nat)}(h:FO w B cb n s)(hb:Below w.heap.size w w'):FO w' B cb n s:=λx y e=>(h x y e).below hb
theorem cK.set{V V':eK}{S S':eY}(h:cK w sb V S)(i:Nat)(v:Value)(hc:(K4 V S).setIfInBounds i v=K4 V' S')(h1:V'.fv=V.fv)(h2:V'.kb=V.kb)(h3:V'.cb=V.cb)(h4:V'.oG=V.oG)(e1:S'.bn=S.bn)(e2:S'.known=S.known)(e3:S'.waiting=S.waiting)(e4:S'.under=S.under)(e5:S'.queue=S.queue):cK (w.setCell ⟨sb,i,none⟩ v) sb V' S':=by
 obtain⟨n1,n2,n3,n4,_⟩:=h.own_ne;have hk:∀b,b≠sb->(w.setCell ⟨sb,i,none⟩ v).heap[b]?=w.heap[b]?:=λb hb=>ck _ _ _ _ (λe=>hb e);refine⟨by rw[b6 _ h.blk,hc],?_,?_,?_,?_⟩;·rw[h1,e1];exact bM h.aJ (λb hb=>hk b (λe=>n1 (e▸hb)))
 ·rw[h4,e4];exact bM h.und (λb hb=>hk b (λe=>n2 (e▸hb)))
 ·rw[h2,e2];obtain⟨D,⟨es,clock,hb,k1,k2,k3⟩,k4⟩:=h.uM;exact⟨D,⟨es,clock,(hk _ n3).trans hb,k1,k2,k3⟩,k4⟩
 ·rw[h3,e3,e5];obtain⟨s,r,hb⟩:=h.rL;exact⟨s,r,(hk _ n4).trans hb⟩
theorem YN(w:World):(binOp .neq 132 .nilFunc .nilFunc).run prog w=.ok (.bool false) w:=by kernel_rfl
theorem Qa(f:Fn)(a b:Array Value)(w:World):(binOp .neq 132 (.func f a b) .nilFunc).run prog w=.ok (.bool true) w:=by kernel_rfl
theorem afk(sb:Nat)(V:eK)(S:eY)(w:World)(h:cK w sb V S):Calls prog 140 #[.pointer (some ⟨sb,0,none⟩)] w λe w'=>e=.returned (.tuple #[])/\cK w' sb {V with snd:=none} S/\But (λb=>b=sb) w w':=by have H:=ac h;have c2:w.cell? ⟨sb,2,none⟩=some (wj V.snd):=ar h.blk rfl;have f2:w.frozen? ⟨sb,2,none⟩=false:=cM h.blk;clear h;go_enter func140,ntmps140;go_wp2;go_end0;exact⟨rfl,H.aa.set 2 .nilFunc rfl rfl rfl rfl rfl rfl rfl rfl rfl rfl,But.set (F:=λb=>b=sb) w ⟨sb,2,none⟩ .nilFunc rfl⟩
theorem akr(sb:Nat)(V:eK)(S:eY)(w:World)(h:cK w sb V S):Calls prog 196 #[.pointer (some ⟨sb,0,none⟩)] w λe w'=>e=.returned (.bool (V.snd.isSome&&decide ((S.under.length:Int)<S.window)))/\Below w.heap.size w w':=by have c2:w.cell? ⟨sb,2,none⟩=some (wj V.snd):=ar h.blk rfl;have c3:w.cell? ⟨sb,3,none⟩=some (.int .i64 S.window):=ar h.blk rfl;have c5:w.cell? ⟨sb,5,none⟩=some V.oG:=ar h.blk rfl;obtain⟨q,cap,hq⟩:=bI h.und;rw[hq]at c5;have bK:=YN;have bY:=Qa;clear h hq;cases hs:V.snd with|none=>rw[hs]at c2;simp only[wj]at c2;go_enter func196,ntmps196;go_wp2;go_region;go_wp2;go_ret;exact⟨rfl,(aN _ _).drew⟩|some Rc=>obtain⟨x,y⟩:=Rc;rw[hs]at c2;simp only[wj]at c2;go_enter func196,ntmps196;go_wp2;go_region;go_wp2;go_ret;exact⟨rfl,(aN _ _).drew⟩
def bw(p:ay):Array Value:=#[.int .i64 p.kind,.bool p.aR,.bool p.will,.int .i64 p.ah,.string (bs p.aq),.bool p.aS,.int .i64 p.code,.bool p.dup,.int .i64 p.qos,.bool p.aF,.string (bs p.ak),.string (bs p.az),.int .i64 p.id,p.fv,p.ae]
def fg:ay:=⟨0,false,false,0,[],false,0,false,0,false,[],[],0,.slice none 0 0,.slice none 0 0⟩
def gj(p:ay):bh:=⟨p.ak,p.az,p.qos,p.aF⟩
def AG(m:bh)(qos:Int)(ret:Bool):bh:={m with qos:=min m.qos qos,aF:=ret}
def iG(m:bh)(id:Int):ay:={fg with kind:=3,qos:=m.qos,aF:=m.aF,ak:=m.ak,az:=m.az,id:=id}
theorem YX(p:ay)(w:World):Calls prog 111 #[.agg (bw p)] w λe w'=>e=.returned (.agg #[.string (bs p.ak),.string (bs p.az),.int .i64 p.qos,.bool p.aF])/\Below w.heap.size w w':=by simp only[bw];go_enter func111,ntmps111;go_wp2;refine dJ (v:=.agg #[.string (bs p.ak),.string (bs p.az),.int .i64 p.qos,.bool p.aF]) (by simp[results,results111,go_sem]) rfl ?_;exact⟨rfl,((aN _ _).alloc (aC _) _).alloc (by simp) _⟩
theorem Le(m:bh)(qos:Int)(ret:Bool)(w:World):Calls prog 146 #[.agg #[.string (bs m.ak),.string (bs m.az),.int .i64 m.qos,.bool m.aF],.int .i64 qos,.bool ret] w λe w'=>e=.returned (.agg #[.string (bs m.ak),.string (bs m.az),.int .i64 (min m.qos qos),.bool ret])/\Below w.heap.size w w':=by go_enter func146,ntmps146;go_wp2;refine dJ (v:=.agg #[.string (bs m.ak),.string (bs m.az),.int .i64 (min m.qos qos),.bool ret]) (by simp[results,results146,go_sem]) rfl ?_;exact⟨rfl,((aN _ _).alloc (aC _) _).alloc (by simp) _⟩
theorem Cz(m:bh)(id:Int)(w:World):Calls prog 195 #[.agg #[.string (bs m.ak),.string (bs m.az),.int .i64 m.qos,.bool m.aF],.int .i64 id] w λe w'=>e=.returned (.agg (bw (iG m id)))/\Below w.heap.size w w':=by go_enter func195,ntmps195;go_wp2;refine dJ (v:=.agg (bw (iG m id))) (by simp[results,results195,go_sem,bw,iG,fg,bs]) rfl ?_;exact⟨rfl,((aN _ _).alloc (aC _) _).alloc (by simp) _⟩
end br
namespace br
open Go.RowKit aD av aM Go.Conc
theorem apU(w:World):(zeroValue 206).run prog w=.ok (.agg #[.string ByteArray.empty,.string ByteArray.empty,.int .i64 0,.bool false]) w:=by kernel_rfl
end br
namespace br
open Go.RowKit aD av
def cL(f x y:Nat):Value:=.func (.func f) #[] #[.pointer (some ⟨x,0,none⟩),.pointer (some ⟨y,0,none⟩)]
def Jt(f y:Nat):Value:=.func (.func f) #[] #[.pointer (some ⟨y,0,none⟩)]
def uz(F:Value)(k:Nat):Array Value:=((List.range 15).map λj=>if j<k then F else .nilFunc).toArray
theorem NW(F:Value)(k:Nat):(uz F k).size=15:=by simp[uz]
theorem Js(F:Value)(k j:Nat)(h:j<15):(uz F k)[j]?=some (if j<k then F else .nilFunc):=by simp[uz,h]
theorem agd(F:Value)(k:Nat)(h:k<15):(uz F k).setIfInBounds k F=uz F (k+1):=by
 apply Array.ext_getElem?;intro j;by_cases hj:j<15;·by_cases e:k=j;(·subst e;rw[Js _ _ _ hj,Array.getElem?_setIfInBounds_self_of_lt (by rw[NW];exact h)];simp);·rw[aaI e,Js _ _ _ hj,Js _ _ _ hj];by_cases h1:j<k;(·rw[ax h1,ax (by omega)]);·rw[au h1,au (by omega)]
 ·rw[EQ (by simp[NW];omega),EQ (by simp[NW];omega)]
theorem Hd:(prog.info? 134).map (·.size)=some 15:=by kernel_rfl
theorem Hz(cs:Array Value)(b:Nat)(h:b≠g):(w.setRow g cs).heap[b]?=w.heap[b]?:=by simp only[World.setRow];rw[Array.getElem?_modify,au (λe=>h e.symm)]
theorem QK{c:Array Value}{t:TypeId}(cs:Array Value)(h:w.heap[g]?=some (.cells c t)):(w.setRow g cs).heap[g]?=some (.cells cs t):=by simp only[World.setRow];rw[Array.getElem?_modify,h];simp
theorem QE(hr:fn.results=#[.cell 4 134])(X:World)(tmps:Array Value)(g:Nat)(ht:tmps[4]?.getD undef=.pointer (some ⟨g,0,none⟩)){v0 v1 v2 v3 v4 v5 v6 v7 v8 v9 v10 v11 v12 v13 v14:Value}(h:X.heap[g]?=some (.cells #[v0,v1,v2,v3,v4,v5,v6,v7,v8,v9,v10,v11,v12,v13,v14] 134)):(results fn tmps).run prog X=.ok (.agg #[v0,v1,v2,v3,v4,v5,v6,v7,v8,v9,v10,v11,v12,v13,v14]) X:=by have k0:X.cell? ⟨g,0,none⟩=some v0:=ar h rfl;have k1:X.cell? ⟨g,1,none⟩=some v1:=ar h rfl;have k2:X.cell? ⟨g,2,none⟩=some v2:=ar h rfl;have k3:X.cell? ⟨g,3,none⟩=some v3:=ar h rfl;have k4:X.cell? ⟨g,4,none⟩=some v4:=ar h rfl;have k5:X.cell? ⟨g,5,none⟩=some v5:=ar h rfl;have k6:X.cell? ⟨g,6,none⟩=some v6:=ar h rfl;have k7:X.cell? ⟨g,7,none⟩=some v7:=ar h rfl;have k8:X.cell? ⟨g,8,none⟩=some v8:=ar h rfl;have k9:X.cell? ⟨g,9,none⟩=some v9:=ar h rfl;have k10:X.cell? ⟨g,10,none⟩=some v10:=ar h rfl;have k11:X.cell? ⟨g,11,none⟩=some v11:=ar h rfl;have k12:X.cell? ⟨g,12,none⟩=some v12:=ar h rfl;have k13:X.cell? ⟨g,13,none⟩=some v13:=ar h rfl;have k14:X.cell? ⟨g,14,none⟩=some v14:=ar h rfl;clear h;simp[results,hr,go_sem,ht,k0,k1,k2,k3,k4,k5,k6,k7,k8,k9,k10,k11,k12,k13,k14]
theorem YR(B cb:Nat)(w:World):Calls prog 88 #[.pointer (some ⟨B,0,none⟩),.pointer (some ⟨cb,0,none⟩)] w λe w'=>e=.returned (.agg (uz (cL 126 w.heap.size (w.heap.size+1)) 15))/\Below w.heap.size w w'/\w'.heap[w.heap.size]?=some (.cells #[.pointer (some ⟨B,0,none⟩)] 55)/\w'.heap[w.heap.size+1]?=some (.cells #[.pointer (some ⟨cb,0,none⟩)] 124):=by
 go_enter func88,ntmps88;go_wp2_with fail;have Ul:uz (cL 126 w.heap.size (w.heap.size+1)) 0=#[.nilFunc,.nilFunc,.nilFunc,.nilFunc,.nilFunc,.nilFunc,.nilFunc,.nilFunc,.nilFunc,.nilFunc,.nilFunc,.nilFunc,.nilFunc,.nilFunc,.nilFunc]:=rfl;have Rp:=ac Ul;clear Ul;go_loopw[7] (λi wx=>∃(k:Nat),k<=15/\i=.int .i64 k/\Below w.heap.size w wx/\wx.heap[w.heap.size]?=some (.cells #[.pointer (some ⟨B,0,none⟩)] 55)/\wx.heap[w.heap.size+1]?=some (.cells #[.pointer (some ⟨cb,0,none⟩)] 124)/\(∃c,wx.heap[w.heap.size+1+1]?=some (.cells c 134)/\c.size=15)/\wx.heap[w.heap.size+1+1+1]?=some (.cells (uz (cL 126 w.heap.size (w.heap.size+1)) k) 134)) (λi _=>15-(intOf i).toNat);case atStart=>refine⟨0,by omega,rfl,((((aN _ _).alloc (aC _) _).alloc (by simp) _).alloc (by simp;omega) _).alloc (by simp;omega) _,?_,?_,⟨#[.nilFunc,.nilFunc,.nilFunc,.nilFunc,.nilFunc,.nilFunc,.nilFunc,.nilFunc,.nilFunc,.nilFunc,.nilFunc,.nilFunc,.nilFunc,.nilFunc,.nilFunc],?_,rfl⟩,?_⟩;(·rw[cU _ _ _ (by simp;omega),cU _ _ _ (by simp;omega),cU _ _ _ (by simp)];exact cj _ _);(·rw[cU _ _ _ (by simp),cU _ _ _ (by simp)];have:=cj (w.alloc (.cells #[.pointer (some ⟨B,0,none⟩)] 55)) (.cells #[.pointer (some ⟨cb,0,none⟩)] 124);simpa using this);(·rw[cU _ _ _ (by simp)];have:=cj ((w.alloc (.cells #[.pointer (some ⟨B,0,none⟩)] 55)).alloc (.cells #[.pointer (some ⟨cb,0,none⟩)] 124)) (.cells #[.nilFunc,.nilFunc,.nilFunc,.nilFunc,.nilFunc,.nilFunc,.nilFunc,.nilFunc,.nilFunc,.nilFunc,.nilFunc,.nilFunc,.nilFunc,.nilFunc,.nilFunc] 134);simpa using this);·have:=cj (((w.alloc (.cells #[.pointer (some ⟨B,0,none⟩)] 55)).alloc (.cells #[.pointer (some ⟨cb,0,none⟩)] 124)).alloc (.cells #[.nilFunc,.nilFunc,.nilFunc,.nilFunc,.nilFunc,.nilFunc,.nilFunc,.nilFunc,.nilFunc,.nilFunc,.nilFunc,.nilFunc,.nilFunc,.nilFunc,.nilFunc] 134)) (.cells #[.nilFunc,.nilFunc,.nilFunc,.nilFunc,.nilFunc,.nilFunc,.nilFunc,.nilFunc,.nilFunc,.nilFunc,.nilFunc,.nilFunc,.nilFunc,.nilFunc,.nilFunc] 134);rw[Rp.aa];simpa using this
 case round=>obtain⟨k,hk,rfl,hB,hx,hy,⟨c,hc,hcs⟩,hh⟩:=hrel;have cR:=ac hx;have na:=ac hy;have HC:=ac hc;have HH:=ac hh;have aB:=ac hB;clear hx hy hB;by_cases hlt:k<15;(·have h1:wr.cell? ⟨w.heap.size+1+1+1,k,none⟩=some .nilFunc:=ar hh (by rw[Js _ _ _ hlt,au (by omega)]);have h2:wr.frozen? ⟨w.heap.size+1+1+1,k,none⟩=false:=cM hh;(have Pb:(k:Int)<15:=by omega);clear hc hh;go_wp2;go_roundw;(case rel=>refine⟨k+1,by omega,by go_num,aB.aa.trans ((aN _ _).setCell (by simp only;omega) _),?_,?_,⟨c,?_,hcs⟩,?_⟩;(·rw[ck _ _ _ _ (by simp only;omega)];exact cR.aa);(·rw[ck _ _ _ _ (by simp only;omega)];exact na.aa);(·rw[ck _ _ _ _ (by simp only;omega)];exact HC.aa);·rw[b6 _ HH.aa,<-agd _ _ hlt];rfl);case measure=>simp[intOf];omega);·(obtain rfl:k=15:=by omega);obtain⟨F,hF⟩:∃F,F=cL 126 w.heap.size (w.heap.size+1):=⟨_,rfl⟩;have e2:uz F 15=#[F,F,F,F,F,F,F,F,F,F,F,F,F,F,F]:=rfl;(have oz:wr.heap[w.heap.size+1+1+1]?=some (.cells #[F,F,F,F,F,F,F,F,F,F,F,F,F,F,F] 134):=by rw[<-e2,hF];exact HH.aa);have k0:wr.cell? ⟨w.heap.size+1+1+1,0,none⟩=some F:=ar oz rfl;have k1:wr.cell? ⟨w.heap.size+1+1+1,1,none⟩=some F:=ar oz rfl;have k2:wr.cell? ⟨w.heap.size+1+1+1,2,none⟩=some F:=ar oz rfl;have k3:wr.cell? ⟨w.heap.size+1+1+1,3,none⟩=some F:=ar oz rfl;have k4:wr.cell? ⟨w.heap.size+1+1+1,4,none⟩=some F:=ar oz rfl;have k5:wr.cell? ⟨w.heap.size+1+1+1,5,none⟩=some F:=ar oz rfl;have k6:wr.cell? ⟨w.heap.size+1+1+1,6,none⟩=some F:=ar oz rfl;have k7:wr.cell? ⟨w.heap.size+1+1+1,7,none⟩=some F:=ar oz rfl;have k8:wr.cell? ⟨w.heap.size+1+1+1,8,none⟩=some F:=ar oz rfl;have k9:wr.cell? ⟨w.heap.size+1+1+1,9,none⟩=some F:=ar oz rfl;have k10:wr.cell? ⟨w.heap.size+1+1+1,10,none⟩=some F:=ar oz rfl;have k11:wr.cell? ⟨w.heap.size+1+1+1,11,none⟩=some F:=ar oz rfl;have k12:wr.cell? ⟨w.heap.size+1+1+1,12,none⟩=some F:=ar oz rfl;have k13:wr.cell? ⟨w.heap.size+1+1+1,13,none⟩=some F:=ar oz rfl;have k14:wr.cell? ⟨w.heap.size+1+1+1,14,none⟩=some F:=ar oz rfl;clear hc hh oz;(have agL:F.oneCell'=true:=by rw[hF];rfl);(have hall:(#[F,F,F,F,F,F,F,F,F,F,F,F,F,F,F]:Array Value).all (·.oneCell')=true:=by simp[agL]);have hin:=Hd;have cv:=ac hF;have IC:Hid (∀cs,(wr.setRow (w.heap.size+1+1) cs).heap[w.heap.size]?=some (.cells #[.pointer (some ⟨B,0,none⟩)] 55)/\(wr.setRow (w.heap.size+1+1) cs).heap[w.heap.size+1]?=some (.cells #[.pointer (some ⟨cb,0,none⟩)] 124)/\Below w.heap.size w (wr.setRow (w.heap.size+1+1) cs)/\(wr.setRow (w.heap.size+1+1) cs).heap[w.heap.size+1+1]?=some (.cells cs 134)):=λcs=>⟨by rw[Hz _ _ (by omega)];exact cR.aa,by rw[Hz _ _ (by omega)];exact na.aa,aB.aa.trans ⟨rfl,rfl,rfl,by simp[World.setRow],λk hk=>Hz _ _ (by omega)⟩,QK _ HC.aa⟩;clear hF e2 HH Rp;go_wp2_with(first|(refine yX rfl 134 _ _ rfl (w.heap.size+1+1) #[F,F,F,F,F,F,F,F,F,F,F,F,F,F,F] rfl rfl 134 c HC.aa hin hcs hall ?_)|fail);obtain⟨hx,hy,hb,hr⟩:=IC.aa #[F,F,F,F,F,F,F,F,F,F,F,F,F,F,F];refine dJ (v:=.agg #[F,F,F,F,F,F,F,F,F,F,F,F,F,F,F]) (QE rfl _ _ (w.heap.size+1+1) rfl hr) rfl ?_;exact⟨by rw[<-cv.aa];rfl,hb,hx,hy⟩
end br
namespace ew
open Go.RowKit aD av aM b7
open rd (aL)
def xz(B:Nat)(w:World)(v:Value)(fs:List (List UInt8×Int)):Prop:=∃q cap,v=.slice q fs.length cap/\fs.length<=maxLen/\∀(j:Nat) f,fs[j]?=some f->∃g o,q=some ⟨g,o,none⟩/\g<B/\w.cell? ⟨g,o+j*2,none⟩=some (.string (bs f.1))/\w.cell? ⟨g,o+j*2+1,none⟩=some (.int .i64 f.2)
def xZ(B:Nat)(w:World)(v:Value)(cs:List Int):Prop:=∃q cap,v=.slice q cs.length cap/\cs.length<=maxLen/\∀(j:Nat) c,cs[j]?=some c->∃g o,q=some ⟨g,o,none⟩/\g<B/\w.cell? ⟨g,o+j,none⟩=some (.int .i64 c)
theorem eZ.lt{st:Option (List UInt8)}(h:eZ af C w st):af<C/\C<=w.heap.size:=by cases st with|none=>obtain⟨v,l,h⟩:=h;exact⟨h.lt,h.sz⟩|some l=>obtain⟨v,h⟩:=h;exact⟨h.lt,h.sz⟩
theorem eZ.cell{st:Option (List UInt8)}(h:eZ af C w st)(k:iy af w w')(hg:g<af)(i:Nat):w'.cell? ⟨g,i,none⟩=w.cell? ⟨g,i,none⟩:=by have hl:=h.lt;exact eo (w:=w) (k.ah g (by omega) (by omega) (h.K2 (ai (by omega)))).2
theorem eZ.beside{st:Option (List UInt8)}(h:eZ af C w st)(o:Obj):eZ af C (w.alloc o) st/\iy af w (w.alloc o)/\rowOf af (w.alloc o)≠some w.heap.size:=by
 have hg:=h.grow ((aN _ _).alloc (aC _) o);refine⟨hg.1,hg.2,?_⟩;have hlt:=h.lt;have:rowOf af (w.alloc o)=rowOf af w:=by unfold rowOf;rw[(show Below w.heap.size w (w.alloc o)from(aN _ _).alloc (aC _) o).cell (show(⟨af,0,none⟩:Addr).block<w.heap.size by simp;omega)]
 rw[this];exact h.K2 (ag (aC _))
theorem iy.aw{np:Nat}(k:iy af w w')(h1:np≠af)(h2:np<w.heap.size)(h3:rowOf af w≠some np):rowOf af w'≠some np/\(∀i,w'.cell? ⟨np,i,none⟩=w.cell? ⟨np,i,none⟩):=⟨(k.ah np h1 h2 h3).1,λ_=>eo (w:=w) (k.ah np h1 h2 h3).2⟩
theorem map_take{cs:List Int}{c:Int}(h:cs[k]?=some c):(cs.take (k+1)).map bk=(cs.take k).map bk++[bk c]:=by rw[jL,h];simp
theorem Nc(af C:Nat)(p:ay)(cs:List Int)(w:World)(st:Option (List UInt8))(h:eZ af C w st)(hc:xZ af w p.ae cs):Calls prog 118 #[.pointer (some ⟨af,0,none⟩),.agg (aL p)] w λe w'=>e=.returned (.tuple #[])/\eZ af C w' (wr (fO p.id++cs.map bk) st)/\iy af w w':=by
 obtain⟨q,cap,hcv,hlen,hcell⟩:=hc;have HC:=ac hcell;have zo:=ac h;have c1:=ac λw h=>mb af C p.id w st h;have c2:=ac λn w st h=>q8 af C n w st h;unfold maxLen at hlen;obtain⟨kind,aR,will,ah,aq,aS,code,dup,qos,aF,ak,az,id,fv,ae⟩:=p;simp only at hcv c1⊢;subst hcv;simp only[aL];have aB:=ac (λo=>h.beside o);have hlt:=h.lt;clear h hcell;go_enter func118,ntmps118;go_wp2_with fail;refine(aY c1 _ (aB.aa _).1).mono ?_;rintro e w1 ⟨rfl,hS,hK⟩;have HS:=ac hS;have HK:=ac ((aB.aa _).2.1.trans hK);have ei:=hK.aw (np:=w.heap.size) (by omega) (by simp) (aB.aa _).2.2;have k14:=ei.2 14;simp[go_sem]at k14;clear hS hK ei;go_wp2_with fail;go_loopw[13] (λi wx=>∃(k:Nat),k<=cs.length/\i=.int .i64 k/\eZ af C wx (wr (fO id++(cs.take k).map bk) st)/\iy af w wx) (λi _=>cs.length-(intOf i).toNat);case atStart=>exact⟨0,cm _,rfl,by simpa using HS.aa,HK.aa⟩
 case round=>obtain⟨k,hk,rfl,hS,hK⟩:=hrel;have C9:=ac hS;have xN:=ac hK;clear hS hK;by_cases gF:k<cs.length;(·obtain⟨c,hcc⟩:∃c,cs[k]?=some c:=⟨_,cS gF⟩;obtain⟨g,o,rfl,hg1,hg2⟩:=HC.aa k c hcc;(have hg3:wr.cell? ⟨g,o+k,none⟩=some (.int .i64 c):=by rw[zo.aa.cell xN.aa hg1];exact hg2);have wE:=ac hcc;clear hcc;go_wp2_with fail;refine(aY c2 _ _ _ C9.aa).mono ?_;rintro e w2 ⟨rfl,hS,hK⟩;have cp:=ac hS;have fA:=ac (xN.aa.trans hK);clear hS hK;go_wp2;go_roundw;(case rel=>exact⟨k+1,by omega,by go_num,by rw[map_take wE.aa,<-fS,<-ew.uW];exact cp.aa,fA.aa⟩);case measure=>simp[intOf];omega);·go_wp2;go_end0;have:cs.take k=cs:=iV (by omega);exact⟨rfl,by have h:=C9.aa;rw[this]at h;exact h,xN.aa⟩
theorem U6{k8:Bool}{fs:List (List UInt8×Int)}{f:List UInt8×Int}(h:fs[k]?=some f):(fs.take (k+1)).flatMap (nD k8)=(fs.take k).flatMap (nD k8)++nD k8 f:=by rw[jL,h];simp
theorem NT(af C:Nat)(p:ay)(fs:List (List UInt8×Int))(w:World)(st:Option (List UInt8))(h:eZ af C w st)(hc:xz af w p.fv fs):Calls prog 117 #[.pointer (some ⟨af,0,none⟩),.agg (aL p)] w λe w'=>e=.returned (.tuple #[])/\eZ af C w' (ew.wr (fO p.id++fs.flatMap (nD (p.kind==8))) st)/\iy af w w':=by
 obtain⟨q,cap,hcv,hlen,hcell⟩:=hc;have HC:=ac hcell;have zo:=ac h;have c1:=ac λw h=>mb af C p.id w st h;have c2:=ac λn w st h=>q8 af C n w st h;have c3:=ac λn w st h=>mn af C n w st h;unfold maxLen at hlen;obtain⟨kind,aR,will,ah,aq,aS,code,dup,qos,aF,ak,az,id,fv,ae⟩:=p;simp only at hcv c1⊢;subst hcv;simp only[aL];have aB:=ac (λo=>h.beside o);have hlt:=h.lt;clear h hcell;go_enter func117,ntmps117;go_wp2_with fail;refine(aY c1 _ (aB.aa _).1).mono ?_;rintro e w1 ⟨rfl,hS,hK⟩;have HS:=ac hS;have HK:=ac ((aB.aa _).2.1.trans hK);have ei:=hK.aw (np:=w.heap.size) (by omega) (by simp) (aB.aa _).2.2;have hrow:=ac ei.1;have k13:=ei.2 13;have k0:=ei.2 0;simp[go_sem]at k13 k0;clear ei;have hsz1:=hK.size;have gJ:=ac (iy.refl af w1);clear hS hK;go_wp2_with fail;go_loopw[13] (λi wx=>∃(k:Nat),k<=fs.length/\i=.int .i64 k/\eZ af C wx (ew.wr (fO id++(fs.take k).flatMap (nD (kind==8))) st)/\iy af w wx/\iy af w1 wx) (λi _=>fs.length-(intOf i).toNat);case atStart=>exact⟨0,cm _,rfl,by simpa using HS.aa,HK.aa,gJ.aa⟩
 case round=>obtain⟨k,hk,rfl,hS,hK,jE⟩:=hrel;have C9:=ac hS;have xN:=ac hK;have RV:=ac jE;(have DZ:wr.cell? ⟨w.heap.size,0,none⟩=some (.int .i64 kind):=by rw[(jE.aw (by omega) (by simp at hsz1;omega) hrow.aa).2 0];exact k0);have ap0:=ac ((jE.aw (by omega) (by simp at hsz1;omega) hrow.aa).1);have ar0:=jE.size;clear hS hK jE;by_cases gF:k<fs.length;(·obtain⟨c,hcc⟩:∃c,fs[k]?=some c:=⟨_,cS gF⟩;obtain⟨g,o,rfl,hg1,hg2,hg4⟩:=HC.aa k c hcc;(have hg3:wr.cell? ⟨g,o+k*2,none⟩=some (.string (bs c.1)):=by rw[zo.aa.cell xN.aa hg1];exact hg2);(have l9:wr.cell? ⟨g,o+k*2+1,none⟩=some (.int .i64 c.2):=by rw[zo.aa.cell xN.aa hg1];exact hg4);have wE:=ac hcc;clear hcc hg2 hg4;have AX:=ac (λo=>C9.aa.beside o);have bO:Hid (Below wr.heap.size wr (wr.alloc (.cells #[.string (bs c.1),.int .i64 c.2] 95))):=(aN _ _).alloc (aC _) _;by_cases h8:kind=8;(·have N6:(kind==8)=true:=od.2 h8;clear h8;go_wp2_with fail;refine(aY c3 _ _ _ (AX.aa _).1).mono ?_;rintro e w2 ⟨rfl,hS,hK⟩;have hf:=hK.aw (np:=wr.heap.size) (by have:=C9.aa.lt;omega) (by simp) (AX.aa _).2.2;have k1:=hf.2 1;simp[go_sem]at k1;have cp:=ac hS;have fA:=ac (xN.aa.trans ((AX.aa _).2.1.trans hK));have Fg:=ac (RV.aa.trans ((AX.aa _).2.1.trans hK));(have ahL:w2.cell? ⟨w.heap.size,0,none⟩=some (.int .i64 kind):=by rw[(Fg.aa.aw (by omega) (by simp at hsz1;omega) hrow.aa).2 0];exact k0);clear hS hK hf;go_wp2_with fail;refine(aY c2 _ _ _ cp.aa).mono ?_;rintro e w3 ⟨rfl,hS,hK⟩;have gf:=ac hS;have qw:=ac (fA.aa.trans hK);have abA:=ac (Fg.aa.trans hK);clear hS hK;go_wp2;go_roundw;(case rel=>refine⟨k+1,by omega,by go_num,?_,qw.aa,abA.aa⟩;rw[U6 wE.aa,<-fS,<-ew.uW];have h:=gf.aa;rw[ew.uW]at h;rw[N6]at h⊢;exact h);case measure=>simp[intOf];omega);·have N6:(kind==8)=false:=cn.2 h8;go_wp2_with fail;refine(aY c3 _ _ _ (AX.aa _).1).mono ?_;rintro e w2 ⟨rfl,hS,hK⟩;have cp:=ac hS;have fA:=ac (xN.aa.trans ((AX.aa _).2.1.trans hK));have Fg:=ac (RV.aa.trans ((AX.aa _).2.1.trans hK));(have ahL:w2.cell? ⟨w.heap.size,0,none⟩=some (.int .i64 kind):=by rw[(Fg.aa.aw (by omega) (by simp at hsz1;omega) hrow.aa).2 0];exact k0);clear hS hK;go_wp2;go_roundw;(case rel=>refine⟨k+1,by omega,by go_num,?_,fA.aa,Fg.aa⟩;rw[U6 wE.aa,<-fS,<-ew.uW];have h:=cp.aa;rw[N6]at h⊢;simpa[nD,dS]using h);case measure=>simp[intOf];omega);·go_wp2;go_end0;have:fs.take k=fs:=iV (by omega);exact⟨rfl,by have h:=C9.aa;rw[this]at h;exact h,xN.aa⟩
theorem Qx(af C:Nat)(p:ay)(w:World)(st:Option (List UInt8))(h:eZ af C w st):Calls prog 115 #[.pointer (some ⟨af,0,none⟩),.agg (aL p)] w λe w'=>e=.returned (.tuple #[])/\eZ af C w' (ew.wr (fe p.ak++(if 0<p.qos then fO p.id else[])++p.az) st)/\iy af w w':=by
 have c1:=ac λw st h=>mb af C p.id w st h;have c2:=ac λw st h=>yj af C (bs p.az) w st h;have c3:=ac λw st h=>mn af C (bs p.ak) w st h;obtain⟨kind,aR,will,ah,aq,aS,code,dup,qos,aF,ak,az,id,fv,ae⟩:=p;simp only[dS]at c1 c2 c3⊢;simp only[aL];have aB:=ac (λo=>h.beside o);have hlt:=h.lt;clear h;by_cases hq:0<qos;·rw[ax hq,<-ew.uW,<-ew.uW];go_enter func115,ntmps115;go_wp2_with fail;refine(aY c3 _ _ (aB.aa _).1).mono ?_;rintro e w1 ⟨rfl,hS,hK⟩;have HS:=ac hS;have ei:=hK.aw (np:=w.heap.size) (by omega) (by simp) (aB.aa _).2.2;have HK:=ac hK;have hsz1:=hK.size;have hrow:=ac ei.1;have k8:=ei.2 8;have k12:=ei.2 12;have k11:=ei.2 11;simp[go_sem]at k8 k12 k11;clear ei hS hK;go_wp2_with fail;refine(aY c1 _ _ HS.aa).mono ?_;rintro e w2 ⟨rfl,hS,hK⟩;have cp:=ac hS;have fA:=ac (HK.aa.trans hK);have ei:=hK.aw (np:=w.heap.size) (by omega) (by simp at hsz1;omega) hrow.aa;have j11:=ei.2 11;rw[k11]at j11;clear ei hS hK k8 k12 k11;go_wp2_with fail;refine(aY c2 _ _ cp.aa).mono ?_;rintro e w3 ⟨rfl,hS,hK⟩;have gf:=ac hS;have qw:=ac ((aB.aa _).2.1.trans (fA.aa.trans hK));clear hS hK;go_wp2;go_end0;exact⟨rfl,gf.aa,qw.aa⟩
 ·rw[au hq,ek,<-ew.uW];go_enter func115,ntmps115;go_wp2_with fail;refine(aY c3 _ _ (aB.aa _).1).mono ?_;rintro e w1 ⟨rfl,hS,hK⟩;have HS:=ac hS;have ei:=hK.aw (np:=w.heap.size) (by omega) (by simp) (aB.aa _).2.2;have HK:=ac hK;have k8:=ei.2 8;have k11:=ei.2 11;simp[go_sem]at k8 k11;clear ei hS hK;go_wp2_with fail;refine(aY c2 _ _ HS.aa).mono ?_;rintro e w3 ⟨rfl,hS,hK⟩;have gf:=ac hS;have qw:=ac ((aB.aa _).2.1.trans (HK.aa.trans hK));clear hS hK;go_wp2;go_end0;exact⟨rfl,gf.aa,qw.aa⟩
theorem aaB{P:Program}{id:Nat}{l:List Oper}(n:Nat)(hm:P.follows .mixedOrders=true)(hB:Region.lexTailB .any l.toArray n=true)(h:wpStill P l.toArray w.drew (λa'=>wpList P l.toArray Q (l.drop n) a' w.drew) (l.take n) a):(Code.region id l.toArray true).wp P Q a w:=wp_region_still_tail n hm hB h
def M8(p:ay):Int:=bits .or .i64 (bits .or .i64 (bits .or .i64 (wrap64 (p.qos*8)) (dA p.aR 2)) (dA p.will 4)) (dA p.aF 32)
def ll(p:ay):UInt8:=bk (M8 p)
theorem adV:∀(q:Fin 3)(c w r:Bool),bk (bits .or .i64 (bits .or .i64 (bits .or .i64 (wrap64 ((q.val:Int)*8)) (dA c 2)) (dA w 4)) (dA r 32))=bk (dA c 2+dA w 4+8*(q.val:Int)+dA r 32):=by decide+kernel
theorem adW(h:uS p):ll p=pd p:=by obtain⟨_,_,h1,h2,_⟩:=h;obtain⟨n,hn⟩:=SB h1;have:=adV ⟨n,by omega⟩ p.aR p.will p.aF;unfold ll M8 pd;rw[hn];exact this
theorem Ni(af C:Nat)(p:ay)(w:World)(st:Option (List UInt8))(h:eZ af C w st):Calls prog 112 #[.pointer (some ⟨af,0,none⟩),.agg (aL p)] w λe w'=>e=.returned (.tuple #[])/\eZ af C w' (wr (fe [77,81,84,84]++[bk 4]++[ll p]++fO p.ah++fe p.aq++(if p.will then fe p.ak++fe p.az else[])) st)/\iy af w w':=by
 have c0:=ac λb n w=>MQ b n w;have c1:=ac λw st h=>mb af C p.ah w st h;have c2:=ac λn w st h=>q8 af C n w st h;have c3:=ac λs w st h=>mn af C s w st h;obtain⟨kind,aR,will,ah,aq,aS,code,dup,qos,aF,ak,az,id,fv,ae⟩:=p;simp only[ll,M8]at c1⊢;simp only[aL];have aB:=ac (λo=>h.beside o);have hlt:=h.lt;clear h;go_enter func112,ntmps112;go_wp2_with fail;refine(aY c3 _ _ _ (aB.aa _).1).mono ?_;rintro e w1 ⟨rfl,hS,hK⟩;have HS:=ac hS;have HK:=ac hK;clear hS hK;go_wp2_with fail;refine(aY c2 _ _ _ HS.aa).mono ?_;rintro e w2 ⟨rfl,hS,hK⟩;have cp:=ac hS;have fA:=ac (HK.aa.trans hK);have ei:=fA.aa.aw (np:=w.heap.size) (by omega) (by simp) (aB.aa _).2.2;have k8:=ei.2 8;have k1:=ei.2 1;have k2:=ei.2 2;have k9:=ei.2 9;simp[go_sem]at k8 k1 k2 k9;clear hS hK ei;go_wp2_with fail;refine aaB 16 (by kernel_rfl) (by kernel_rfl) ?_;simp only[FL,wR,List.drop_succ_cons,List.drop_zero];repeat(first|still_step|still_call(aY c0 _ _ _))
 refine wpStill_nil ?_;have hG:=cp.aa.grow (below_drewN (aN _ _) 1);have wG:=ac hG.1;have abv:=ac hG.2;clear hG;go_wp2_with fail;refine(aY c2 _ _ _ wG.aa).mono ?_;rintro e w3 ⟨rfl,hS,hK⟩;have gf:=ac hS;have qw:=ac (fA.aa.trans (abv.aa.trans hK));have ei:=qw.aa.aw (np:=w.heap.size) (by omega) (by simp) (aB.aa _).2.2;have ma:=ei.2 3;simp[go_sem]at ma;clear hS hK ei k8 k1 k2 k9;go_wp2_with fail;refine(aY c1 _ _ gf.aa).mono ?_;rintro e w4 ⟨rfl,hS,hK⟩;have eW:=ac hS;have ub:=ac (qw.aa.trans hK);have ei:=ub.aa.aw (np:=w.heap.size) (by omega) (by simp) (aB.aa _).2.2;have qX:=ei.2 4;simp[go_sem]at qX;clear hS hK ei ma;go_wp2_with fail;refine(aY c3 _ _ _ eW.aa).mono ?_;rintro e w5 ⟨rfl,hS,hK⟩;have fo:=ac hS;have A5:=ac (ub.aa.trans hK);have ei:=A5.aa.aw (np:=w.heap.size) (by omega) (by simp) (aB.aa _).2.2;have j2:=ei.2 2;have j10:=ei.2 10;simp[go_sem]at j2 j10;clear hS hK ei qX;cases will with|false=>go_wp2;go_end0;refine⟨rfl,?_,(aB.aa _).2.1.trans A5.aa⟩;have h:=fo.aa;simp only[ew.uW,dS]at h;simpa using h|true=>go_wp2_with fail;refine(aY c3 _ _ _ fo.aa).mono ?_;rintro e cQ ⟨rfl,hS,hK⟩;have iJ:=ac hS;have RX:=ac (A5.aa.trans hK);have ei:=RX.aa.aw (np:=w.heap.size) (by omega) (by simp) (aB.aa _).2.2;have j11:=ei.2 11;simp[go_sem]at j11;clear hS hK ei j2 j10;go_wp2_with fail;refine(aY c3 _ _ _ iJ.aa).mono ?_;rintro e ig ⟨rfl,hS,hK⟩;have jB:=ac hS;have abB:=ac (RX.aa.trans hK);clear hS hK j11;go_wp2;go_end0;refine⟨rfl,?_,(aB.aa _).2.1.trans abB.aa⟩;have h:=jB.aa;simp only[ew.uW,dS]at h;simpa using h
end ew
namespace bJ
open Go.RowKit aD av aM rd
structure fG (w0 w:World) (B:Nat) (p:ay):Prop where
 aw:dE w B p
 res:w.heap[B+1]?=some (.cells (aL bA) 36)
 eN:Below B w0 w
 inv:av.Inv w
 low:5≤B
theorem fG.lt(h:fG w0 w B p):B+1<w.heap.size:=(jT.1 h.res).1
theorem fG.set{o:Nat}{p':ay}{u:Value}(h:fG w0 w B p)(hP:dE (w.setCell ⟨B,o,none⟩ u) B p'):fG w0 (w.setCell ⟨B,o,none⟩ u) B p':=⟨hP,(ck _ _ _ _ (by simp)).trans h.res,h.eN.setCell (aC _) u,yL h.inv h.low (jt _ _ _ _),h.low⟩
theorem fG.vz(h:fG w0 w B p)(hb:Below w.heap.size w w'):fG w0 w' B p:=⟨h.aw.grown (br:=B+1) (by omega) (yw hb),(hb.block _ h.lt).trans h.res,h.eN.trans (hb.mono (by have:=h.lt;omega)),yL h.inv h.low (yw hb),h.low⟩
theorem fG.drawn(h:fG w0 w B p)(n:Nat):fG w0 (w.drewN n) B p:=h.vz (below_drewN (aN _ _) n)
theorem Qs(h:w.heap[b]?=some (.cells (aL p) 36)):dE w b p:=by
 constructor;·intro i;simp[World.frozen?,h]
 all_goals simp[World.cell?,h,aL]
theorem fG.begin(w:World)(p:ay)(hI:av.Inv w)(hN:5<=w.heap.size):fG w ((w.alloc (.cells (aL p) 36)).alloc (.cells (aL bA) 36)) w.heap.size p:=by
 have hb:Below w.heap.size w ((w.alloc (.cells (aL p) 36)).alloc (.cells (aL bA) 36)):=((aN _ _).alloc (aC _) _).alloc (by simp) _;refine⟨?_,?_,hb,yL hI hN (yw hb),hN⟩;·(have h:((w.alloc (.cells (aL p) 36)).alloc (.cells (aL bA) 36)).heap[w.heap.size]?=some (.cells (aL p) 36):=by rw[cU _ _ _ (by simp)];show(w.heap.push _)[w.heap.size]?=_;simp);exact Qs h
 ·show((w.heap.push _).push _)[w.heap.size+1]?=_;rw[Array.getElem?_push,ax (by simp)]
theorem apX{N:Nat}(h:w.heap[N]?=some (.cells (aL bA) 36)):∀j,j<15->(w.cell? ⟨N,0+j,none⟩).isSome=true:=by
 obtain⟨z0,kA,z2,z3,z4,z5,tQ,tR,qi,z9,tM,tN,z12,tO,tP⟩:=AL h;intro j hj;rcases(by omega:j=0\/j=1\/j=2\/j=3\/j=4\/j=5\/j=6\/j=7\/j=8\/j=9\/j=10\/j=11\/j=12\/j=13\/j=14)with rfl|rfl|rfl|rfl|rfl|rfl|rfl|rfl|rfl|rfl|rfl|rfl|rfl|rfl|rfl;·simp[z0]
 ·simp[kA]
 ·simp[z2]
 ·simp[z3]
 ·simp[z4]
 ·simp[z5]
 ·simp[tQ]
 ·simp[tR]
 ·simp[qi]
 ·simp[z9]
 ·simp[tM]
 ·simp[tN]
 ·simp[z12]
 ·simp[tO]
 ·simp[tP]
def EY(w:World)(q:ay)(ok:Bool)(e:Ending)(w':World):Prop:=e=.returned (.tuple #[.agg (aL q),.bool ok])/\Below w.heap.size w w'
theorem Zy(X:World)(tmps:Array Value)(N:Nat)(v0 v1 v2 v3 v4 v5 v6 v7 v8 v9 v10 v11 v12 v13 v14:Value)(ht:tmps[4]?.getD undef=.pointer (some ⟨N,0,none⟩))(h0:X.cell? ⟨N,0,none⟩=some v0)(h1:X.cell? ⟨N,1,none⟩=some v1)(h2:X.cell? ⟨N,2,none⟩=some v2)(h3:X.cell? ⟨N,3,none⟩=some v3)(h4:X.cell? ⟨N,4,none⟩=some v4)(h5:X.cell? ⟨N,5,none⟩=some v5)(h6:X.cell? ⟨N,6,none⟩=some v6)(h7:X.cell? ⟨N,7,none⟩=some v7)(h8:X.cell? ⟨N,8,none⟩=some v8)(h9:X.cell? ⟨N,9,none⟩=some v9)(h10:X.cell? ⟨N,10,none⟩=some v10)(h11:X.cell? ⟨N,11,none⟩=some v11)(h12:X.cell? ⟨N,12,none⟩=some v12)(BR:X.cell? ⟨N,13,none⟩=some v13)(Gk:X.cell? ⟨N,14,none⟩=some v14):(results f93 tmps).run prog X=.ok (.tuple #[.agg #[v0,v1,v2,v3,v4,v5,v6,v7,v8,v9,v10,v11,v12,v13,v14],tmps.getD 5 undef]) X:=by simp[results,results93,go_sem,ht,h0,h1,h2,h3,h4,h5,h6,h7,h8,h9,h10,h11,h12,BR,Gk]
theorem Zz(w0:World)(tmps:Array Value)(q:ay)(N:Nat)(hN:w0.heap.size=N)(ht:tmps[4]?.getD undef=.pointer (some ⟨N,0,none⟩)):(results f93 tmps).run prog (w0.alloc (.cells (aL q) 36))=.ok (.tuple #[.agg (aL q),tmps.getD 5 undef]) (w0.alloc (.cells (aL q) 36)):=by subst hN;have h:dE (w0.alloc (.cells (aL q) 36)) w0.heap.size q:=Qs (by show(w0.heap.push _)[w0.heap.size]?=_;simp);exact Zy _ _ _ _ _ _ _ _ _ _ _ _ _ _ _ _ _ _ ht h.c0 h.c1 h.c2 h.c3 h.c4 h.c5 h.c6 h.c7 h.c8 h.c9 h.c10 h.c11 h.c12 h.c13 h.c14
theorem ae0(s:ByteArray)(p:ay)(w:World)(hs:s.size<12\/(12<=s.size/\((s.extract 0 7).toList==[0,4,77,81,84,84,4])=false))(aQ:p.fv=.slice none 0 0)(hcv:p.ae=.slice none 0 0):Calls prog 93 #[.string s,.agg (aL p)] w (EY w p false):=by
 obtain⟨kind,aR,will,ah,aq,aS,code,dup,qos,aF,ak,az,id,fv,ae⟩:=p;obtain rfl:=aQ;obtain rfl:=hcv;rcases hs with hs|⟨hs,hx⟩;·(have hlt:(s.size:Int)<12:=by omega);clear hs;simp only[aL];go_enter func93,ntmps93;go_wp2_with fail;refine dJ (Zz _ _ ⟨kind,aR,will,ah,aq,aS,code,dup,qos,aF,ak,az,id,.slice none 0 0,.slice none 0 0⟩ (w.heap.size+1) (by simp) rfl) rfl ?_;exact⟨rfl,((aN _ _).alloc (aC _) _).alloc (by simp) _⟩
 ·(have hlt:¬(s.size:Int)<12:=by omega);(have h7:(7:Int)<=(s.size:Int):=by omega);simp only[aL];go_enter func93,ntmps93;go_wp2_with fail;refine dJ (Zz _ _ ⟨kind,aR,will,ah,aq,aS,code,dup,qos,aF,ak,az,id,.slice none 0 0,.slice none 0 0⟩ (w.heap.size+1) (by simp) rfl) rfl ?_;exact⟨rfl,((aN _ _).alloc (aC _) _).alloc (by simp) _⟩
end bJ
namespace rw
open Go.RowKit aD av aM rd bJ
theorem alD(h:dE w b p):w.rangeAt b 0 (aL p).toList:=λj v hj=>by rw[iW];match j,hj with|0,hj=>cases hj;exact h.c0|1,hj=>cases hj;exact h.c1|2,hj=>cases hj;exact h.c2|3,hj=>cases hj;exact h.c3|4,hj=>cases hj;exact h.c4|5,hj=>cases hj;exact h.c5|6,hj=>cases hj;exact h.c6|7,hj=>cases hj;exact h.c7|8,hj=>cases hj;exact h.c8|9,hj=>cases hj;exact h.c9|10,hj=>cases hj;exact h.c10|11,hj=>cases hj;exact h.c11|12,hj=>cases hj;exact h.c12|13,hj=>cases hj;exact h.c13|14,hj=>cases hj;exact h.c14|n+15,hj=>simp[aL]at hj
theorem lB{ops:Array Oper}{rest:List Oper}{o:Oper}{x:Operand}(hgd:o.guard=none)(ho:o.op=.load 36 x)(hx:a.eval x=.pointer (some ⟨b,0,none⟩))(hb:dE w b p)(h:wpList prog ops Q rest (a.put o.dst (.agg (aL p))) w):wpList prog ops Q (o::rest) a w:=wpList_load_mid hgd 36 x ho b 0 hx (aL p).toList _ (alD hb) underlying36 rfl yK h
theorem amm(hf:fn.results=#[.cell 4 36,.tmp 5]){z:ay}{ok:Bool}(hz:W.heap[b]?=some (.cells (aL z) 36))(h4:tmps[4]?.getD undef=.pointer (some ⟨b,0,none⟩))(h5:tmps.getD 5 undef=.bool ok)(hP:P (.returned (.tuple #[.agg (aL q),.bool ok])) (W.setRow b (aL q))):bodyPost prog fn P .ret ⟨tmps,[]⟩ (W.setRow b (aL q)):=by refine dJ (v:=.tuple #[.agg (aL q),.bool ok]) ?_ rfl hP;have hr:=yS W b _ (aL q) _ _ hz;have:=run_loadVar_row (P:=prog) _ b 36 36 (aL q) (0,0) _ hr underlying36 rfl yK;rw[<-h5];simp[results,hf,h4,asAddr,this]
end rw
namespace bJ
open Go.RowKit aD av aM rd
theorem Je{ok:Bool}(h:fG w W w.heap.size p)(h4:tmps[4]?.getD undef=.pointer (some ⟨w.heap.size+1,0,none⟩))(h5:tmps.getD 5 undef=.bool ok)(hP:Below w.heap.size w (W.setRow (w.heap.size+1) (aL q))->P (.returned (.tuple #[.agg (aL q),.bool ok])) (W.setRow (w.heap.size+1) (aL q))):bodyPost prog f93 P .ret ⟨tmps,[]⟩ (W.setRow (w.heap.size+1) (aL q)):=rw.amm results93 h.res h4 h5 (hP (rw.ur h.eN (Nat.le_succ _) _))
end bJ
end Go.Proofs.YtnmfmoimjkoieaaGreatDoor
