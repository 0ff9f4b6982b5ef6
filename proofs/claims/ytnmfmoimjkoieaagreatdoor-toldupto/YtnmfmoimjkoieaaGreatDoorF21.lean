import Derived.Test.YtnmfmoimjkoieaaGreatDoorF18
set_option maxHeartbeats 25600000
set_option maxRecDepth 100000
set_option linter.all false
namespace Go.Proofs.YtnmfmoimjkoieaaGreatDoor
open Go.Proofs.Tryz
variable{w:World}{C sz n:Nat}{e:TypeId}{v:Value}{xs:List Value}
namespace br
open Go.RowKit aD av aM rd ew b7 bJ
theorem Hf:(prog.info? 5).map (λi=>(i.zero,i.size,i.bytes))=some (some (.int .u8 0),1,1):=by kernel_rfl
theorem zN(b o j:Nat):((⟨b,o,none⟩:Addr).add j)=⟨b,o+j,none⟩:=by
 unfold Addr.add;split;·rename_i h;subst h;rfl
 ·rfl
theorem apF{P:Program}(w:World){ops:Array Oper}{rest:List Oper}{o:Oper}{a:Act}{Q:Exit->Act->World->Prop}(hgd:o.guard=none)(s x:Operand)(t:TypeId)(ho:o.op=.call {callee:=.builtin .append,args:=#[s,x],argTypes:=#[t,t]})(e:TypeId)(i:TypeInfo)(z:Value)(size bytes:Nat)(ht:P.underlying t=some (.slice e))(hi:P.info? e=some i)(hz:i.zero=some z)(hsize:i.size=size)(hby:i.bytes=bytes)(hzs:z.cells.size=size)(hsz:0<size)(v:Value)(n:Nat)(xs:List Value)(hs:a.eval s=v)(hown:w.ownsRow 0 e size v n xs)(ad:Addr)(m c:Nat)(hroom:∀q vD,v=.slice q n vD->vD<n+m)(hm:0<m)(news:List Value)(hx:a.eval x=.slice (some ad) m c)(hl:news.length=m*size)(hnews:∀j u,news[j]?=some u->w.cell? (ad.add j)=some u)(h1:∀u∈news,u.oneCell'=true)(h63:n+m<=maxLen)(hbytes:(n+m)*bytes<=140737488355328)(h:∀v' w',w'.ownsRow 0 e size v' (n+m) (xs++news)->w.grownBy w' none->v'.ownBlock=some w.heap.size->wpList P ops Q rest (a.put o.dst v') w'):wpList P ops Q (o::rest) a w:=by
 refine wpList_plain hgd λK hK=>?_;obtain⟨v',w',hr,h2,h3,_,h5⟩:=run_append_own_at (P:=P) w 0 t o.type e i z size bytes ht hi hz hsize hby hzs hsz v n xs hown ad m c news hl hnews h1 h63 hbytes (cm _);have key:v'.ownBlock=some w.heap.size/\w.grownBy w' none:=by(have h63':n+m<=9223372036854775807:=by unfold maxLen at h63;omega);rcases hown.2 with⟨rfl,rfl⟩|⟨g,cap,cur,rfl,_,hg,_,_,hcs,_⟩;(·have hr2:=run_append_nil (P:=P) w t o.type e i z ht hi hz ad m c news (by rw[hsize];exact hl) hnews hm (by omega) (by rw[hby];rw[iW]at hbytes;omega);have e2:=hr.symm.trans hr2;simp only[Br]at e2;refine⟨by rw[e2.1];rfl,?_⟩;rw[e2.2];exact⟨rfl,rfl,rfl,by simp,λk hk _=>cU w.drew _ k hk⟩);·have hcap:=hroom _ _ rfl;have holds:∀j u,xs[j]?=some u->w.cell? ((⟨g,0,none⟩:Addr).add j)=some u:=hown.cells (g:=g) rfl;have hr2:=run_append_grow (P:=P) w t o.type e i z ht hi hz ⟨g,0,none⟩ n cap xs (by rw[hsize];exact hown.1) holds ad m c news (by rw[hsize];exact hl) hnews (by omega) (by omega) (growslice_fits (by omega) (by rw[hby];exact hbytes));have e2:=hr.symm.trans hr2;simp only[Br]at e2;refine⟨by rw[e2.1];rfl,?_⟩;rw[e2.2];exact⟨rfl,rfl,rfl,by simp,λk hk _=>cU w.drew _ k hk⟩
 unfold Oper.wp;simp[execOp,ho,resolve,invoke,builtin,hs,hx,hr,Result.andThen];exact hK _ _ (h v' w' h2 key.2 key.1)
theorem gm{w':World}(h:w.ownsRow C e sz v n xs)(hb:Below w.heap.size w w'):w'.ownsRow C e sz v n xs:=bM h (λb hx=>by obtain⟨cur,hc⟩:=aU h hx;exact hb.block b (aG hc))
theorem KT{C':Nat}(h:w.ownsRow C e sz v n xs)(hl:C'<=C):w.ownsRow C' e sz v n xs:=by
 refine⟨h.1,?_⟩;rcases h.2 with h1|⟨g,cap,cur,e1,h2,h3⟩;·exact ai h1
 ·exact ag ⟨g,cap,cur,e1,bi hl h2,h3⟩
theorem aeh(n:Int)(V:dt)(C:eD)(x:Int):(dB n V C).setIfInBounds 17 (.int .i64 x)=dB n V {C with heard:=x}:=by obtain⟨wt,hd,hl⟩:=C;cases hl<;>kernel_rfl
theorem TN(n:Int)(V:dt)(C:eD)(h:C.bg=none):(dB n V C)[2+1]?=some (.func (.func 89) #[] #[.pointer (some ⟨V.x',0,none⟩),.pointer (some ⟨V.y',0,none⟩)]):=by obtain⟨wt,hd,hl⟩:=C;simp only at h;subst h;kernel_rfl
theorem aej(n:Int)(V:dt)(C:eD)(h:∃q,C.bg=some q):(dB n V C)[2+3]?=some (.func (.func 156) #[] #[.pointer (some ⟨V.x',0,none⟩),.pointer (some ⟨V.y',0,none⟩)]):=by obtain⟨wt,hd,hl⟩:=C;obtain⟨q,h⟩:=h;simp only at h;subst h;kernel_rfl
theorem ael(n:Int)(V:dt)(C:eD)(h:∃q,C.bg=some q):(dB n V C)[2+8]?=some (.func (.func 166) #[] #[.pointer (some ⟨V.x',0,none⟩),.pointer (some ⟨V.y',0,none⟩)]):=by obtain⟨wt,hd,hl⟩:=C;obtain⟨q,h⟩:=h;simp only at h;subst h;kernel_rfl
theorem Tz(args:Array Value)(w:World):(callFunc 89 args).run prog w=.ok (.enter 89 args) w:=by simp[callFunc,go_sem,func89];kernel_rfl
theorem adH(args:Array Value)(w:World):(callFunc 156 args).run prog w=.ok (.enter 156 args) w:=by simp[callFunc,go_sem,func156];kernel_rfl
theorem adI(args:Array Value)(w:World):(callFunc 158 args).run prog w=.ok (.enter 158 args) w:=by simp[callFunc,go_sem,func158];kernel_rfl
theorem adJ(args:Array Value)(w:World):(callFunc 160 args).run prog w=.ok (.enter 160 args) w:=by simp[callFunc,go_sem,func160];kernel_rfl
theorem adK(args:Array Value)(w:World):(callFunc 164 args).run prog w=.ok (.enter 164 args) w:=by simp[callFunc,go_sem,func164];kernel_rfl
theorem adL(args:Array Value)(w:World):(callFunc 166 args).run prog w=.ok (.enter 166 args) w:=by simp[callFunc,go_sem,func166];kernel_rfl
theorem aef(n:Int)(V:dt)(C:eD)(h:∃q,C.bg=some q):(dB n V C)[2+4]?=some (.func (.func 158) #[] #[.pointer (some ⟨V.y',0,none⟩)]):=by obtain⟨wt,hd,hl⟩:=C;obtain⟨q,h⟩:=h;simp only at h;subst h;kernel_rfl
theorem aek(n:Int)(V:dt)(C:eD)(h:∃q,C.bg=some q):(dB n V C)[2+5]?=some (.func (.func 160) #[] #[.pointer (some ⟨V.y',0,none⟩)]):=by obtain⟨wt,hd,hl⟩:=C;obtain⟨q,h⟩:=h;simp only at h;subst h;kernel_rfl
theorem aeg(n:Int)(V:dt)(C:eD)(h:∃q,C.bg=some q):(dB n V C)[2+7]?=some (.func (.func 164) #[] #[.pointer (some ⟨V.y',0,none⟩)]):=by obtain⟨wt,hd,hl⟩:=C;obtain⟨q,h⟩:=h;simp only at h;subst h;kernel_rfl
end br
end Go.Proofs.YtnmfmoimjkoieaaGreatDoor
