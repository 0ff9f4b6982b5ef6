import Derived.Test.YtnmfmoimjkoieaaGreatDoorF06
set_option maxHeartbeats 25600000
set_option maxRecDepth 100000
set_option linter.all false
namespace Go.Proofs.YtnmfmoimjkoieaaGreatDoor
open Go.Proofs.Tryz
variable{w w':World}{v:Value}
namespace ew
open Go.RowKit aD av aM b7
open bJ (wC rC)
open rd (aL)
theorem af2{fs:List (List UInt8×Int)}(h:ze w v fs)(hb:Below w.heap.size w w'):ze w' v fs:=by obtain⟨q,cap,h1,h2,h3⟩:=h;refine⟨q,cap,h1,h2,λj f hf=>?_⟩;obtain⟨g,o,e,hg,a,b⟩:=h3 j f hf;exact⟨g,o,e,cw hg hb.size,by rw[hb.cell hg];exact a,by rw[hb.cell hg];exact b⟩
theorem aja{cs:List Int}(h:zw w v cs)(hb:Below w.heap.size w w'):zw w' v cs:=by obtain⟨q,cap,h1,h2,h3⟩:=h;refine⟨q,cap,h1,h2,λj f hf=>?_⟩;obtain⟨g,o,e,hg,a⟩:=h3 j f hf;exact⟨g,o,e,cw hg hb.size,by rw[hb.cell hg];exact a⟩
theorem asu(p:ay)(SS MH:Value)(fs gs:List (List UInt8×Int))(cs ds:List Int)(w:World)(h1:ze w p.fv fs)(h2:ze w SS gs)(h3:zw w p.ae cs)(h4:zw w MH ds):Calls prog 83 #[.agg (aL p),.agg (aL {p with fv:=SS,ae:=MH})] w λe w'=>e=.returned (.bool (decide (fs=gs)&&decide (cs=ds)))/\Below w.heap.size w w':=by have aB:Hid (∀o1 o2,Below w.heap.size w ((w.alloc o1).alloc o2)):=λo1 o2=>((aN _ _).alloc (aC _) o1).alloc (by simp) o2;have c1:=ac λw' (hb:Below w.heap.size w w')=>as0 fs gs p.fv SS w' (af2 h1 hb) (af2 h2 hb);have c2:=ac λw' (hb:Below w.heap.size w w')=>as1 cs ds p.ae MH w' (aja h3 hb) (aja h4 hb);obtain⟨kind,aR,will,ah,aq,aS,code,dup,qos,aF,ak,az,id,fv,ae⟩:=p;obtain⟨q1,k1,rfl,_⟩:=h1;obtain⟨q2,k2,rfl,_⟩:=h2;obtain⟨q3,k3,rfl,_⟩:=h3;obtain⟨q4,k4,rfl,_⟩:=h4;simp only[aL];generalize decide (fs=gs)=A at *;generalize decide (cs=ds)=B at *;go_enter func83,ntmps83;go_wp2_with fail;refine(c1.aa _ (aB.aa _ _)).mono ?_;rintro e w1 ⟨rfl,m,rfl⟩;cases A with|false=>go_wp2;go_ret;exact⟨rfl,below_drewN (aB.aa _ _) _⟩|true=>go_wp2_with fail;refine(c2.aa _ (below_drewN (aB.aa _ _) _)).mono ?_;rintro e w2 ⟨rfl,m2,rfl⟩;go_wp2;go_ret;exact⟨by simp,below_drewN (aB.aa _ _) _⟩
theorem asv(p q:ay)(w:World)(hn:¬vX p q):Calls prog 83 #[.agg (aL p),.agg (aL q)] w λe w'=>e=.returned (.bool false)/\Below w.heap.size w w':=by
 have aB:Hid (∀o1 o2,Below w.heap.size w ((w.alloc o1).alloc o2)):=λo1 o2=>((aN _ _).alloc (aC _) o1).alloc (by simp) o2;obtain⟨kind,aR,will,ah,aq,aS,code,dup,qos,aF,ak,az,id,fv,ae⟩:=p;obtain⟨as3,asW,atb,as2,asX,as7,asY,asZ,as8,as9,ata,as6,idx,SS,MH⟩:=q;simp only[aL];obtain rfl|e:=Decidable.em (kind=as3);obtain rfl|e:=Decidable.em (aR=asW);obtain rfl|e:=Decidable.em (will=atb);obtain rfl|e:=Decidable.em (ah=as2);obtain rfl|e:=Decidable.em (aq=asX);obtain rfl|e:=Decidable.em (aS=as7);obtain rfl|e:=Decidable.em (code=asY);obtain rfl|e:=Decidable.em (dup=asZ);obtain rfl|e:=Decidable.em (qos=as8);obtain rfl|e:=Decidable.em (aF=as9);obtain rfl|e:=Decidable.em (ak=ata);obtain rfl|e:=Decidable.em (az=as6);obtain rfl|e:=Decidable.em (id=idx);·exact absurd ⟨rfl,rfl,rfl,rfl,rfl,rfl,rfl,rfl,rfl,rfl,rfl,rfl,rfl⟩ hn
 all_goals(first|have h:=asV e|have h:=cn.2 e);clear hn e;as_aux_lemma=>go_enter func83,ntmps83;go_wp2;go_ret;exact⟨rfl,aB.aa _ _⟩
theorem alN(p q:ay)(fs gs:List (List UInt8×Int))(cs ds:List Int)(w:World)(h1:ze w p.fv fs)(h2:ze w q.fv gs)(h3:zw w p.ae cs)(h4:zw w q.ae ds):Calls prog 83 #[.agg (aL p),.agg (aL q)] w λe w'=>e=.returned (.bool (decide (vX p q/\fs=gs/\cs=ds)))/\Below w.heap.size w w':=by
 by_cases h:vX p q;·(have e:q={p with fv:=q.fv,ae:=q.ae}:=by obtain⟨h0,h1,h2,h3,h4,h5,h6,h7,h8,h9,h10,h11,h12⟩:=h;cases p;cases q;simp_all);rw[e];refine(asu p q.fv q.ae fs gs cs ds w h1 h2 h3 h4).mono ?_;rintro _ w' ⟨rfl,hb⟩;exact⟨gw (by rw[<-e];simp[h]),hb⟩
 ·rw[dO (λx=>h x.1)];exact asv p q w h
end ew
end Go.Proofs.YtnmfmoimjkoieaaGreatDoor
