import Derived.Test.YtnmfmoimjkoieaaGreatDoorF41
set_option maxHeartbeats 25600000
set_option maxRecDepth 100000
set_option linter.all false
namespace Go.Proofs.YtnmfmoimjkoieaaGreatDoor
open Go.Proofs.Tryz
variable{Z:lt.Pl}{H:br.aj}{n1 n2 n5:Nat}{w:World}
namespace lt
open Go.RowKit aD av aM br dr
theorem dN.below{w':World}(h:dN Z H n1 n2 n5 w)(hb:Below w.heap.size w w'):dN Z H n1 n2 n5 w':=by obtain⟨F,G,B,hD⟩:=h.duo;exact⟨⟨F,G,B,hD.below hb⟩,h.ok,h.mK,h.tm⟩
theorem Z4(h:dN Z H n1 n2 n5 w)(o:fT)(hK:o.kind=6)(aQ:∃a b c,o.p.fv=.slice a b c)(hcv:∃a b c,o.p.ae=.slice a b c)(hl:o.s.length<=1000000000):Calls prog 46 #[.pointer (some ⟨Z.af,0,none⟩),.pointer (some ⟨Z.sb,0,none⟩),.agg (cW o)] w λe w'=>e=.returned (.bool true)/\dN Z H n1 n2 n5 w':=by obtain⟨F,G,B,hD⟩:=h.duo;refine(ane Z.af Z.sb Z.P.B Z.D.B o w (aj.yN H o.s) hK aQ hcv hD.s (λa hb=>aly (hD.below hb).p h.ok o.s hl) (λa hb=>aeI (hD.below hb).d h.ok o.s)).mono ?_;rintro e w' ⟨rfl,hb⟩;exact⟨rfl,h.below hb⟩
theorem anf(af sb:Nat)(o:fT)(w:World)(hK:o.kind<=0)(aQ:∃a b c,o.p.fv=.slice a b c)(hcv:∃a b c,o.p.ae=.slice a b c):Calls prog 46 #[.pointer (some ⟨af,0,none⟩),.pointer (some ⟨sb,0,none⟩),.agg (cW o)] w λe w'=>e=.returned (.bool true)/\Below w.heap.size w w':=by
 obtain⟨f1,f2,f3,aQ⟩:=aQ;obtain⟨c1,c2,c3,hcv⟩:=hcv;have n1:(o.kind==1)=false:=by rw[cn];omega
 have n2:(o.kind==2)=false:=by rw[cn];omega
 have n3:(o.kind==3)=false:=by rw[cn];omega
 have n4:(o.kind==4)=false:=by rw[cn];omega
 have n5:(o.kind==5)=false:=by rw[cn];omega
 have n6:(o.kind==6)=false:=by rw[cn];omega
 have n7:(o.kind==7)=false:=by rw[cn];omega
 have n8:(o.kind==8)=false:=by rw[cn];omega
 clear hK;simp only[cW,bw,aQ,hcv,x4];generalize o.kind=kk at *;go_enter func46,ntmps46;go_wp2_with fail;go_ret;exact⟨rfl,(aN _ _).alloc (aC _) _⟩
end lt
end Go.Proofs.YtnmfmoimjkoieaaGreatDoor
