import Derived.Test.YtnmfmoimjkoieaaGreatDoorF06
import Derived.Test.YtnmfmoimjkoieaaGreatDoorF07
set_option maxHeartbeats 25600000
set_option maxRecDepth 100000
set_option linter.all false
namespace Go.Proofs.YtnmfmoimjkoieaaGreatDoor
open Go.Proofs.Tryz
namespace rd
open Go.RowKit aD av aM
def iL(k:Int):Int:=if k=6\/k=8\/k=10 then 2 else 0
def jd(k f:Nat):Option ay:=if k=0\/15<=k then none else if k≠3 then(if(f:Int)=iL k then some {bA with kind:=(k:Int)}else none)else if 2<f/2%4\/decide (f/8=1)=true/\f/2%4=0 then none else some {bA with kind:=3,dup:=decide (f/8=1),qos:=((f/2%4:Nat):Int),aF:=decide (f%2=1)}
def xB(bc:Addr)(w:World)(R:Option ay)(e:Ending)(w':World):Prop:=Below w.heap.size w w'/\match R with|some p=>e=.returned (.tuple #[.agg (aL p),.nilIface])|none=>∃v,e=.returned (.tuple #[.agg (aL bA),v])/\o6 bc 1 v
theorem acv:∀x:Fin 256,bits .and .i64 ((x.val:Nat):Int) 15=((x.val%16:Nat):Int):=by decide+kernel
theorem IV:∀x:Fin 16,(bits .and .i64 ((x.val:Nat):Int) 8 !=0)=decide (x.val/8=1):=by decide+kernel
theorem IU:∀x:Fin 16,(bits .and .i64 ((x.val:Nat):Int) 1 !=0)=decide (x.val%2=1):=by decide+kernel
theorem IW:∀x:Fin 16,bits .and .i64 (((x.val:Nat):Int)/2) 3=((x.val/2%4:Nat):Int):=by decide+kernel
theorem N1(k:Int)(w:World):Calls prog 119 #[.int .i64 k] w λe w'=>e=.returned (.int .i64 (iL k))/\w'=w:=by
 unfold iL;by_cases h:k=6\/k=8\/k=10;·rw[ax h];rcases h with rfl|rfl|rfl;all_goals go_enter func119,ntmps119;go_wp2;go_ret;exact⟨rfl,rfl⟩
 ·rw[au h];have h6:(k==6)=false:=cn.2 (by omega);have h8:(k==8)=false:=cn.2 (by omega);have h10:(k==10)=false:=cn.2 (by omega);clear h;go_enter func119,ntmps119;go_wp2;go_ret;exact⟨rfl,rfl⟩
theorem agj(bc:Addr)(w:World)(b k f:Nat)(hbl:(b:Int)<256)(hw:w.cell? ⟨0,0,none⟩=some (.iface 331 (.pointer (some bc))))(nE:bits .and .i64 (b:Int) 15=(f:Int))(hdiv:(b:Int)/16=(k:Int))(_hF:f<16)(hk:k=0):Calls prog 85 #[.int .u8 (b:Int)] w (xB bc w (none)):=by
 have lt:∀o,(w.alloc o).cell? ⟨0,0,none⟩=some (.iface 331 (.pointer (some bc))):=λo=>by rw[kL (av.eU hw)];exact hw
 have Cq:∀o o',((w.alloc o).alloc o').cell? ⟨0,0,none⟩=some (.iface 331 (.pointer (some bc))):=λo o'=>by rw[kL (av.eU (lt o))];exact lt o
 subst hk;go_enter func85,ntmps85;go_wp2;go_region;go_wp2;refine dJ (v:=.tuple #[.agg (aL bA),.iface 171 (.agg #[.string ⟨#[107,105,110,100]⟩,.iface 331 (.pointer (some bc))])]) (by simp[results,results85,go_sem,aL,bA,bs]) rfl ?_;exact⟨by first|exact((aN _ _).alloc (aC _) _).drew|exact(((aN _ _).alloc (aC _) _).alloc (by simp) _).drew,_,rfl,_,_,rfl,rfl⟩
theorem agi(bc:Addr)(w:World)(b k f:Nat)(hbl:(b:Int)<256)(hw:w.cell? ⟨0,0,none⟩=some (.iface 331 (.pointer (some bc))))(nE:bits .and .i64 (b:Int) 15=(f:Int))(hdiv:(b:Int)/16=(k:Int))(_hF:f<16)(hk:15<=k):Calls prog 85 #[.int .u8 (b:Int)] w (xB bc w (none)):=by
 have lt:∀o,(w.alloc o).cell? ⟨0,0,none⟩=some (.iface 331 (.pointer (some bc))):=λo=>by rw[kL (av.eU hw)];exact hw
 have Cq:∀o o',((w.alloc o).alloc o').cell? ⟨0,0,none⟩=some (.iface 331 (.pointer (some bc))):=λo o'=>by rw[kL (av.eU (lt o))];exact lt o
 have DZ:((k:Int)==0)=false:=cn.2 (by omega);have Pb:(15:Int)<=(k:Int):=by omega
 go_enter func85,ntmps85;go_wp2;go_region;go_wp2;refine dJ (v:=.tuple #[.agg (aL bA),.iface 171 (.agg #[.string ⟨#[107,105,110,100]⟩,.iface 331 (.pointer (some bc))])]) (by simp[results,results85,go_sem,aL,bA,bs]) rfl ?_;exact⟨by first|exact((aN _ _).alloc (aC _) _).drew|exact(((aN _ _).alloc (aC _) _).alloc (by simp) _).drew,_,rfl,_,_,rfl,rfl⟩
theorem agh(bc:Addr)(w:World)(b k f:Nat)(hbl:(b:Int)<256)(hw:w.cell? ⟨0,0,none⟩=some (.iface 331 (.pointer (some bc))))(nE:bits .and .i64 (b:Int) 15=(f:Int))(hdiv:(b:Int)/16=(k:Int))(_hF:f<16)(h0:¬(k=0\/15<=k))(h3:k≠3)(hf:(f:Int)=iL k):Calls prog 85 #[.int .u8 (b:Int)] w (xB bc w (some {bA with kind:=(k:Int)})):=by
 have lt:∀o,(w.alloc o).cell? ⟨0,0,none⟩=some (.iface 331 (.pointer (some bc))):=λo=>by rw[kL (av.eU hw)];exact hw
 have Cq:∀o o',((w.alloc o).alloc o').cell? ⟨0,0,none⟩=some (.iface 331 (.pointer (some bc))):=λo o'=>by rw[kL (av.eU (lt o))];exact lt o
 have DZ:((k:Int)==0)=false:=cn.2 (by omega);have Pb:¬((15:Int)<=(k:Int)):=by omega
 have hk3:((k:Int)==3)=false:=cn.2 (by omega);have cr:=ac λw=>N1 (k:Int) w;have qT:((f:Int)==iL k)=true:=od.2 hf;generalize iL (k:Int)=X at *;clear hf h0 h3;go_enter func85,ntmps85;go_wp2_with(go_at_call 119;refine(aY cr _).mono ?_;rintro e w2 ⟨rfl,rfl⟩);refine dJ (v:=.tuple #[.agg (aL {bA with kind:=(k:Int)}),.nilIface]) (by simp[results,results85,go_sem,aL,bA,bs]) rfl ?_;exact⟨((aN _ _).alloc (aC _) _).alloc (by simp) _,rfl⟩
theorem agm(bc:Addr)(w:World)(b k f:Nat)(hbl:(b:Int)<256)(hw:w.cell? ⟨0,0,none⟩=some (.iface 331 (.pointer (some bc))))(nE:bits .and .i64 (b:Int) 15=(f:Int))(hdiv:(b:Int)/16=(k:Int))(_hF:f<16)(h0:¬(k=0\/15<=k))(h3:k≠3)(hf:¬(f:Int)=iL k):Calls prog 85 #[.int .u8 (b:Int)] w (xB bc w (none)):=by
 have lt:∀o,(w.alloc o).cell? ⟨0,0,none⟩=some (.iface 331 (.pointer (some bc))):=λo=>by rw[kL (av.eU hw)];exact hw
 have Cq:∀o o',((w.alloc o).alloc o').cell? ⟨0,0,none⟩=some (.iface 331 (.pointer (some bc))):=λo o'=>by rw[kL (av.eU (lt o))];exact lt o
 have DZ:((k:Int)==0)=false:=cn.2 (by omega);have Pb:¬((15:Int)<=(k:Int)):=by omega
 have hk3:((k:Int)==3)=false:=cn.2 (by omega);have cr:=ac λw=>N1 (k:Int) w;have qT:((f:Int)==iL k)=false:=cn.2 hf;generalize iL (k:Int)=X at *;clear hf h0 h3;go_enter func85,ntmps85;go_wp2_with(go_at_call 119;refine(aY cr _).mono ?_;rintro e w2 ⟨rfl,rfl⟩);go_region;go_wp2;refine dJ (v:=.tuple #[.agg (aL bA),.iface 171 (.agg #[.string ⟨#[102,108,97,103,115]⟩,.iface 331 (.pointer (some bc))])]) (by simp[results,results85,go_sem,aL,bA,bs]) rfl ?_;exact⟨by first|exact((aN _ _).alloc (aC _) _).drew|exact(((aN _ _).alloc (aC _) _).alloc (by simp) _).drew,_,rfl,_,_,rfl,rfl⟩
theorem af9(bc:Addr)(w:World)(b k f:Nat)(hbl:(b:Int)<256)(hw:w.cell? ⟨0,0,none⟩=some (.iface 331 (.pointer (some bc))))(nE:bits .and .i64 (b:Int) 15=(f:Int))(hdiv:(b:Int)/16=(k:Int))(hF:f<16)(hk:k=3)(hq2:2<f/2%4):Calls prog 85 #[.int .u8 (b:Int)] w (xB bc w (none)):=by
 have lt:∀o,(w.alloc o).cell? ⟨0,0,none⟩=some (.iface 331 (.pointer (some bc))):=λo=>by rw[kL (av.eU hw)];exact hw
 have Cq:∀o o',((w.alloc o).alloc o').cell? ⟨0,0,none⟩=some (.iface 331 (.pointer (some bc))):=λo o'=>by rw[kL (av.eU (lt o))];exact lt o
 subst hk;have a8:=IV ⟨f,hF⟩;have a1:=IU ⟨f,hF⟩;have Bw:=IW ⟨f,hF⟩;simp only at a8 a1 Bw;have vJ:f/2%4<4:=Bn _ (by decide);generalize f/2%4=Q at *;generalize decide (f/8=1)=D at *;generalize decide (f%2=1)=T at *;have hz:(2:Int)<(Q:Int):=by omega
 go_enter func85,ntmps85;go_wp2;go_region;go_wp2;refine dJ (v:=.tuple #[.agg (aL bA),.iface 171 (.agg #[.string ⟨#[102,108,97,103,115]⟩,.iface 331 (.pointer (some bc))])]) (by simp[results,results85,go_sem,aL,bA,bs]) rfl ?_;exact⟨by first|exact((aN _ _).alloc (aC _) _).drew|exact(((aN _ _).alloc (aC _) _).alloc (by simp) _).drew,_,rfl,_,_,rfl,rfl⟩
theorem aga(bc:Addr)(w:World)(b k f:Nat)(hbl:(b:Int)<256)(hw:w.cell? ⟨0,0,none⟩=some (.iface 331 (.pointer (some bc))))(nE:bits .and .i64 (b:Int) 15=(f:Int))(hdiv:(b:Int)/16=(k:Int))(hF:f<16)(hk:k=3)(hq2:¬2<f/2%4)(hD:decide (f/8=1)=false):Calls prog 85 #[.int .u8 (b:Int)] w (xB bc w (some {bA with kind:=3,dup:=false,qos:=((f/2%4:Nat):Int),aF:=decide (f%2=1)})):=by
 have lt:∀o,(w.alloc o).cell? ⟨0,0,none⟩=some (.iface 331 (.pointer (some bc))):=λo=>by rw[kL (av.eU hw)];exact hw
 have Cq:∀o o',((w.alloc o).alloc o').cell? ⟨0,0,none⟩=some (.iface 331 (.pointer (some bc))):=λo o'=>by rw[kL (av.eU (lt o))];exact lt o
 subst hk;have a8:=IV ⟨f,hF⟩;have a1:=IU ⟨f,hF⟩;have Bw:=IW ⟨f,hF⟩;simp only at a8 a1 Bw;have vJ:f/2%4<4:=Bn _ (by decide);generalize f/2%4=Q at *;generalize decide (f/8=1)=D at *;generalize decide (f%2=1)=T at *;have hz:¬((2:Int)<(Q:Int)):=by omega
 subst hD;clear hq2;go_enter func85,ntmps85;go_wp2;refine dJ (v:=.tuple #[.agg (aL {bA with kind:=3,dup:=false,qos:=(Q:Int),aF:=T}),.nilIface]) (by simp[results,results85,go_sem,aL,bA,bs]) rfl ?_;exact⟨((aN _ _).alloc (aC _) _).alloc (by simp) _,rfl⟩
theorem agc(bc:Addr)(w:World)(b k f:Nat)(hbl:(b:Int)<256)(hw:w.cell? ⟨0,0,none⟩=some (.iface 331 (.pointer (some bc))))(nE:bits .and .i64 (b:Int) 15=(f:Int))(hdiv:(b:Int)/16=(k:Int))(hF:f<16)(hk:k=3)(hD:decide (f/8=1)=true)(hq0:f/2%4=0):Calls prog 85 #[.int .u8 (b:Int)] w (xB bc w (none)):=by
 have lt:∀o,(w.alloc o).cell? ⟨0,0,none⟩=some (.iface 331 (.pointer (some bc))):=λo=>by rw[kL (av.eU hw)];exact hw
 have Cq:∀o o',((w.alloc o).alloc o').cell? ⟨0,0,none⟩=some (.iface 331 (.pointer (some bc))):=λo o'=>by rw[kL (av.eU (lt o))];exact lt o
 subst hk;have a8:=IV ⟨f,hF⟩;have a1:=IU ⟨f,hF⟩;have Bw:=IW ⟨f,hF⟩;simp only at a8 a1 Bw;have vJ:f/2%4<4:=Bn _ (by decide);generalize f/2%4=Q at *;generalize decide (f/8=1)=D at *;generalize decide (f%2=1)=T at *;have hz:¬((2:Int)<(Q:Int)):=by omega
 subst hD;have G7:((Q:Int)==0)=true:=od.2 (by omega);clear hq0;go_enter func85,ntmps85;go_wp2;go_region;go_wp2;refine dJ (v:=.tuple #[.agg (aL bA),.iface 171 (.agg #[.string ⟨#[102,108,97,103,115]⟩,.iface 331 (.pointer (some bc))])]) (by simp[results,results85,go_sem,aL,bA,bs]) rfl ?_;exact⟨by first|exact((aN _ _).alloc (aC _) _).drew|exact(((aN _ _).alloc (aC _) _).alloc (by simp) _).drew,_,rfl,_,_,rfl,rfl⟩
theorem agb(bc:Addr)(w:World)(b k f:Nat)(hbl:(b:Int)<256)(hw:w.cell? ⟨0,0,none⟩=some (.iface 331 (.pointer (some bc))))(nE:bits .and .i64 (b:Int) 15=(f:Int))(hdiv:(b:Int)/16=(k:Int))(hF:f<16)(hk:k=3)(hq2:¬2<f/2%4)(hD:decide (f/8=1)=true)(hq0:¬f/2%4=0):Calls prog 85 #[.int .u8 (b:Int)] w (xB bc w (some {bA with kind:=3,dup:=true,qos:=((f/2%4:Nat):Int),aF:=decide (f%2=1)})):=by
 have lt:∀o,(w.alloc o).cell? ⟨0,0,none⟩=some (.iface 331 (.pointer (some bc))):=λo=>by rw[kL (av.eU hw)];exact hw
 have Cq:∀o o',((w.alloc o).alloc o').cell? ⟨0,0,none⟩=some (.iface 331 (.pointer (some bc))):=λo o'=>by rw[kL (av.eU (lt o))];exact lt o
 subst hk;have a8:=IV ⟨f,hF⟩;have a1:=IU ⟨f,hF⟩;have Bw:=IW ⟨f,hF⟩;simp only at a8 a1 Bw;have vJ:f/2%4<4:=Bn _ (by decide);generalize f/2%4=Q at *;generalize decide (f/8=1)=D at *;generalize decide (f%2=1)=T at *;have hz:¬((2:Int)<(Q:Int)):=by omega
 subst hD;have G7:((Q:Int)==0)=false:=cn.2 (by omega);clear hq2 hq0;go_enter func85,ntmps85;go_wp2;refine dJ (v:=.tuple #[.agg (aL {bA with kind:=3,dup:=true,qos:=(Q:Int),aF:=T}),.nilIface]) (by simp[results,results85,go_sem,aL,bA,bs]) rfl ?_;exact⟨((aN _ _).alloc (aC _) _).alloc (by simp) _,rfl⟩
theorem alX(bW bc:Addr)(w:World)(b:Nat)(hb:b<256)(hE:qj bW bc w):Calls prog 85 #[.int .u8 (b:Int)] w (xB bc w (jd (b/16) (b%16))):=by
 have hw:=hE.wrong;have nE:=acv ⟨b,hb⟩;simp only at nE;have hF:b%16<16:=by omega
 have hdiv:(b:Int)/16=((b/16:Nat):Int):=by omega
 have hbl:(b:Int)<256:=by omega
 clear hE;generalize b/16=k at *;generalize b%16=f at *;unfold jd;by_cases h0:k=0\/15<=k;·rw[ax h0];rcases h0 with h0|h0;(·exact agj bc w b k f hbl hw nE hdiv hF h0);·exact agi bc w b k f hbl hw nE hdiv hF h0
 ·rw[au h0];by_cases h3:k=3;(·rw[au (by simpa using h3)];by_cases hq2:2<f/2%4;(·rw[ax (ai hq2)];exact af9 bc w b k f hbl hw nE hdiv hF h3 hq2);·cases hD:decide (f/8=1);(·rw[au (by simp;omega)];exact aga bc w b k f hbl hw nE hdiv hF h3 hq2 hD);·by_cases hq0:f/2%4=0;(·rw[ax (ag ⟨rfl,hq0⟩)];exact agc bc w b k f hbl hw nE hdiv hF h3 hD hq0);·rw[au (by simp;omega)];exact agb bc w b k f hbl hw nE hdiv hF h3 hq2 hD hq0);·rw[ax h3];by_cases hf:(f:Int)=iL k;(·rw[ax hf];exact agh bc w b k f hbl hw nE hdiv hF h0 h3 hf);·rw[au hf];exact agm bc w b k f hbl hw nE hdiv hF h0 h3 hf
end rd
end Go.Proofs.YtnmfmoimjkoieaaGreatDoor
