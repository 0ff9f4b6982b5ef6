import Derived.Test.YtnmfmoimjkoieaaGreatDoorF22
import Derived.Test.YtnmfmoimjkoieaaGreatDoorF21
import Derived.Test.YtnmfmoimjkoieaaGreatDoorF20
import Derived.Test.YtnmfmoimjkoieaaGreatDoorF14
import Derived.Deep.QuietTactic
import Derived.BigQuiet
import Derived.Deep.RegionHeld3
import Derived.Deep.AppendLies
import Derived.Deep.DrawnRows
import Derived.Laws.AppendOwnNone
namespace Go.Proofs.YtnmfmoimjkoieaaGreatDoor
namespace ew
open Go.RowKit topPlain topWalks decPlain encPlain rd
open rf (FilV IntV)
theorem pk15 {w:World} {b:Nat} {t:TypeId} {v0 v1 v2 v3 v4 v5 v6 v7 v8 v9 v10 v11 v12 v13 v14:Value} (h:w.heap[b]?=some (.cells #[v0,v1,v2,v3,v4,v5,v6,v7,v8,v9,v10,v11,v12,v13,v14] t)):w.cell? ⟨b,0,none⟩=some v0∧w.cell? ⟨b,1,none⟩=some v1∧w.cell? ⟨b,2,none⟩=some v2∧w.cell? ⟨b,3,none⟩=some v3∧w.cell? ⟨b,4,none⟩=some v4∧w.cell? ⟨b,5,none⟩=some v5∧w.cell? ⟨b,6,none⟩=some v6∧w.cell? ⟨b,7,none⟩=some v7∧w.cell? ⟨b,8,none⟩=some v8∧w.cell? ⟨b,9,none⟩=some v9∧w.cell? ⟨b,10,none⟩=some v10∧w.cell? ⟨b,11,none⟩=some v11∧w.cell? ⟨b,12,none⟩=some v12∧w.cell? ⟨b,13,none⟩=some v13∧w.cell? ⟨b,14,none⟩=some v14:=by
 refine ⟨?_,?_,?_,?_,?_,?_,?_,?_,?_,?_,?_,?_,?_,?_,?_⟩
 all_goals simp [World.cell?,h]
theorem filB_of {w:World} {v:Value} {fs:List (List UInt8×Int)} (h:FilW w v fs):FilB w.heap.size w v fs:=by
 obtain ⟨q,cap,h1,h2,h3⟩:=h
 exact ⟨q,cap,h1,h2,fun j f hf=>by obtain ⟨g,o,a,b,c⟩:=h3 j f hf;exact ⟨g,o,a,b,c⟩⟩
theorem intB_of {w:World} {v:Value} {cs:List Int} (h:IntW w v cs):IntB w.heap.size w v cs:=by
 obtain ⟨q,cap,h1,h2,h3⟩:=h
 exact ⟨q,cap,h1,h2,fun j f hf=>by obtain ⟨g,o,a,b,c⟩:=h3 j f hf;exact ⟨g,o,a,b,c⟩⟩
theorem FilB.more {B C:Nat} {w w':World} {v:Value} {fs:List (List UInt8×Int)} (h:FilB B w v fs) (hB:B≤C) (hc:∀ g i,g < B→w'.cell? ⟨g,i,none⟩=w.cell? ⟨g,i,none⟩):FilB C w' v fs:=by
 obtain ⟨q,cap,h1,h2,h3⟩:=h
 refine ⟨q,cap,h1,h2,fun j f hf=>?_⟩
 obtain ⟨g,o,e,hg,a,b⟩:=h3 j f hf
 exact ⟨g,o,e,by omega,by rw [hc g _ hg];exact a,by rw [hc g _ hg];exact b⟩
theorem IntB.more {B C:Nat} {w w':World} {v:Value} {cs:List Int} (h:IntB B w v cs) (hB:B≤C) (hc:∀ g i,g < B→w'.cell? ⟨g,i,none⟩=w.cell? ⟨g,i,none⟩):IntB C w' v cs:=by
 obtain ⟨q,cap,h1,h2,h3⟩:=h
 refine ⟨q,cap,h1,h2,fun j f hf=>?_⟩
 obtain ⟨g,o,e,hg,a⟩:=h3 j f hf
 exact ⟨g,o,e,by omega,by rw [hc g _ hg];exact a⟩
theorem own_one {w:World} {C:Nat} (x:Value) (hC:C≤w.heap.size):(w.alloc (.cells #[x] 5)).ownsRow C 5 1 (.slice (some ⟨w.heap.size,0,none⟩) 1 1) 1 [x]:=
 ⟨rfl,Or.inr ⟨w.heap.size,1,#[x],rfl,hC,Go.Deep.blk_alloc_new _ _,by omega,by unfold maxLen;omega,rfl,rfl⟩⟩
theorem two_cells {X:World} {b:Nat} {t:TypeId} {v0 v1:Value} (h:X.heap[b]?=some (.cells #[v0,v1] t)):X.cell? ⟨b,0,none⟩=some v0∧X.cell? ⟨b,1,none⟩=some v1∧X.frozen? ⟨b,0,none⟩=false∧X.frozen? ⟨b,1,none⟩=false:=by
 refine ⟨?_,?_,?_,?_⟩
 · simp [World.cell?,h]
 · simp [World.cell?,h]
 · simp [World.frozen?,h]
 · simp [World.frozen?,h]
theorem ws_new (w:World) (o:Obj):Ws (w.heap.size+1) (w.heap.size+2) ((w.alloc o).alloc (.cells #[.slice none 0 0,.bool false] 169)) (some []):=by
 have hb:((w.alloc o).alloc (.cells #[.slice none 0 0,.bool false] 169)).heap[w.heap.size+1]?=some (.cells #[.slice none 0 0,.bool false] 169):=by
  have:=Go.Deep.blk_alloc_new (w.alloc o) (.cells #[.slice none 0 0,.bool false] 169)
  simpa using this
 obtain ⟨h1,h2,h3,h4⟩:=two_cells hb
 exact ⟨.slice none 0 0,⟨by omega,by simp,h1,h2,h3,h4,⟨rfl,Or.inl ⟨rfl,rfl⟩⟩,by simp⟩⟩
def EncPost (aw:Addr) (w:World) (R:Option (List UInt8)) (e:Ending) (w':World):Prop:=
 Below w.heap.size w w'∧match R with
  | none=>∃ v n,e=.returned (.tuple #[.slice none 0 0,v])∧Nest aw (n+1) v
  | some b=>∃ v,e=.returned (.tuple #[v,.nilIface])∧w'.ownsRow w.heap.size 5 1 v b.length (u8s b)
def encR (p:Pkt) (fs:List (List UInt8×Int)) (cs:List Int) (b:List UInt8) (D:Bool ⊕ ((Pkt×List (List UInt8×Int)×List Int)×Nat)):Option (List UInt8):=match D with
 | .inl _=>none
 | .inr (q,_)=>if sameP p q.1∧fs=q.2.1∧cs=q.2.2 then some b else none
theorem encL_eq (fw cb:UInt8) (p:Pkt) (fs:List (List UInt8×Int)) (cs:List Int):encL fw cb p fs cs=if 300 < (bodyW cb p fs cs).length then none else encR p fs cs (fw :: (lenW (bodyW cb p fs cs).length ++ bodyW cb p fs cs)) (decL (fw :: (lenW (bodyW cb p fs cs).length ++ bodyW cb p fs cs))):=by
 unfold encL encR
 rfl
def dropSeq:Nat→Code→Code
 | 0,c=>c
 | n+1,.seq _ c=>dropSeq n c
 | _,c=>c
theorem wpList_append_two {P:Program} (w:World) {ops:Array Oper} {rest:List Oper} {o:Oper} {a:Act} {Q:Exit→Act→World→Prop} (hgd:o.guard=none) (s x:Operand) (t:TypeId)
 (ho:o.op=.call { callee:=.builtin .append,args:=#[s,x],argTypes:=#[t,t] }) (base:Nat) (e:TypeId) (i:TypeInfo) (z:Value) (size bytes:Nat) (ht:P.underlying t=some (.slice e)) (hi:P.info? e=some i) (hz:i.zero=some z)
 (hsize:i.size=size) (hby:i.bytes=bytes) (hzs:z.cells.size=size) (hsz:0 < size) (v:Value) (n:Nat) (xs:List Value) (hs:a.eval s=v) (hown:w.ownsRow base e size v n xs)
 (base2:Nat) (vx:Value) (m:Nat) (news:List Value) (hx:a.eval x=vx) (hown2:w.ownsRow base2 e size vx m news) (h1:∀ u∈news,u.oneCell'=true)
 (h63:n+m≤maxLen) (hbytes:(n+m)*bytes≤140737488355328) (hbase:base≤w.heap.size)
 (h:∀ v' w',w'.ownsRow base e size v' (n+m) (xs ++ news)→w.grownBy w' v.ownBlock→wpList P ops Q rest (a.put o.dst v') w'):wpList P ops Q (o :: rest) a w:=by
 rcases hown2.2 with ⟨e1,e2⟩ | ⟨g,cap,cur,e1,_⟩
 · have hn:news = []:=by have:=hown2.1;rw [e2,Nat.zero_mul] at this;exact List.eq_nil_of_length_eq_zero this
   subst hn e2
   refine wpList_append_own_none hgd s x t ho base e i size ht hi v n xs hs hown (hx.trans e1) ?_
   refine h v w ?_ (grown_refl _ _)
   rw [List.append_nil]
   exact hown
 · refine wpList_append_own_at w hgd s x t ho base e i z size bytes ht hi hz hsize hby hzs hsz v n xs hs hown ⟨g,0,none⟩ m cap news (hx.trans e1) hown2.1 (hown2.cells (by rw [e1];rfl)) h1 h63 hbytes hbase ?_
   intro v' w' h2 h3 _ _
   exact h v' w' h2 h3
theorem own_base {w:World} {C C':Nat} {e:TypeId} {sz n:Nat} {v:Value} {xs:List Value} (h:w.ownsRow C e sz v n xs) (hC:C'≤C):w.ownsRow C' e sz v n xs:=by
 refine ⟨h.1,?_⟩
 rcases h.2 with h0 | ⟨g,cap,cur,e1,h1,h2⟩
 · exact Or.inl h0
 · exact Or.inr ⟨g,cap,cur,e1,by omega,h2⟩
theorem not_short (fw:UInt8) {B:List UInt8} (h:B.length≤300):decL (fw :: (lenW B.length ++ B))≠.inl true:=by
 intro hd
 unfold decL at hd
 simp only [lenL_lenW h] at hd
 split at hd
 · cases hd
 · rw [if_neg (by simp)] at hd
   split at hd
   · cases hd
   · cases hd
theorem u8s_one (l:List UInt8):∀ u∈u8s l,u.oneCell'=true:=fun u hu=>by
 simp [u8s] at hu;obtain ⟨x,_,rfl⟩:=hu;rfl
theorem bytesV_own {w:World} {C:Nat} {g cap:Nat} {l:List UInt8} (h:w.ownsRow C 5 1 (.slice (some ⟨g,0,none⟩) l.length cap) l.length (u8s l)):BytesV w.heap.size w (.slice (some ⟨g,0,none⟩) l.length cap) l:=by
 rcases h.2 with ⟨e1,_⟩ | ⟨g',cap',cur,e1,h1,h2,h3,h4,h5,h6⟩
 · cases e1
 · simp only [Value.slice.injEq,Option.some.injEq,Addr.mk.injEq,and_true,true_and] at e1
   obtain ⟨rfl,rfl⟩:=e1
   refine ⟨g,0,cap,rfl,h3,h4,(Array.getElem?_eq_some_iff.1 h2).1,fun j x hx=>?_⟩
   have hc:=h.cells (g:=g) rfl j (.int .u8 (x.toNat:Int)) (by simp [u8s,hx])
   have e:(⟨g,0,none⟩:Addr).add j=⟨g,j,none⟩:=by cases j<;>simp [Addr.add]
   rw [e] at hc
   rw [Nat.zero_add]
   exact hc
set_option maxHeartbeats 3200000 in
set_option maxRecDepth 100000 in
theorem enc_rest (ash aw:Addr) (w w7:World) (p:Pkt) (fs:List (List UInt8×Int)) (cs:List Int) (fw:UInt8) (L6 B:List UInt8) (q:Option Addr) (cap g7 cap7 C1:Nat)
 (hBw:Below w.heap.size w w7) (hP:w7.heap[w.heap.size]?=some (.cells (pkCells p) 36)) (k7:w7.cell? ⟨w.heap.size+1,0,none⟩=some (.slice q B.length cap)) (hbody:w7.ownsRow (w.heap.size+2) 5 1 (.slice q B.length cap) B.length (u8s B)) (hO:w7.ownsRow C1 5 1 (.slice (some ⟨g7,0,none⟩) (1+L6.length) cap7) (1+L6.length) (u8s (fw :: L6))) (hC1:w.heap.size+2≤C1) (hC2:C1≤w7.heap.size)
 (hB:B.length≤300) (hL:L6.length≤2) (hf:FilW w p.fv fs) (hc:IntW w p.cv cs) (hE:Errs ash aw w) (hEnv:Env aw w.heap.size w) (R:Option (List UInt8))
 (hR:R=encR p fs cs (fw :: (L6 ++ B)) (decL (fw :: (L6 ++ B)))) (hns:decL (fw :: (L6 ++ B))≠.inl true) (u0 u2 u3 u6 u7 u8 u9 u10 u11 u12 u13 u14 u15 u16 u17 u18 u19 u20 u21 u22 u23 u24 u25 u26 u27 u28 u29 u30 u31 u32 u33 u34 u35 u36 u37 u38 u39 u40 u41 u42 u43 u44 u45 u46:Value) :
 Code.wp Tryz.prog (dropSeq 5 (Tryz.f53.body.getD .skip)) (bodyPost Tryz.prog Tryz.f53 (EncPost aw w R)) ⟨#[u0,.pointer (some ⟨w.heap.size,0,none⟩),u2,u3,.pointer (some ⟨w.heap.size+1,0,none⟩),.slice (some ⟨g7,0,none⟩) (1+L6.length) cap7,u6,u7,u8,u9,u10,u11,u12,u13,u14,u15,u16,u17,u18,u19,u20,u21,u22,u23,u24,u25,u26,u27,u28,u29,u30,u31,u32,u33,u34,u35,u36,u37,u38,u39,u40,u41,u42,u43,u44,u45,u46],[]⟩ w7:=by
 obtain ⟨i0,hi,hz0,hz1,hz2⟩:=info_parts infoB
 have HR:=hide hR
 have HNS:=hide hns
 have HE:=hide hE
 have HN:=hide hEnv
 have HFV:=hide hf
 have HCV:=hide hc
 have HBW:=hide hBw
 have HBD:=hide hbody
 have HO:=hide hO
 have HP:=hide hP
 have hs7:=hBw.size
 clear hR hns hE hEnv hf hc hBw hbody hO hP
 conv=>arg 2;whnf
 go_wp2_with (first
  | (at_builtin;refine wpList_append_two _ rfl _ _ 45 rfl C1 5 i0 (.int .u8 0) 1 1 Tryz.underlying45 hi hz0 hz1 hz2 rfl (by decide) _ (1+L6.length) (u8s (fw :: L6)) rfl HO.out (w.heap.size+2) (.slice q B.length cap) B.length (u8s B) rfl HBD.out (u8s_one _) (by unfold maxLen;omega) (by omega) hC2 ?_))
 intro v8 w8 hown8 hgrow8
 obtain ⟨g8,cap8,rfl⟩:=own_form hown8 (by omega)
 have hl8:1+L6.length+B.length=(fw :: (L6 ++ B)).length:=by simp;omega
 rw [← u8s_append,List.cons_append,hl8] at hown8
 rw [hl8]
 have hgo:=HO.out.lt g7 rfl
 have hb78:Below w.heap.size w w8:=HBW.out.trans ⟨hgrow8.os,hgrow8.tape,hgrow8.output,hgrow8.size,fun k hk=>hgrow8.block k (by omega) (fun e=>by have:=Option.some.inj e;simp at this;omega)⟩
 have hP8:w8.heap[w.heap.size]?=some (.cells (pkCells p) 36):=(hgrow8.block _ (by omega) (fun e=>by have:=Option.some.inj e;simp at this;omega)).trans HP.out
 have hs8:w7.heap.size≤w8.heap.size:=hgrow8.size
 have HO8:=hide hown8
 have HB8:=hide hb78
 have HP8:=hide hP8
 clear hown8 hgrow8 hb78 hP8 k7
 have cD:=hide (decode_any ash aw w8 (fw :: (L6 ++ B)) _ (by rw [← hl8];omega) (Or.inr (bytesV_own HO8.out)) (HE.out.below HB8.out) (by
  have hn:=HN.out.below HB8.out
  exact ⟨by have:=hn.low;omega,Nat.le_refl _,hn.err,hn.inv⟩))
 have hRd:=HR.out
 have hnd:=HNS.out
 revert hRd hnd cD
 clear HR HNS
 generalize hD:decL (fw :: (L6 ++ B))=D
 clear hD
 intro cD hRd hnd
 generalize fw :: (L6 ++ B)=b at *
 have HRD:=hide hRd
 clear hRd
 go_wp2_with fail
 refine cD.out.mono ?_
 rintro e w9 ⟨hb9,h9⟩
 have HB9:=hide hb9
 have hs9:=hb9.size
 clear hb9
 cases D with
 | inl s =>
   cases s with
   | true=>exact absurd rfl hnd
   | false =>
     obtain ⟨ve,ne,rfl,hne⟩:=h9
     obtain ⟨wh,c2,rfl,hn2⟩:=hne
     have HNN:=hide hn2
     have hRn:R=none:=HRD.out
     subst hRn
     clear hn2 hnd HRD cD
     simp only [pkCells,zeroP]
     go_wp2
     go_ret2
     exact ⟨HB8.out.trans (((HB9.out.mono (by omega)).alloc (by omega) _)),_,ne+1,rfl,_,_,rfl,_,_,rfl,HNN.out⟩
 | inr r =>
   obtain ⟨⟨pk,gs,ds⟩,m⟩:=r
   obtain ⟨fq,cq,rfl,hO1,hO2⟩:=h9
   have HO1:=hide hO1
   have HO2:=hide hO2
   obtain ⟨pf,nf,cf,rfl⟩:=own_slice hO1
   obtain ⟨pc,nc,cc,rfl⟩:=own_slice hO2
   clear hO1 hO2 hnd cD
   simp only [pkCells]
   have hP9:w9.heap[w.heap.size]?=some (.cells (pkCells p) 36):=(HB9.out.block _ (by omega)).trans HP8.out
   simp only [pkCells] at hP9
   obtain ⟨x0,x1,x2,x3,x4,x5,x6,x7,x8,x9,x10,x11,x12,x13,x14⟩:=pk15 hP9
   have hfp:∃ a n c,p.fv=.slice a n c:=by obtain ⟨a,c,e,_⟩:=HFV.out;exact ⟨a,_,c,e⟩
   have hcp:∃ a n c,p.cv=.slice a n c:=by obtain ⟨a,c,e,_⟩:=HCV.out;exact ⟨a,_,c,e⟩
   obtain ⟨a1,n1,c1,e1⟩:=hfp
   obtain ⟨a2,n2,c2,e2⟩:=hcp
   rw [e1] at x13
   rw [e2] at x14
   have HE1:=hide e1
   have HE2:=hide e2
   have hs89:w.heap.size≤w8.heap.size:=by omega
   have hlt9:w.heap.size < w9.heap.size:=by omega
   have HBA:=hide fun o=>(HB8.out.trans ((HB9.out.mono hs89).alloc (by omega) o))
   have cS:=hide fun o=>psame_any p { pk with fv:=.slice pf gs.length nf,cv:=.slice pc ds.length nc } fs gs cs ds (w9.alloc o) (filW_below HFV.out (HBA.out o)) (filW_of (lw.filV_of (own_below HO1.out ((Below.refl _ _).alloc (Nat.le_refl _) o)))) (intW_below HCV.out (HBA.out o)) (intW_of (lw.intV_of (own_below HO2.out ((Below.refl _ _).alloc (Nat.le_refl _) o))))
   simp only [pkCells,e1,e2] at cS
   clear hP9 e1 e2
   go_wp2_with fail
   refine (cS.out _).mono ?_
   rintro e w10 ⟨rfl,hb10⟩
   have HB10:=hide ((HBA.out _).trans (hb10.mono (by simp;omega)))
   have HO10:=hide (own_below HO8.out ((HB9.out.alloc (by omega) _).trans (hb10.mono (by simp;omega))))
   have hge:=(HE.out.below HB10.out).wrong
   clear hb10 x0 x1 x2 x3 x4 x5 x6 x7 x8 x9 x10 x11 x12 x13 x14
   obtain ⟨A,hA⟩:∃ A,decide (sameP p { pk with fv:=.slice pf gs.length nf,cv:=.slice pc ds.length nc }∧fs=gs∧cs=ds)=A:=⟨_,rfl⟩
   rw [hA]
   have hAA:(sameP p pk∧fs=gs∧cs=ds)↔A=true:=by rw [← hA];exact decide_eq_true_iff.symm
   have HAA:=hide hAA
   clear hA hAA cS
   cases A with
   | true =>
     have hRs:R=some b:=HRD.out.trans (if_pos (HAA.out.2 rfl))
     subst hRs
     clear HRD HAA
     go_wp2
     go_ret2
     exact ⟨HB10.out,_,rfl,own_base HO10.out (by omega)⟩
   | false =>
     have hRs:R=none:=HRD.out.trans (if_neg (fun h=>Bool.noConfusion (HAA.out.1 h)))
     subst hRs
     clear HRD HAA
     go_wp2
     go_quiet (fail)
     go_wp2
     go_ret2
     exact ⟨below_drewN HB10.out _,_,0,rfl,_,_,rfl,rfl⟩
set_option maxHeartbeats 1600000 in
set_option maxRecDepth 100000 in
theorem pEncode_x (ash aw:Addr) (p:Pkt) (fs:List (List UInt8×Int)) (cs:List Int) (w:World) (hf:FilW w p.fv fs) (hc:IntW w p.cv cs) (hE:Errs ash aw w) (hEnv:Env aw w.heap.size w) :
 Calls Tryz.prog 53 #[.agg (pkCells p)] w (EncPost aw w (encL (fwW p) (cbW p) p fs cs)):=by
 have HFV:=hide hf
 have HCV:=hide hc
 have HFB:=hide (filB_of hf)
 have HCB:=hide (intB_of hc)
 have cP:=hide fun o=>packet_any (w.heap.size+1) (w.heap.size+2) p fs cs _ _ (ws_new w o) ((filB_of hf).more (by omega) (fun g i hg=>(((Below.refl w.heap.size w).alloc (Nat.le_refl _) o).alloc (by simp) _).cell hg)) ((intB_of hc).more (by omega) (fun g i hg=>(((Below.refl w.heap.size w).alloc (Nat.le_refl _) o).alloc (by simp) _).cell hg))
 have HBA:=hide fun o=>((Below.refl w.heap.size w).alloc (Nat.le_refl _) o).alloc (by simp) (.cells #[.slice none 0 0,.bool false] 169)
 have cF:=hide fun w=>first_any p w
 have HE:=hide hE
 have HN:=hide hEnv
 clear hf hc hE hEnv
 rw [encL_eq]
 generalize bodyW (cbW p) p fs cs=B at *
 generalize fwW p=fw at *
 obtain ⟨kind,clean,will,keep,client,present,code,dup,qos,retain,topic,payload,id,fv,cv⟩:=p
 simp only [pkCells] at HFV HCV HFB HCB cP cF ⊢
 by_cases hB:B.length≤300
 · have hst:wr B (some [])=some B:=by simp [wr,hB]
   rw [hst] at cP
   rw [if_neg (by omega)]
   clear hst
   obtain ⟨R,hR⟩:∃ R,R=encR ⟨kind,clean,will,keep,client,present,code,dup,qos,retain,topic,payload,id,fv,cv⟩ fs cs (fw :: (lenW B.length ++ B)) (decL (fw :: (lenW B.length ++ B))):=⟨_,rfl⟩
   rw [← hR]
   have HRR:=hide hR
   clear hR
   go_enter Tryz.func53,Tryz.ntmps53
   go_wp2_with fail
   refine (cP.out _).mono ?_
   rintro e w1 ⟨rfl,⟨v,hW⟩,hK⟩
   obtain ⟨q,cap,rfl⟩:=own_slice hW.own
   have k0:=hW.c0
   have k1:=hW.c1
   have hPb:w1.heap[w.heap.size]?=_:=(hK.keep w.heap.size (by omega) (by simp;omega) (Ws.row_lt (ws_new w _) (Or.inl (by omega)))).2.trans ((Below.heap_alloc _ _ _ (by simp)).trans (Go.Deep.blk_alloc_new _ _))
   have HPB:=hide hPb
   obtain ⟨x0,x1,x2,x3,x4,x5,x6,x7,x8,x9,x10,x11,x12,x13,x14⟩:=pk15 hPb
   have HBw1:=hide ((HBA.out _).trans (Ws.below (ws_new w _) hK (by omega)))
   have HW:=hide hW
   have cL:=hide fun w=>length_any B.length w hB
   have HNS:=hide (not_short fw hB)
   have hL6:1≤(lenW B.length).length∧(lenW B.length).length≤2:=by rw [lenW_len];split<;>omega
   generalize lenW B.length=L6 at *
   obtain ⟨hL1,hL2⟩:=hL6
   obtain ⟨i0,hi,hz0,hz1,hz2⟩:=info_parts infoB
   have hbl:w.heap.size+1 < w1.heap.size:=Nat.lt_of_lt_of_le hW.lt hW.sz
   clear hPb hK hW
   go_wp2_with fail
   have hs1:w.heap.size < w1.heap.size:=by omega
   rename_i aK
   go_region_held3 (fun w'=>w'.cell? ⟨w.heap.size,0,none⟩=some (.int .i64 kind)∧w'.cell? ⟨w.heap.size,1,none⟩=some (.bool clean)∧w'.cell? ⟨w.heap.size,2,none⟩=some (.bool will)∧w'.cell? ⟨w.heap.size,3,none⟩=some (.int .i64 keep)∧w'.cell? ⟨w.heap.size,4,none⟩=some (.string (bs client))∧w'.cell? ⟨w.heap.size,5,none⟩=some (.bool present)∧w'.cell? ⟨w.heap.size,6,none⟩=some (.int .i64 code)∧w'.cell? ⟨w.heap.size,7,none⟩=some (.bool dup)∧w'.cell? ⟨w.heap.size,8,none⟩=some (.int .i64 qos)∧w'.cell? ⟨w.heap.size,9,none⟩=some (.bool retain)∧w'.cell? ⟨w.heap.size,10,none⟩=some (.string (bs topic))∧w'.cell? ⟨w.heap.size,11,none⟩=some (.string (bs payload))∧w'.cell? ⟨w.heap.size,12,none⟩=some (.int .i64 id)∧w'.cell? ⟨w.heap.size,13,none⟩=some (fv)∧w'.cell? ⟨w.heap.size,14,none⟩=some (cv)∧w'.cell? ⟨w.heap.size+1,0,none⟩=some (.slice q B.length cap))
    (go_keep)
    (first
      | (go_at_call 81
         refine (cF.out _).mono ?_
         rintro e w5 ⟨rfl,hb5⟩
         have hP5:w5.heap[w.heap.size]?=_:=(hb5.block _ (by exact hs1)).trans HPB.out
         obtain ⟨y0,y1,y2,y3,y4,y5,y6,y7,y8,y9,y10,y11,y12,y13,y14⟩:=pk15 hP5
         have k5:w5.cell? ⟨w.heap.size+1,0,none⟩=some (.slice q B.length cap):=by rw [hb5.cell (by exact hbl)];exact k0
         have hs5:w1.heap.size≤w5.heap.size:=hb5.size
         have HB5:Hid (Below w1.heap.size w1 w5):=(Below.refl w1.heap.size w1).drew.trans hb5
         have HP5:=hide hP5
         clear hb5 hP5)
      | (go_at_call 82
         refine (cL.out _).mono ?_
         rintro e w6 ⟨v6,rfl,ho6,hb6⟩
         obtain ⟨g6,cap6,rfl⟩:=own_form ho6 (by omega)
         have HB6:Hid (Below w1.heap.size w1 w6):=by
          first
           | exact HB5.out.trans (hb6.mono hs5)
           | exact (HB5.out.alloc hs5 _).trans (hb6.mono (by simp;omega))
         have hP6:w6.heap[w.heap.size]?=_:=(HB6.out.block _ hs1).trans HPB.out
         obtain ⟨z0,z1,z2,z3,z4,z5,z6,z7,z8,z9,z10,z11,z12,z13,z14⟩:=pk15 hP6
         have k6:w6.cell? ⟨w.heap.size+1,0,none⟩=some (.slice q B.length cap):=by rw [HB6.out.cell (by exact hbl)];exact k0
         have hs6:w1.heap.size≤w6.heap.size:=HB6.out.size
         have HO6:=hide ho6
         have hBB6:=hide hb6
         clear ho6 hb6 hP6)
      | (refine step_append_lies _ (by rfl) _ _ _ (by rfl) w1.heap.size 5 i0 _ 1 1 Tryz.underlying45 hi hz0 hz1 hz2 rfl (by omega) (.slice (some ⟨w5.heap.size,0,none⟩) 1 1) 1 [.int .u8 (fw.toNat:Int)] (by rfl) (own_below (own_one _ hs5) hBB6.out) ⟨g6,0,none⟩ L6.length cap6 (u8s L6) (by rfl) (by simp [u8s]) (HO6.out.cells rfl) (fun u hu=>by simp [u8s] at hu;obtain ⟨x,_,rfl⟩:=hu;rfl) (by omega) (by unfold maxLen;omega) (by omega) (by omega) w6.heap.size rfl ?_
         intro g7 cap7 w7 hown7 hgrow7 hat7 hlt7
         have HB7:Hid (Below w1.heap.size w1 w7):=HB6.out.trans ⟨hgrow7.os,hgrow7.tape,hgrow7.output,hgrow7.size,fun k hk=>hgrow7.block k (by omega) (fun e=>by have:=Option.some.inj e;simp at this;omega)⟩
         have hP7:w7.heap[w.heap.size]?=_:=(HB7.out.block _ hs1).trans HPB.out
         obtain ⟨t0,t1,t2,t3,t4,t5,t6,t7,t8,t9,t10,t11,t12,t13,t14⟩:=pk15 hP7
         have k7:w7.cell? ⟨w.heap.size+1,0,none⟩=some (.slice q B.length cap):=by rw [HB7.out.cell (by exact hbl)];exact k0
         have HO7:=hide hown7
         clear hown7 hgrow7 hat7 hP7)
      | (refine step_append_lies _ (by rfl) _ _ _ (by rfl) w1.heap.size 5 i0 _ 1 1 Tryz.underlying45 hi hz0 hz1 hz2 rfl (by omega) (.slice (some ⟨w6.heap.size,0,none⟩) 1 1) 1 [.int .u8 (fw.toNat:Int)] (by rfl) (own_one _ hs6) ⟨g6,0,none⟩ L6.length cap6 (u8s L6) (by rfl) (by simp [u8s]) ((HO6.out.alloc _).cells rfl) (fun u hu=>by simp [u8s] at hu;obtain ⟨x,_,rfl⟩:=hu;rfl) (by omega) (by unfold maxLen;omega) (by omega) (by simp;omega) (w6.heap.size+1) (by simp) ?_
         intro g7 cap7 w7 hown7 hgrow7 hat7 hlt7
         have HB7:Hid (Below w1.heap.size w1 w7):=(HB6.out.alloc hs6 _).trans ⟨hgrow7.os,hgrow7.tape,hgrow7.output,hgrow7.size,fun k hk=>hgrow7.block k (by simp;omega) (fun e=>by have:=Option.some.inj e;simp at this;omega)⟩
         have hP7:w7.heap[w.heap.size]?=_:=(HB7.out.block _ hs1).trans HPB.out
         obtain ⟨t0,t1,t2,t3,t4,t5,t6,t7,t8,t9,t10,t11,t12,t13,t14⟩:=pk15 hP7
         have k7:w7.cell? ⟨w.heap.size+1,0,none⟩=some (.slice q B.length cap):=by rw [HB7.out.cell (by exact hbl)];exact k0
         have HO7:=hide hown7
         clear hown7 hgrow7 hat7 hP7))
   all_goals
    refine aK _ _ ?_
    refine enc_rest ash aw w w7 ⟨kind,clean,will,keep,client,present,code,dup,qos,retain,topic,payload,id,fv,cv⟩ fs cs fw L6 B q cap g7 cap7 w1.heap.size (HBw1.out.trans (HB7.out.mono (by omega))) ((HB7.out.block _ hs1).trans HPB.out) k7 (own_below HW.out.own HB7.out) HO7.out (by omega) HB7.out.size hB hL2 HFV.out HCV.out HE.out HN.out R HRR.out HNS.out _ _ _ _ _ _ _ _ _ _ _ _ _ _ _ _ _ _ _ _ _ _ _ _ _ _ _ _ _ _ _ _ _ _ _ _ _ _ _ _ _ _ _ _
 · have hst:wr B (some [])=none:=by simp [wr,hB]
   rw [hst] at cP
   rw [if_pos (by omega)]
   clear hst
   go_enter Tryz.func53,Tryz.ntmps53
   go_wp2_with fail
   refine (cP.out _).mono ?_
   rintro e w1 ⟨rfl,⟨v,l,hW⟩,hK⟩
   have k1:=hW.c1
   have hb1:=(HBA.out _).trans (Ws.below (ws_new w _) hK (by omega))
   have hge:=(HE.out.below hb1).wrong
   have HBw1:=hide hb1
   clear hW hK hb1
   go_wp2
   go_quiet (fail)
   go_wp2
   go_ret2
   exact ⟨below_drewN HBw1.out _,_,0,rfl,_,_,rfl,rfl⟩
theorem pEncode_any (ash aw:Addr) (p:Pkt) (fs:List (List UInt8×Int)) (cs:List Int) (w:World) (hf:FilV w p.fv fs) (hc:IntV w p.cv cs) (hE:Errs ash aw w) (hEnv:Env aw w.heap.size w) :
 Calls Tryz.prog 53 #[.agg (pkCells p)] w (EncPost aw w (encL (fwW p) (cbW p) p fs cs)):=pEncode_x ash aw p fs cs w (filW_of hf) (intW_of hc) hE hEnv
end ew
end Go.Proofs.YtnmfmoimjkoieaaGreatDoor
