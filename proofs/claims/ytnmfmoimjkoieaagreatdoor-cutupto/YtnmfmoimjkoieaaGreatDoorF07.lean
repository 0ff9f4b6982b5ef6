import Derived.Test.YtnmfmoimjkoieaaGreatDoorF05
import Derived.OwnWalk
import Derived.Deep.RegionLawGrows
namespace Go.Proofs.YtnmfmoimjkoieaaGreatDoor
namespace rd
open Go.RowKit topPlain topWalks decPlain
theorem infoInt:(Tryz.prog.info? 3).map (fun i=>(i.zero,i.size,i.bytes))=some (some (.int .i64 0),1,8):=by kernel_rfl
def ints (l:List Int):List Value:=l.map (Value.int .i64)
theorem block_keep {w w':World} {row:Option Nat} {b:Nat} (hg:w.grownBy w' row) (hlt:b < w.heap.size) (hne:some b≠row):(∀ i,w'.cell? ⟨b,i,none⟩=w.cell? ⟨b,i,none⟩)∧(∀ i,w'.frozen? ⟨b,i,none⟩=w.frozen? ⟨b,i,none⟩):=by
 have hb:w'.heap[b]?=w.heap[b]?:=hg.block b hlt hne
 exact ⟨fun i=>World.cell?_of_block (w:=w) hb,fun i=>World.frozen?_of_block (w:=w) hb⟩
theorem St.other {a:Addr} {B br bp:Nat} {w0 w w':World} {p:Pkt} {st:Option (List UInt8)} (h:St a B br bp w0 w p st) {row:Option Nat} (hg:w.grownBy w' row) (hrow:∀ k,row=some k→br < k∧bp < k):St a B br bp w0 w' p st:=by
 have hbel:Below B w w':=⟨hg.os,hg.tape,hg.output,hg.size,fun k hk=>hg.block k (by have:=h.env.size;omega) (fun e=>by have:=hrow k e.symm;have:=h.hr;omega)⟩
 have hbr:br < w.heap.size:=by obtain ⟨q,c,hc⟩:=rd_cell0 h.rd;exact topWalks.cell_lt hc
 obtain ⟨k,f⟩:=block_keep hg (topWalks.cell_lt h.pk.c0) (fun e=>by have:=hrow bp e.symm;omega)
 obtain ⟨k2,f2⟩:=block_keep hg hbr (fun e=>by have:=hrow br e.symm;omega)
 refine ⟨h.env.below hbel,h.hr,h.hp,h.ne,?_,?_,h.bel.trans hbel,h.gap,(hg.block _ (by omega) (fun e=>by have:=hrow _ e.symm;omega)).trans h.res⟩
 · have hR:=h.rd
   cases st with
   | none =>
     obtain ⟨hB,e,h0,h1,f0,f1,h2⟩:=hR
     exact ⟨hB,e,by rw [k2];exact h0,by rw [k2];exact h1,by rw [f2];exact f0,by rw [f2];exact f1,h2⟩
   | some l =>
     obtain ⟨hB,v,h0,h1,f0,f1,b,off,cap,h2,h3,h4,h5,h6⟩:=hR
     exact ⟨hB,v,by rw [k2];exact h0,by rw [k2];exact h1,by rw [f2];exact f0,by rw [f2];exact f1,b,off,cap,h2,h3,h4,h5,fun j x hx=>by rw [hbel.cell h5];exact h6 j x hx⟩
 · have h:=h.pk
   exact ⟨fun i=>by rw [f];exact h.fz i,by rw [k];exact h.c0,by rw [k];exact h.c1,by rw [k];exact h.c2,by rw [k];exact h.c3,by rw [k];exact h.c4,by rw [k];exact h.c5,by rw [k];exact h.c6,by rw [k];exact h.c7,by rw [k];exact h.c8,by rw [k];exact h.c9,by rw [k];exact h.c10,by rw [k];exact h.c11,by rw [k];exact h.c12,by rw [k];exact h.c13,by rw [k];exact h.c14⟩
theorem PkIs.setCv {w:World} {bp:Nat} {p:Pkt} (h:PkIs w bp p) (v:Value):PkIs (w.setCell ⟨bp,14,none⟩ v) bp { p with cv:=v }:=
 ⟨h.fz',pk_o (by decide) h.c0,pk_o (by decide) h.c1,pk_o (by decide) h.c2,pk_o (by decide) h.c3,pk_o (by decide) h.c4,pk_o (by decide) h.c5,pk_o (by decide) h.c6,pk_o (by decide) h.c7,pk_o (by decide) h.c8,pk_o (by decide) h.c9,pk_o (by decide) h.c10,pk_o (by decide) h.c11,pk_o (by decide) h.c12,pk_o (by decide) h.c13,sc_same h.c14⟩
theorem PkIs.setFv {w:World} {bp:Nat} {p:Pkt} (h:PkIs w bp p) (v:Value):PkIs (w.setCell ⟨bp,13,none⟩ v) bp { p with fv:=v }:=
 ⟨h.fz',pk_o (by decide) h.c0,pk_o (by decide) h.c1,pk_o (by decide) h.c2,pk_o (by decide) h.c3,pk_o (by decide) h.c4,pk_o (by decide) h.c5,pk_o (by decide) h.c6,pk_o (by decide) h.c7,pk_o (by decide) h.c8,pk_o (by decide) h.c9,pk_o (by decide) h.c10,pk_o (by decide) h.c11,pk_o (by decide) h.c12,sc_same h.c13,pk_o (by decide) h.c14⟩
theorem own_keep {w w':World} {C:Nat} {e:TypeId} {sz:Nat} {v:Value} {n:Nat} {xs:List Value} {b:Nat} (h:w.ownsRow C e sz v n xs) (hb:b < C) (hg:w.grownBy w' (some b)):w'.ownsRow C e sz v n xs:=by
 refine h.kept hg ?_
 cases hv:v.ownBlock with
 | none=>exact Or.inl rfl
 | some k=>exact Or.inr (by have:=(h.lt k hv).1;simp;omega)
theorem own_row {w:World} {C:Nat} {e:TypeId} {sz:Nat} {v:Value} {n:Nat} {xs:List Value} (h:w.ownsRow C e sz v n xs) {br bp:Nat} (h1:br < C) (h2:bp < C):∀ k,v.ownBlock=some k→br < k∧bp < k:=fun k hk=>by
 have:=(h.lt k hk).1
 omega
theorem St.base {a:Addr} {B br bp:Nat} {w0 w:World} {p:Pkt} {st:Option (List UInt8)} (h:St a B br bp w0 w p st):St a B br bp w w p st:=⟨h.env,h.hr,h.hp,h.ne,h.rd,h.pk,Below.refl _ _,h.gap,rfl⟩
theorem St.join {a:Addr} {B br bp:Nat} {w0 w w':World} {p p':Pkt} {st st':Option (List UInt8)} (h:St a B br bp w0 w p st) (k:St a B br bp w w' p' st'):St a B br bp w0 w' p' st':=⟨k.env,k.hr,k.hp,k.ne,k.rd,k.pk,h.bel.trans k.bel,k.gap,k.res.trans h.res⟩
theorem octet_cons (a:Addr) (B br bp:Nat) (w0 w:World) (p:Pkt) (x:UInt8) (r:List UInt8) (hS:St a B br bp w0 w p (some (x :: r))) :
 Calls Tryz.prog 200 #[.pointer (some ⟨br,0,none⟩)] w fun e w'=>e=.returned (.int .i64 (x.toNat:Int))∧St a B br bp w0 w' p (some r)∧w.grownBy w' (some br):=
 (octet_any a B br (some (x :: r)) w hS.rd hS.env.err).mono fun _ _ h=>⟨h.1,hS.rdStep h.2.1 h.2.2,h.2.1⟩
theorem want_keep (a:Addr) (B br bp:Nat) (w0 w:World) (p:Pkt) (st:Option (List UInt8)) (so:Bool) (wh:ByteArray) (hS:St a B br bp w0 w p st) :
 Calls Tryz.prog 125 #[.pointer (some ⟨br,0,none⟩),.bool so,.string wh] w fun e w'=>e=.returned (.tuple #[])∧St a B br bp w0 w' p (wantS so st)∧w.grownBy w' (some br):=
 (want_any a B br so wh st w hS.rd hS.env.err).mono fun _ _ h=>⟨h.1,hS.rdStep h.2.1 h.2.2,h.2.1⟩
theorem own_form {w:World} {C:Nat} {e:TypeId} {sz:Nat} {v:Value} {n:Nat} {xs:List Value} (h:w.ownsRow C e sz v n xs) (hn:0 < n):∃ g cap,v=.slice (some ⟨g,0,none⟩) n cap:=by
 rcases h.2 with ⟨_,h0⟩ | ⟨g,cap,cur,rfl,_⟩
 · omega
 · exact ⟨g,cap,rfl⟩
def CodRel (a:Addr) (B br bp C:Nat) (w:World) (p:Pkt) (R:List Int×Option (List UInt8)) (wr:World):Prop:=
 ∃ (acc:List Int) (st:Option (List UInt8)) (v:Value),St a B br bp w wr { p with cv:=v } st∧wr.ownsRow C 3 1 v acc.length (ints acc)∧codR st acc=R∧lenS st+acc.length≤60000
set_option maxHeartbeats 1600000 in
set_option maxRecDepth 100000 in
theorem codes_in (a:Addr) (B br bp C:Nat) (w:World) (p:Pkt) (st:Option (List UInt8)) (hl:lenS st≤60000) (hS:St a B br bp w w p st) (hcv:p.cv=.slice none 0 0) (hbr:br < C) (hbp:bp < C) (hC:C≤w.heap.size) :
 Calls Tryz.prog 155 #[.pointer (some ⟨br,0,none⟩),.pointer (some ⟨bp,0,none⟩)] w fun e w'=>e=.returned (.tuple #[]) ∧
  ∃ v,St a B br bp w w' { p with id:=((idS st).1:Int),cv:=v } (codesS (idS st).2).2∧w'.ownsRow C 3 1 v (codesS (idS st).2).1.length (ints (codesS (idS st).2).1):=by
 have HS:=hide hS
 have hl1:lenS (idS st).2≤60000:=Nat.le_trans (idS_len _) hl
 obtain ⟨i0,hi,hz0,hz1,hz2⟩:=info_parts infoInt
 have c1:=hide (id_step a B br bp w w p st hS)
 clear hS hl
 generalize (idS st).1=n at *
 generalize (idS st).2=st1 at *
 unfold codesS
 have hl2:lenS (wantS (decide (0 < lenS st1)) st1)≤60000:=Nat.le_trans (wantS_len _ _) hl1
 obtain ⟨R,hR⟩:∃ R,codR (wantS (decide (0 < lenS st1)) st1) []=R:=⟨_,rfl⟩
 rw [hR]
 have HRR:=hide hR
 clear hR
 go_enter Tryz.func155,Tryz.ntmps155
 go_wp2_with fail
 refine (unhide c1).mono ?_
 rintro e w1 ⟨rfl,hS1⟩
 have HS1:=hide hS1
 have HS2:=hide (HS1.out.pkStep (HS1.out.pk.id (n:Int)))
 have k12:=HS1.out.pk.c12
 have f12:=HS1.out.pk.fz 12
 obtain ⟨q,cp,hv⟩:=rd_cell0 HS2.out.rd
 clear hS1
 go_wp2_with fail
 refine (want_step a B br bp w _ _ _ _ _ HS2.out).mono ?_
 rintro e w3 ⟨rfl,hS3⟩
 have HS3:=hide hS3
 have hR0:CodRel a B br bp C w { p with id:=(n:Int) } R w3:=⟨[],_,.slice none 0 0,by rw [← hcv];exact hS3,World.ownsRow_nil _ _ _ _,HRR.out,by simpa using hl2⟩
 have HR0:=hide hR0
 clear hS3 k12 f12 hv hR0 HS3 HS2 HS1 HS c1 hl1 hl2 HRR
 go_wp2_with fail
 go_loopg [4] 60001 (fun g _ wx=>∃ (acc:List Int) (st:Option (List UInt8)) (v:Value),St a B br bp w wx { p with id:=(n:Int),cv:=v } st∧wx.ownsRow C 3 1 v acc.length (ints acc)∧codR st acc=R∧lenS st+acc.length≤60000∧lenS st < g)
 case atStart =>
  obtain ⟨acc,st,v,h1,h2,h3,h4⟩:=HR0.out
  exact ⟨acc,st,v,h1,h2,h3,h4,by omega⟩
 case round =>
  obtain ⟨acc,st,v,hS,hown,hcod,hlen,hg⟩:=hrel
  obtain ⟨q,cp,hv⟩:=rd_cell0 hS.rd
  have HS:=hide hS
  have HO:=hide hown
  have HCD:=hide hcod
  clear hS hown hcod
  by_cases hz:lenS st=0
  · have hv0:wr.cell? ⟨br,0,none⟩=some (.slice q 0 cp):=by rw [hz] at hv;exact hv
    have hR:R=(acc,st):=by
     rw [← HCD.out]
     cases st with
     | none=>rfl
     | some l=>obtain rfl:l = []:=List.length_eq_zero_iff.1 hz;rfl
    have HR:=hide hR
    clear hR hv hz
    go_wp2
    go_end0
    refine ⟨rfl,v,?_,?_⟩
    · rw [HR.out];exact HS.out
    · rw [HR.out];exact HO.out
  · obtain ⟨x,r,rfl⟩:∃ x r,st=some (x :: r):=by
     cases st with
     | none=>exact absurd rfl hz
     | some l=>cases l with
       | nil=>exact absurd rfl hz
       | cons x r=>exact ⟨x,r,rfl⟩
    have hpos:(0:Int) < (lenS (some (x :: r)):Int):=by omega
    have hx:=x.toNat_lt
    have hcl:codeOk x.toNat=(decide ((x.toNat:Int)≤2) || ((x.toNat:Int) == 128)):=by
     unfold codeOk
     rw [decide_eq_decide.2 (show x.toNat≤2↔(x.toNat:Int)≤2 by omega)]
     congr 1
     by_cases h:x.toNat=128
     · rw [h];rfl
     · rw [decide_eq_false h];exact (beq_eq_false_iff_ne.2 (by omega)).symm
    have hstep:=codR_step x r acc
    rw [HCD.out] at hstep
    have hlr:lenS (some r)+1=lenS (some (x :: r)):=by simp [lenS]
    have hlw:=wantS_len (codeOk x.toNat) (some r)
    have HST:=hide hstep
    have HCL:=hide hcl
    clear hcl hstep hz
    generalize codeOk x.toNat=ok at *
    have hsz:=HS.out.bel.size
    have hso:ok=if (x.toNat:Int)≤2 then true else ((x.toNat:Int) == 128):=by
     rw [HCL.out]
     by_cases h:(x.toNat:Int)≤2
     · rw [if_pos h,decide_eq_true h];rfl
     · rw [if_neg h,decide_eq_false h];rfl
    have HSO:=hide hso
    clear hso
    by_cases h2:(x.toNat:Int)≤2
    all_goals
     go_wp2_with fail
     refine (octet_cons a B br bp w _ _ x r HS.out).mono ?_
     rintro e w4 ⟨rfl,hS4,hg4⟩
     have HS4:=hide hS4
     have HO4:=hide (own_keep HO.out hbr hg4)
     clear hS4 hg4
     go_wp2_with fail
     refine (want_keep a B br bp w _ _ _ _ _ HS4.out).mono ?_
     rintro e w5 ⟨rfl,hS5,hg5⟩
     have hS5':St a B br bp w w5 { p with id:=(n:Int),cv:=v } (wantS ok (some r)):=by
      first
       | (rw [HCL.out];exact hS5)
       | (rw [HSO.out,if_pos h2];exact hS5)
     have HS5:=hide hS5'
     have HO5:=hide (own_keep HO4.out hbr hg5)
     have hsz5:=HS5.out.bel.size
     have k14:=HS5.out.pk.c14
     have hown:=HO5.out
     clear hS5 hS5' hg5
     go_wp2_with (first
      | (at_builtin;refine wpList_append_own _ rfl _ _ 34 rfl C 3 i0 (.int .i64 0) 1 8 Tryz.underlying34 hi hz0 hz1 hz2 rfl (by decide) _ _ _ rfl (hown.alloc _) ⟨w5.heap.size,0,none⟩ 1 1 [.int .i64 (x.toNat:Int)] rfl rfl ?c1 ?c2 ?c3 ?c4 ?c5 ?_))
     case c1 =>
      intro j u hj
      match j,hj with
      | 0,hj=>simp at hj;subst hj;simp [Addr.add]
     case c2=>intro u hu;simp at hu;subst hu;rfl
     case c3=>unfold maxLen;omega
     case c4=>omega
     case c5=>simp;omega
     intro v' w6 hown' hgrow _
     obtain ⟨g',cap',rfl⟩:=own_form hown' (by omega)
     have HS6:Hid (St a B br bp w w6 { p with id:=(n:Int),cv:=v } (wantS ok (some r))):=(HS5.out.other (World.grownBy_alloc w5 _ none) (fun _ h=>by cases h)).other hgrow (own_row HO5.out hbr hbp)
     have HS7:=hide (HS6.out.pkStep (HS6.out.pk.setCv (.slice (some ⟨g',0,none⟩) (acc.length+1) cap')))
     have HO7:Hid ((w6.setCell ⟨bp,14,none⟩ (.slice (some ⟨g',0,none⟩) (acc.length+1) cap')).ownsRow C 3 1 (.slice (some ⟨g',0,none⟩) (acc.length+1) cap') (acc ++ [(x.toNat:Int)]).length (ints (acc ++ [(x.toNat:Int)]))):=by
      refine own_keep ?_ hbp (grown_set _ _ _ _)
      simpa [ints] using hown'
     have k14':=HS6.out.pk.c14
     have f14:=HS6.out.pk.fz 14
     clear hown' hgrow hown k14
     go_wp2
     go_roundg (lenS (wantS ok (some r))+1)
     case measure=>omega
     case rel=>exact ⟨_,_,_,HS7.out,HO7.out,HST.out.symm,by simp;omega,by omega⟩
theorem codes_any (a:Addr) (B br bp C:Nat) (w0 w:World) (p:Pkt) (st:Option (List UInt8)) (hl:lenS st≤60000) (hS:St a B br bp w0 w p st) (hcv:p.cv=.slice none 0 0) (hbr:br < C) (hbp:bp < C) (hC:C≤w.heap.size) :
 Calls Tryz.prog 155 #[.pointer (some ⟨br,0,none⟩),.pointer (some ⟨bp,0,none⟩)] w fun e w'=>e=.returned (.tuple #[]) ∧
  ∃ v,St a B br bp w0 w' { p with id:=((idS st).1:Int),cv:=v } (codesS (idS st).2).2∧w'.ownsRow C 3 1 v (codesS (idS st).2).1.length (ints (codesS (idS st).2).1):=
 (codes_in a B br bp C w p st hl hS.base hcv hbr hbp hC).mono fun _ _ ⟨h1,v,h2,h3⟩=>⟨h1,v,hS.join h2,h3⟩
theorem infoFilter:(Tryz.prog.info? 95).map (fun i=>(i.zero,i.size,i.bytes))=some (some (.agg #[.string ByteArray.empty,.int .i64 0]),2,24):=by kernel_rfl
def filC (l:List (List UInt8×Int)):List Value:=l.flatMap fun f=>[.string (bs f.1),.int .i64 f.2]
theorem filC_snoc (l:List (List UInt8×Int)) (f:List UInt8×Int):filC (l ++ [f])=filC l ++ [.string (bs f.1),.int .i64 f.2]:=by simp [filC]
theorem step_append_own {P:Program} {ops:Array Oper} {o:Oper} {a:Act} {w:World} {K:Act→World→Prop} {Q:Exit→Act→World→Prop} {E:Prop}
 (hg:o.guard=none) (s x:Operand) (t:TypeId) (hop:o.op=Op.call { callee:=Callee.builtin Builtin.append,args:=#[s,x],argTypes:=#[t,t] })
 (base:Nat) (e:TypeId) (i:TypeInfo) (z:Value) (size bytes:Nat) (h1:P.underlying t=some (.slice e)) (h2:P.info? e=some i) (h3:i.zero=some z) (h4:i.size=size) (h5:i.bytes=bytes) (h6:z.cells.size=size) (h7:0 < size)
 (v:Value) (n:Nat) (xs:List Value) (hs:a.eval s=v) (hown:w.ownsRow base e size v n xs)
 (ad:Addr) (m c:Nat) (news:List Value) (hx:a.eval x=.slice (some ad) m c) (hn:news.length=m*size) (hc:∀ j u,news[j]?=some u→w.cell? (ad.add j)=some u) (h1c:∀ u∈news,u.oneCell'=true)
 (b1:n+m≤maxLen) (b2:(n+m)*bytes≤140737488355328) (hb:base≤w.heap.size)
 (hK:∀ v' w',w'.ownsRow base e size v' (n+m) (xs ++ news)→w.grownBy w' v.ownBlock→K (a.put o.dst v') w') :
 if Region.wanted o (yielded ops a.tmps)=true then Oper.wp P o a w K Q else E:=by
 have hw:Region.wanted o (yielded ops a.tmps)=true:=by simp [Region.wanted,hg]
 rw [if_pos hw]
 obtain ⟨v',w',hrun,r1,r2,_⟩:=run_append_own (P:=P) w base t o.type e i z size bytes h1 h2 h3 h4 h5 h6 h7 v n xs hown ad m c news hn hc h1c b1 b2 hb
 unfold Oper.wp
 simp [execOp,hop,resolve,invoke,builtin,hs,hx,hrun,Result.andThen]
 exact hK v' w' r1 r2
theorem text_keep (a:Addr) (B br bp:Nat) (w0 w:World) (p:Pkt) (st:Option (List UInt8)) (hS:St a B br bp w0 w p st) :
 Calls Tryz.prog 199 #[.pointer (some ⟨br,0,none⟩)] w fun e w'=>e=.returned (.string (bs (txtS st).1))∧St a B br bp w0 w' p (txtS st).2∧w.grownBy w' (some br):=
 (text_any a B br st w hS.ng hS.rd hS.env.err).mono fun _ _ h=>⟨h.1,hS.rdStep h.2.1 h.2.2,h.2.1⟩
theorem octet_keep (a:Addr) (B br bp:Nat) (w0 w:World) (p:Pkt) (st:Option (List UInt8)) (hS:St a B br bp w0 w p st) :
 Calls Tryz.prog 200 #[.pointer (some ⟨br,0,none⟩)] w fun e w'=>e=.returned (.int .i64 ((octS st).1:Int))∧St a B br bp w0 w' p (octS st).2∧w.grownBy w' (some br):=
 (octet_any a B br st w hS.rd hS.env.err).mono fun _ _ h=>⟨h.1,hS.rdStep h.2.1 h.2.2,h.2.1⟩
theorem isFilter_keep (a:Addr) (B br bp:Nat) (w0 w:World) (p:Pkt) (st:Option (List UInt8)) (t:List UInt8) (ht:t.length≤60000) (hS:St a B br bp w0 w p st) :
 Calls Tryz.prog 206 #[.string (bs t)] w fun e w'=>e=.returned (.bool (filterB t))∧St a B br bp w0 w' p st∧Below w.heap.size w w':=by
 have:=isFilter_any (bs t) w (by rw [Lib.size_eq,data_bs];omega) hS.env.inv
 rw [data_bs] at this
 exact this.mono fun _ _ h=>⟨h.1,hS.belStep h.2,h.2⟩
theorem own_below {w w':World} {C:Nat} {e:TypeId} {sz:Nat} {v:Value} {n:Nat} {xs:List Value} (h:w.ownsRow C e sz v n xs) (hb:Below w.heap.size w w'):w'.ownsRow C e sz v n xs:=
 h.kept (grown_below (r:=none) hb) (by cases v.ownBlock<;>simp)
theorem fil_news (w:World) (t:List UInt8) (q:Int):∀ (j:Nat) u,([.string (bs t),.int .i64 q]:List Value)[j]?=some u→(w.alloc (.cells #[.string (bs t),.int .i64 q] 95)).cell? ((⟨w.heap.size,0,none⟩:Addr).add j)=some u:=by
 intro j u hj
 match j,hj with
 | 0,hj=>simp at hj;subst hj;simp [Addr.add]
 | 1,hj=>simp at hj;subst hj;simp [Addr.add]
 | j+2,hj=>simp at hj
theorem alloc_keep {w:World} {p:Addr} {o:Obj} (h:p.block < w.heap.size):(w.alloc o).cell? p=w.cell? p:=World.cell?_of_block (Below.heap_alloc w o p.block h)
def FilAt (w:World) (bf:Nat) (t:List UInt8) (q:Int):Prop:=w.cell? ⟨bf,0,none⟩=some (.string (bs t))∧w.cell? ⟨bf,1,none⟩=some (.int .i64 q)∧w.frozen? ⟨bf,1,none⟩=false
theorem FilAt.keep {w w':World} {bf:Nat} {t:List UInt8} {q:Int} (h:FilAt w bf t q) {row:Option Nat} (hg:w.grownBy w' row) (hne:some bf≠row):FilAt w' bf t q:=by
 obtain ⟨k,f⟩:=block_keep hg (topWalks.cell_lt h.1) hne
 exact ⟨by rw [k];exact h.1,by rw [k];exact h.2.1,by rw [f];exact h.2.2⟩
theorem FilAt.set {w:World} {bf:Nat} {t:List UInt8} {q:Int} (h:FilAt w bf t q) (n:Int):FilAt (w.setCell ⟨bf,1,none⟩ (.int .i64 n)) bf t n:=
 ⟨by rw [sc_other (by simp)];exact h.1,sc_same h.2.1,by rw [sc_frozen];exact h.2.2⟩
set_option maxHeartbeats 3200000 in
set_option maxRecDepth 100000 in
theorem filters_in (a:Addr) (B br bp C:Nat) (w:World) (p:Pkt) (st:Option (List UInt8)) (hl:lenS st≤60000) (hS:St a B br bp w w p st) (hfv:p.fv=.slice none 0 0) (hbr:br < C) (hbp:bp < C) (hC:C≤w.heap.size) :
 Calls Tryz.prog 154 #[.pointer (some ⟨br,0,none⟩),.pointer (some ⟨bp,0,none⟩)] w fun e w'=>e=.returned (.tuple #[]) ∧
  ∃ v,St a B br bp w w' { p with id:=((idS st).1:Int),fv:=v } (filtersS (p.kind == 8) (idS st).2).2∧w'.ownsRow C 95 2 v (filtersS (p.kind == 8) (idS st).2).1.length (filC (filtersS (p.kind == 8) (idS st).2).1):=by
 have HS:=hide hS
 have hl1:lenS (idS st).2≤60000:=Nat.le_trans (idS_len _) hl
 obtain ⟨i0,hi,hz0,hz1,hz2⟩:=info_parts infoFilter
 have c1:=hide (id_step a B br bp w w p st hS)
 clear hS hl
 generalize (idS st).1=n at *
 generalize (idS st).2=st1 at *
 unfold filtersS
 have hl2:lenS (wantS (decide (0 < lenS st1)) st1)≤60000:=Nat.le_trans (wantS_len _ _) hl1
 obtain ⟨k8,hk8⟩:∃ k8,(p.kind == 8)=k8:=⟨_,rfl⟩
 rw [hk8]
 have HK8:=hide hk8
 clear hk8
 obtain ⟨R,hR⟩:∃ R,filR k8 (wantS (decide (0 < lenS st1)) st1) []=R:=⟨_,rfl⟩
 rw [hR]
 have HRR:=hide hR
 clear hR
 go_enter Tryz.func154,Tryz.ntmps154
 go_wp2_with fail
 refine (unhide c1).mono ?_
 rintro e w1 ⟨rfl,hS1⟩
 have HS1:=hide hS1
 have HS2:=hide (HS1.out.pkStep (HS1.out.pk.id (n:Int)))
 have k12:=HS1.out.pk.c12
 have f12:=HS1.out.pk.fz 12
 obtain ⟨q,cp,hv⟩:=rd_cell0 HS2.out.rd
 clear hS1
 go_wp2_with fail
 refine (want_step a B br bp w _ _ _ _ _ HS2.out).mono ?_
 rintro e w3 ⟨rfl,hS3⟩
 have HS3:Hid (St a B br bp w w3 { p with id:=(n:Int),fv:=.slice none 0 0 } (wantS (decide (0 < lenS st1)) st1)):=by rw [← hfv];exact hS3
 clear hS3 k12 f12 hv HS2 HS1 HS c1 hl1
 go_wp2_with fail
 go_loopg [4] 60001 (fun g _ wx=>∃ (acc:List (List UInt8×Int)) (st:Option (List UInt8)) (v:Value),St a B br bp w wx { p with id:=(n:Int),fv:=v } st∧wx.ownsRow C 95 2 v acc.length (filC acc)∧filR k8 st acc=R∧lenS st+acc.length≤60000∧lenS st < g)
 case atStart=>exact ⟨[],_,.slice none 0 0,HS3.out,World.ownsRow_nil _ _ _ _,HRR.out,by simpa using hl2,by omega⟩
 case round =>
  obtain ⟨acc,st,v,hS,hown,hfil,hlen,hg⟩:=hrel
  obtain ⟨q,cp,hv⟩:=rd_cell0 hS.rd
  have HS:=hide hS
  have HO:=hide hown
  have HFL:=hide hfil
  clear hS hown hfil HS3 hl2 HRR
  by_cases hz:lenS st=0
  · have hv0:wr.cell? ⟨br,0,none⟩=some (.slice q 0 cp):=by rw [hz] at hv;exact hv
    have HR:Hid (R=(acc,st)):=by rw [← HFL.out];exact filR_end k8 st acc hz
    clear hv hz
    go_wp2
    go_end0
    refine ⟨rfl,v,?_,?_⟩
    · rw [HR.out];exact HS.out
    · rw [HR.out];exact HO.out
  · have hpos:(0:Int) < (lenS st:Int):=by omega
    have hstep:=filR_step k8 st acc (by omega)
    have hlt:=filStep_lt k8 st (by omega)
    rw [HFL.out] at hstep
    have HST:=hide hstep
    have htl:=txtS_le st
    have ht60:(txtS st).1.length≤60000:=by omega
    clear hstep
    have hsz:=HS.out.bel.size
    unfold filStep at HST hlt
    generalize htx:txtS st=T at *
    obtain ⟨t,s1⟩:=T
    simp only at *
    have HT:=hide htx
    clear htx hz
    go_wp2_with fail
    refine (text_keep a B br bp w _ _ st HS.out).mono ?_
    rintro e w4 ⟨rfl,hS4,hg4⟩
    rw [HT.out] at hS4 ⊢
    have HS4:=hide hS4
    have HO4:=hide (own_keep HO.out hbr hg4)
    have hsz4:=HS4.out.bel.size
    clear hS4 hg4 hv
    go_wp2_with fail
    have HS5:Hid (St a B br bp w (w4.alloc (.cells #[.string (bs t),.int .i64 0] 95)) { p with id:=(n:Int),fv:=v } s1):=HS4.out.other (World.grownBy_alloc w4 _ none) (fun _ h=>by cases h)
    have HO5:Hid ((w4.alloc (.cells #[.string (bs t),.int .i64 0] 95)).ownsRow C 95 2 v acc.length (filC acc)):=HO4.out.alloc _
    have HF5:Hid (FilAt (w4.alloc (.cells #[.string (bs t),.int .i64 0] 95)) w4.heap.size t 0):=⟨by simp,by simp,by simp⟩
    have hsz5:w4.heap.size < (w4.alloc (.cells #[.string (bs t),.int .i64 0] 95)).heap.size:=by simp
    refine (isFilter_keep a B br bp w _ _ _ t ht60 HS5.out).mono ?_
    rintro e w6 ⟨rfl,hS6,hb6⟩
    have HS6:=hide hS6
    have HO6:=hide (own_below HO5.out hb6)
    have HF6:=hide (HF5.out.keep (grown_below (r:=none) hb6) (by simp))
    have hsz6:w4.heap.size < w6.heap.size:=Nat.lt_of_lt_of_le hsz5 hb6.size
    clear hS6 hb6 HS5 HO5 HF5 hsz5
    have hvb:∀ k,v.ownBlock=some k→k < w4.heap.size:=fun k hk=>(HO4.out.lt k hk).2
    have HVB:=hide hvb
    clear hvb
    generalize w4.heap.size=bf at *
    have hbf:C≤bf:=by omega
    go_wp2_with fail
    refine (want_keep a B br bp w _ _ _ _ _ HS6.out).mono ?_
    rintro e w7 ⟨rfl,hS7,hg7⟩
    have HS7:=hide hS7
    have HO7:=hide (own_keep HO6.out hbr hg7)
    have HF7:=hide (HF6.out.keep hg7 (by simp;omega))
    have hsz7:=hg7.size
    have k0:=HS7.out.pk.c0
    clear hS7 hg7
    cases k8
    · have h8:(p.kind == 8)=false:=HK8.out
      simp only [Bool.false_eq_true,if_false] at HST hlt
      have hlt':=hlt
      clear hlt
      have hF:=HF7.out
      obtain ⟨hf0,hf1,_⟩:=hF
      have k13:=HS7.out.pk.c13
      have f13:=HS7.out.pk.fz 13
      have HOL:=HO7
      have HSL:=HS7
      go_wp2_with fail
      have HN:=hide (fil_news w7 t 0)
      have hA:∀ o,(w7.alloc o).cell? ⟨bp,13,none⟩=some v:=fun o=>by rw [alloc_keep (topWalks.cell_lt k13)];exact k13
      go_region_law (
       refine step_append_own rfl (.tmp 49) (.tmp 51) 33 rfl C 95 i0 (.agg #[.string ByteArray.empty,.int .i64 0]) 2 24 Tryz.underlying33 hi hz0 hz1 hz2 rfl (by decide) v acc.length (filC acc) ?s1 ?s2 ⟨w7.heap.size,0,none⟩ 1 1 [.string (bs t),.int .i64 0] ?s3 rfl ?s4 ?s5 ?s6 ?s7 ?s8 ?_
       case s1=>simp [Act.eval]
       case s3=>simp [Act.eval]
       case s2=>exact HOL.out.alloc _
       case s4=>exact HN.out
       case s5=>intro u hu;simp at hu;rcases hu with rfl | rfl<;>rfl
       case s6=>unfold maxLen;omega
       case s7=>omega
       case s8=>simp;omega
       intro v' w8 hown' hgrow
       obtain ⟨g',cap',rfl⟩:=own_form hown' (by omega)
       have hg8:(w7.alloc (.cells #[.string (bs t),.int .i64 0] 95)).grownBy w8 v.ownBlock:=⟨hgrow.os,hgrow.tape,hgrow.output,hgrow.size,hgrow.block⟩
       have HS8:Hid (St a B br bp w w8 { p with id:=(n:Int),fv:=v } (wantS (filterB t) s1)):=hide ((HSL.out.other (World.grownBy_alloc w7 _ none) (fun _ h=>by cases h)).other hg8 (own_row HOL.out hbr hbp))
       have HOW:=hide hown'
       have k13':=HS8.out.pk.c13
       have f13':=HS8.out.pk.fz 13
       clear k13 f13 hf0 hf1 hA HN hgrow hg8 hown')
      all_goals
       go_wp2
       have HS9:=hide (HS8.out.pkStep (HS8.out.pk.setFv (.slice (some ⟨g',0,none⟩) (acc.length+1) cap')))
       have HO9:Hid ((w8.setCell ⟨bp,13,none⟩ (.slice (some ⟨g',0,none⟩) (acc.length+1) cap')).ownsRow C 95 2 (.slice (some ⟨g',0,none⟩) (acc.length+1) cap') (acc ++ [(t,0)]).length (filC (acc ++ [(t,0)]))):=by
        refine own_keep ?_ hbp (grown_set _ _ _ _)
        rw [filC_snoc,List.length_append]
        exact HOW.out
       go_roundg (lenS (wantS (filterB t) s1)+1)
       case measure=>omega
       case rel=>exact ⟨acc ++ [(t,0)],_,_,HS9.out,HO9.out,HST.out.symm,by simp;omega,by omega⟩
    · have h8:(p.kind == 8)=true:=HK8.out
      simp only [if_true] at HST hlt
      have ho:=octS_lt (wantS (filterB t) s1)
      generalize hoc:octS (wantS (filterB t) s1)=O at *
      obtain ⟨o,s3⟩:=O
      simp only at *
      have HOC:=hide hoc
      clear hoc
      have hF:=HF7.out
      obtain ⟨hf0,hf1,hff⟩:=hF
      clear hff hf0 hf1
      go_wp2_with fail
      refine (octet_keep a B br bp w _ _ _ HS7.out).mono ?_
      rintro e w9 ⟨rfl,hS9,hg9⟩
      rw [HOC.out] at hS9 ⊢
      have HS9:=hide hS9
      have HO9:=hide (own_keep HO7.out hbr hg9)
      have HF9:=hide (HF7.out.keep hg9 (by simp;omega))
      have hsz9:=hg9.size
      obtain ⟨hf0,hf1,hff⟩:=HF9.out
      clear hS9 hg9 k0
      go_wp2_with fail
      have hgS:w9.grownBy (w9.setCell ⟨bf,1,none⟩ (.int .i64 (o:Int))) (some bf):=grown_set _ _ _ _
      have HS10:Hid (St a B br bp w (w9.setCell ⟨bf,1,none⟩ (.int .i64 (o:Int))) { p with id:=(n:Int),fv:=v } s3):=HS9.out.other hgS (fun k hk=>by cases hk;omega)
      have HF10:=hide (HF9.out.set (o:Int))
      have HO10:Hid ((w9.setCell ⟨bf,1,none⟩ (.int .i64 (o:Int))).ownsRow C 95 2 v acc.length (filC acc)):=HO9.out.kept hgS (by
       cases hv:v.ownBlock with
       | none=>exact Or.inl rfl
       | some k=>exact Or.inr (by have:=HVB.out k hv;simp;omega))
      have hsz10:(w9.setCell ⟨bf,1,none⟩ (.int .i64 (o:Int))).heap.size=w9.heap.size:=by simp [World.setCell]
      refine (want_keep a B br bp w _ _ _ _ _ HS10.out).mono ?_
      rintro e w11 ⟨rfl,hS11,hg11⟩
      rw [show decide ((o:Int)≤2)=decide (o≤2) from decide_eq_decide.2 (by omega)] at hS11
      have HSL:=hide hS11
      have HOL:=hide (own_keep HO10.out hbr hg11)
      have HFL:=hide (HF10.out.keep hg11 (by simp;omega))
      have hsz11:=hg11.size
      clear hS11 hg11 hgS hf0 hf1 hff
      obtain ⟨hf0,hf1,hff⟩:=HFL.out
      clear hff
      have k13:=HSL.out.pk.c13
      have f13:=HSL.out.pk.fz 13
      go_wp2_with fail
      have HN:=hide (fil_news w11 t (o:Int))
      have hA:∀ o,(w11.alloc o).cell? ⟨bp,13,none⟩=some v:=fun o=>by rw [alloc_keep (topWalks.cell_lt k13)];exact k13
      go_region_law (
       refine step_append_own rfl (.tmp 49) (.tmp 51) 33 rfl C 95 i0 (.agg #[.string ByteArray.empty,.int .i64 0]) 2 24 Tryz.underlying33 hi hz0 hz1 hz2 rfl (by decide) v acc.length (filC acc) ?s1 ?s2 ⟨w11.heap.size,0,none⟩ 1 1 [.string (bs t),.int .i64 (o:Int)] ?s3 rfl ?s4 ?s5 ?s6 ?s7 ?s8 ?_
       case s1=>simp [Act.eval]
       case s3=>simp [Act.eval]
       case s2=>exact HOL.out.alloc _
       case s4=>exact HN.out
       case s5=>intro u hu;simp at hu;rcases hu with rfl | rfl<;>rfl
       case s6=>unfold maxLen;omega
       case s7=>omega
       case s8=>simp;omega
       intro v' w8 hown' hgrow
       obtain ⟨g',cap',rfl⟩:=own_form hown' (by omega)
       have hg8:(w11.alloc (.cells #[.string (bs t),.int .i64 (o:Int)] 95)).grownBy w8 v.ownBlock:=⟨hgrow.os,hgrow.tape,hgrow.output,hgrow.size,hgrow.block⟩
       have HS8:Hid (St a B br bp w w8 { p with id:=(n:Int),fv:=v } (wantS (decide (o≤2)) s3)):=hide ((HSL.out.other (World.grownBy_alloc w11 _ none) (fun _ h=>by cases h)).other hg8 (own_row HOL.out hbr hbp))
       have HOW:=hide hown'
       have k13':=HS8.out.pk.c13
       have f13':=HS8.out.pk.fz 13
       clear k13 f13 hf0 hf1 hA HN hgrow hg8 hown')
      all_goals
       go_wp2
       have HS9:=hide (HS8.out.pkStep (HS8.out.pk.setFv (.slice (some ⟨g',0,none⟩) (acc.length+1) cap')))
       have HO9:Hid ((w8.setCell ⟨bp,13,none⟩ (.slice (some ⟨g',0,none⟩) (acc.length+1) cap')).ownsRow C 95 2 (.slice (some ⟨g',0,none⟩) (acc.length+1) cap') (acc ++ [(t,(o:Int))]).length (filC (acc ++ [(t,(o:Int))]))):=by
        refine own_keep ?_ hbp (grown_set _ _ _ _)
        rw [filC_snoc,List.length_append]
        exact HOW.out
       go_roundg (lenS (wantS (decide (o≤2)) s3)+1)
       case measure=>omega
       case rel=>exact ⟨acc ++ [(t,(o:Int))],_,_,HS9.out,HO9.out,HST.out.symm,by simp;omega,by omega⟩
theorem filters_any (a:Addr) (B br bp C:Nat) (w0 w:World) (p:Pkt) (st:Option (List UInt8)) (hl:lenS st≤60000) (hS:St a B br bp w0 w p st) (hfv:p.fv=.slice none 0 0) (hbr:br < C) (hbp:bp < C) (hC:C≤w.heap.size) :
 Calls Tryz.prog 154 #[.pointer (some ⟨br,0,none⟩),.pointer (some ⟨bp,0,none⟩)] w fun e w'=>e=.returned (.tuple #[]) ∧
  ∃ v,St a B br bp w0 w' { p with id:=((idS st).1:Int),fv:=v } (filtersS (p.kind == 8) (idS st).2).2∧w'.ownsRow C 95 2 v (filtersS (p.kind == 8) (idS st).2).1.length (filC (filtersS (p.kind == 8) (idS st).2).1):=
 (filters_in a B br bp C w p st hl hS.base hfv hbr hbp hC).mono fun _ _ ⟨h1,v,h2,h3⟩=>⟨h1,v,hS.join h2,h3⟩
def Done (a:Addr) (B br bp C:Nat) (w0 w':World) (R:Pkt×List (List UInt8×Int)×List Int×Option (List UInt8)):Prop:=
 ∃ fv cv,St a B br bp w0 w' { R.1 with fv:=fv,cv:=cv } R.2.2.2∧w'.ownsRow C 95 2 fv R.2.1.length (filC R.2.1)∧w'.ownsRow C 3 1 cv R.2.2.1.length (ints R.2.2.1)
theorem connackS_v (p:Pkt) (st:Option (List UInt8)):(connackS p st).1.fv=p.fv∧(connackS p st).1.cv=p.cv:=⟨rfl,rfl⟩
theorem publishS_v (p:Pkt) (st:Option (List UInt8)):(publishS p st).1.fv=p.fv∧(publishS p st).1.cv=p.cv:=by
 unfold publishS;split<;>exact ⟨rfl,rfl⟩
theorem connectS_v (p:Pkt) (st:Option (List UInt8)):(connectS p st).1.fv=p.fv∧(connectS p st).1.cv=p.cv:=by
 unfold connectS bitsS bitP;simp only;split<;>exact ⟨rfl,rfl⟩
theorem pkt_eta (p:Pkt) {f c:Value} (h1:p.fv=f) (h2:p.cv=c):({ p with fv:=f,cv:=c }:Pkt)=p:=by subst h1;subst h2;rfl
theorem done_plain {a:Addr} {B br bp C:Nat} {w0 w':World} {q:Pkt} {st:Option (List UInt8)} (h:St a B br bp w0 w' q st) (h1:q.fv=.slice none 0 0) (h2:q.cv=.slice none 0 0):Done a B br bp C w0 w' (q,[],[],st):=
 ⟨.slice none 0 0,.slice none 0 0,by rw [pkt_eta q h1 h2];exact h,World.ownsRow_nil _ _ _ _,World.ownsRow_nil _ _ _ _⟩
set_option maxHeartbeats 3200000 in
set_option maxRecDepth 100000 in
theorem packet_any (a:Addr) (B br bp C:Nat) (w0 w:World) (p:Pkt) (st:Option (List UInt8)) (hl:lenS st≤60000) (hS:St a B br bp w0 w p st) (hfv:p.fv=.slice none 0 0) (hcv:p.cv=.slice none 0 0) (hbr:br < C) (hbp:bp < C) (hC:C≤w.heap.size)
 (hk1:1≤p.kind) (hk2:p.kind≤14) :
 Calls Tryz.prog 124 #[.pointer (some ⟨br,0,none⟩),.pointer (some ⟨bp,0,none⟩)] w fun e w'=>e=.returned (.tuple #[])∧Done a B br bp C w0 w' (packetS p st):=by
 have HS:=hide hS
 have k0:=hS.pk.c0
 have f12:=hS.pk.fz 12
 unfold packetS
 by_cases h1:p.kind=1
 · rw [if_pos h1]
   have c:=hide (connect_any a B br bp w0 w p st hl hS)
   rw [h1] at k0
   clear hS h1 hk1 hk2
   go_enter Tryz.func124,Tryz.ntmps124
   go_wp2_with fail
   refine (unhide c).mono ?_
   rintro e w1 ⟨rfl,hS1⟩
   have HS1:=hide hS1
   clear hS1
   go_wp2
   go_end0
   exact ⟨rfl,done_plain HS1.out (by rw [(connectS_v _ _).1];exact hfv) (by rw [(connectS_v _ _).2];exact hcv)⟩
 rw [if_neg h1]
 by_cases h2:p.kind=2
 · rw [if_pos h2]
   have c:=hide (connack_any a B br bp w0 w p st hS)
   rw [h2] at k0
   clear hS h1 h2 hk1 hk2
   go_enter Tryz.func124,Tryz.ntmps124
   go_wp2_with fail
   refine (unhide c).mono ?_
   rintro e w1 ⟨rfl,hS1⟩
   have HS1:=hide hS1
   clear hS1
   go_wp2
   go_end0
   exact ⟨rfl,done_plain HS1.out (by rw [(connackS_v _ _).1];exact hfv) (by rw [(connackS_v _ _).2];exact hcv)⟩
 rw [if_neg h2]
 by_cases h3:p.kind=3
 · rw [if_pos h3]
   have c:=hide (publish_any a B br bp w0 w p st hl hS)
   rw [h3] at k0
   clear hS h1 h2 h3 hk1 hk2
   go_enter Tryz.func124,Tryz.ntmps124
   go_wp2_with fail
   refine (unhide c).mono ?_
   rintro e w1 ⟨rfl,hS1⟩
   have HS1:=hide hS1
   clear hS1
   go_wp2
   go_end0
   exact ⟨rfl,done_plain HS1.out (by rw [(publishS_v _ _).1];exact hfv) (by rw [(publishS_v _ _).2];exact hcv)⟩
 rw [if_neg h3]
 by_cases h4:p.kind=4∨p.kind=5∨p.kind=6∨p.kind=7∨p.kind=11
 · rw [if_pos h4]
   have c:=hide (id_step a B br bp w0 w p st hS)
   clear hS h1 h2 h3 hk1 hk2
   rcases h4 with h | h | h | h | h
   all_goals
    rw [h] at k0
    clear h
    go_enter Tryz.func124,Tryz.ntmps124
    go_wp2_with fail
    refine (unhide c).mono ?_
    rintro e w1 ⟨rfl,hS1⟩
    have HS1:=hide hS1
    have HS2:=hide (HS1.out.pkStep (HS1.out.pk.id ((idS st).1:Int)))
    have k12:=HS1.out.pk.c12
    have f12':=HS1.out.pk.fz 12
    clear hS1
    go_wp2
    go_end0
    exact ⟨rfl,done_plain HS2.out hfv hcv⟩
 rw [if_neg h4]
 by_cases h8:p.kind=8∨p.kind=10
 · rw [if_pos h8]
   have c:=hide (filters_any a B br bp C w0 w p st hl hS hfv hbr hbp hC)
   clear hS h1 h2 h3 h4 hk1 hk2
   generalize filtersS (p.kind == 8) (idS st).2=F at *
   rcases h8 with h | h
   all_goals
    rw [h] at k0
    clear h
    go_enter Tryz.func124,Tryz.ntmps124
    go_wp2_with fail
    refine (unhide c).mono ?_
    rintro e w1 ⟨rfl,v,hS1,hO1⟩
    have HS1:=hide hS1
    have HO1:=hide hO1
    clear hS1 hO1
    go_wp2
    go_end0
    exact ⟨rfl,v,.slice none 0 0,by have h:=HS1.out;rw [← hcv];exact h,HO1.out,World.ownsRow_nil _ _ _ _⟩
 rw [if_neg h8]
 by_cases h9:p.kind=9
 · rw [if_pos h9]
   have c:=hide (codes_any a B br bp C w0 w p st hl hS hcv hbr hbp hC)
   rw [h9] at k0
   clear hS h1 h2 h3 h4 h8 h9 hk1 hk2
   generalize codesS (idS st).2=F at *
   go_enter Tryz.func124,Tryz.ntmps124
   go_wp2_with fail
   refine (unhide c).mono ?_
   rintro e w1 ⟨rfl,v,hS1,hO1⟩
   have HS1:=hide hS1
   have HO1:=hide hO1
   clear hS1 hO1
   go_wp2
   go_end0
   exact ⟨rfl,.slice none 0 0,v,by have h:=HS1.out;rw [← hfv];exact h,World.ownsRow_nil _ _ _ _,HO1.out⟩
 rw [if_neg h9]
 have hk:p.kind=12∨p.kind=13∨p.kind=14:=by omega
 clear hS h1 h2 h3 h4 h8 h9 hk1 hk2
 rcases hk with h | h | h
 all_goals
  rw [h] at k0
  clear h
  go_enter Tryz.func124,Tryz.ntmps124
  go_wp2
  go_end0
  exact ⟨rfl,done_plain HS.out hfv hcv⟩
end rd
end Go.Proofs.YtnmfmoimjkoieaaGreatDoor
