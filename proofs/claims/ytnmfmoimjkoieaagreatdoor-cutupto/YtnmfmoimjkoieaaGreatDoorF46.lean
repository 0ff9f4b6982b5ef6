import Derived.Test.YtnmfmoimjkoieaaGreatDoorF44
import Derived.Test.YtnmfmoimjkoieaaGreatDoorF45
import Derived.Test.YtnmfmoimjkoieaaGreatDoorF27
import Derived.Test.YtnmfmoimjkoieaaGreatDoorF33
namespace Go.Proofs.YtnmfmoimjkoieaaGreatDoor
namespace br
open Go.RowKit topPlain topWalks decPlain rd ew encPlain rf Go.Maps cu
def Par.wait (P:Par) (v:Value):Par:={ P with wv:=v }
theorem waited {w:World} {cb:Nat} {n:Int} {V:ConV} {C:Con} {v:Value} (h:w.heap[cb]?=some (.cells (conC n V C) 137)):(w.setCell ⟨cb,1,none⟩ v).heap[cb]?=some (.cells (conC n { V with wv:=v } C) 137):=by rw [blk_set _ h,conC_wv]
theorem set_ne {w:World} {cb b:Nat} {v:Value} (h:b≠cb):(w.setCell ⟨cb,1,none⟩ v).heap[b]?=w.heap[b]?:=Below.heap_setCell _ _ _ _ (fun e=>h e)
theorem gd_set {N:Nat} {ash aw:Addr} {w:World} {cb:Nat} {v:Value} (h:Gd N ash aw w) (hc:N≤cb):Gd N ash aw (w.setCell ⟨cb,1,none⟩ v):=h.below ((But.set (F:=fun b=>b=cb) w ⟨cb,1,none⟩ v rfl).below (fun b e=>by omega) h.env.size)
theorem One.wait {P:Par} {w:World} {Q:OneV} {S:Ses} {R:List Msg} {os:List OutS} (h:One P w Q S R os) (v:Value):One (P.wait v) (w.setCell ⟨P.cb,1,none⟩ v) ⟨Q.BV,Q.ov,Q.L,⟨{ Q.X.cv with wv:=v },Q.X.sv,Q.X.x,Q.X.y⟩⟩ S R os:=by
 have kp:∀ {b:Nat} {c:Array Value} {t:TypeId},w.heap[b]?=some (.cells c t)→t≠137→(w.setCell ⟨P.cb,1,none⟩ v).heap[b]?=w.heap[b]?:=fun hb ht=>set_ne (fun e=>by subst e;rw [h.con] at hb;simp at hb;exact ht hb.2.symm)
 have km:∀ {b:Nat} {o:Obj},w.heap[b]?=some o→(∀ c t,o≠.cells c t)→(w.setCell ⟨P.cb,1,none⟩ v).heap[b]?=w.heap[b]?:=fun hb ho=>set_ne (fun e=>by subst e;rw [h.con] at hb;exact ho _ _ (Option.some.inj hb).symm)
 refine ⟨gd_set h.gd (h.n0 _ (Or.inr (Or.inr (Or.inr (Or.inr (Or.inr (Or.inr (Or.inl rfl)))))))),⟨(kp h.blk.blk (by decide)).trans h.blk.blk,h.blk.out.keep (fun b hb=>by obtain ⟨cur,hc⟩:=own_blk h.blk.out.row hb;exact kp hc (by decide)) (fun o b ho hb=>by obtain ⟨cur,hc⟩:=own_blk (h.blk.out.dat o ho) hb;exact kp hc (by decide))⟩,h.los,waited h.con,h.b1.keep (kp h.b1.bx (by decide)) (kp h.b1.by_ (by decide)),h.b2.keep (kp h.b2.bx (by decide)) (kp h.b2.by_ (by decide)),h.ecb,rfl,h.esp,h.ses.keep (fun b hb=>?_),h.snd,⟨(kp h.snk.bx (by decide)).trans h.snk.bx,(kp h.snk.by_ (by decide)).trans h.snk.by_,_,waited h.con,(conC_at _ _ _).1⟩,?_,own_keep h.ret (fun b hb=>by obtain ⟨cur,hc⟩:=own_blk h.ret hb;exact kp hc (by decide)),h.kmb,h.cv3,h.clk,h.n0,by simp only [World.setCell,Array.size_modify];exact h.o1.1,h.o1.2⟩
 · rcases hb with rfl | hb | rfl | rfl | hb
   · exact kp h.ses.blk (by decide)
   · obtain ⟨cur,hc⟩:=own_blk h.ses.fil hb;exact kp hc (by decide)
   · obtain ⟨D,⟨es,clock,hk,_⟩,_⟩:=h.ses.kno;exact km hk (fun c t e=>by cases e)
   · obtain ⟨s,r,hk⟩:=h.ses.chn;exact km hk (fun c t e=>by cases e)
   · obtain ⟨cur,hc⟩:=own_blk h.ses.und hb;exact kp hc (by decide)
 · obtain ⟨es,cl,hm⟩:=map_blk h.map
   exact map_keep h.map (km hm (fun c t e=>by cases e))
theorem NewIs.wait {P:Par} {win:Int} {que:Nat} {w:World} {BV:BrV} {CV:ConV} (h:NewIs P win que w BV CV) (v:Value):NewIs (P.wait v) win que (w.setCell ⟨P.cb,1,none⟩ v) BV { CV with wv:=v }:=by
 have kp:∀ {b:Nat} {c:Array Value} {t:TypeId},w.heap[b]?=some (.cells c t)→t≠137→(w.setCell ⟨P.cb,1,none⟩ v).heap[b]?=w.heap[b]?:=fun hb ht=>set_ne (fun e=>by subst e;rw [h.con] at hb;simp at hb;exact ht hb.2.symm)
 refine ⟨gd_set h.gd (h.n0 _ (Or.inr (Or.inr (Or.inl rfl)))),⟨(kp h.blk.blk (by decide)).trans h.blk.blk,OutsAt.nil _⟩,waited h.con,h.b1.keep (kp h.b1.bx (by decide)) (kp h.b1.by_ (by decide)),h.b2.keep (kp h.b2.bx (by decide)) (kp h.b2.by_ (by decide)),h.ecb,rfl,?_,h.rv,h.cv3,h.clk,h.win,h.que,h.n0,by simp only [World.setCell,Array.size_modify];exact h.n1⟩
 obtain ⟨es,cl,hm⟩:=map_blk h.map
 exact map_keep h.map (set_ne (fun e=>by rw [e,h.con] at hm;cases hm))
def MidV (P:Par) (win:Int) (que:Nat) (s:St) (o:List OutS) (F:Nat→Prop) (w:World) (BV:BrV) (ov:Value) (L:List (OutS×Value)):Prop:=match s with
 | none=>o = []∧ov=.slice none 0 0∧L = []∧∃ CV,NewIs P win que w BV CV∧F=NewHas P BV CV
 | some x=>∃ fv cv sp X,One (P.on fv cv sp) w ⟨BV,ov,L,X⟩ x.1 x.2 o∧F=OneV.has (P.on fv cv sp) ⟨BV,ov,L,X⟩
theorem Mid.toV {P:Par} {win:Int} {que:Nat} {s:St} {o:List OutS} {F:Nat→Prop} {w:World} (h:Mid P win que s o F w):∃ BV ov L,MidV P win que s o F w BV ov L:=by
 cases s with
 | none=>obtain ⟨rfl,BV,CV,h,e⟩:=h;exact ⟨BV,_,[],rfl,rfl,rfl,CV,h,e⟩
 | some x=>obtain ⟨fv,cv,sp,Q,h,e⟩:=h;exact ⟨Q.BV,Q.ov,Q.L,fv,cv,sp,Q.X,h,e⟩
theorem MidV.blk {P:Par} {win:Int} {que:Nat} {s:St} {o:List OutS} {F:Nat→Prop} {w:World} {BV:BrV} {ov:Value} {L:List (OutS×Value)} (h:MidV P win que s o F w BV ov L):BlkAt w P.B BV ov L∧L.map Prod.fst=o∧BV.cv 3=.pointer (some ⟨P.cb,0,none⟩):=by
 cases s with
 | none=>obtain ⟨rfl,rfl,rfl,CV,h,e⟩:=h;exact ⟨h.blk,rfl,by rw [h.cv3,if_pos rfl]⟩
 | some x=>obtain ⟨fv,cv,sp,X,h,e⟩:=h;exact ⟨h.blk,h.los,h.cv3⟩
theorem MidV.wait {P:Par} {win:Int} {que:Nat} {s:St} {o:List OutS} {F:Nat→Prop} {w:World} {BV:BrV} {ov:Value} {L:List (OutS×Value)} (h:MidV P win que s o F w BV ov L) (v:Value):MidV (P.wait v) win que s o F (w.setCell ⟨P.cb,1,none⟩ v) BV ov L:=by
 cases s with
 | none=>obtain ⟨rfl,rfl,rfl,CV,h,e⟩:=h;exact ⟨rfl,rfl,rfl,_,h.wait v,e⟩
 | some x=>obtain ⟨fv,cv,sp,X,h,e⟩:=h;exact ⟨fv,cv,sp,_,h.wait v,e⟩
theorem MidV.taken {P:Par} {win:Int} {que:Nat} {s:St} {o:List OutS} {F:Nat→Prop} {w w':World} {BV:BrV} {ov:Value} {L:List (OutS×Value)} (h:MidV P win que s o F w BV ov L) (hB:BlkAt w' P.B BV (.slice none 0 0) []) (hb:But (fun b=>b=P.B) w w'):∃ F',MidV P win que s [] F' w' BV (.slice none 0 0) []∧(∀ b,F' b→F b)∧(∀ b,(ov.ownBlock=some b∨∃ x,x∈L∧x.2.ownBlock=some b)→F b∧¬ F' b):=by
 cases s with
 | none =>
   obtain ⟨rfl,rfl,rfl,CV,h,rfl⟩:=h
   have kp:∀ {b:Nat} {c:Array Value} {t:TypeId},w.heap[b]?=some (.cells c t)→t≠131→w'.heap[b]?=w.heap[b]?:=fun hx ht=>hb.keep _ (blk_lt hx) (fun e=>by subst e;rw [h.blk.blk] at hx;simp at hx;exact ht hx.2.symm)
   refine ⟨_,⟨rfl,rfl,rfl,CV,⟨h.gd.below (hb.below (fun b e=>by subst e;exact h.n0 _ (Or.inl rfl)) h.gd.env.size),hB,(kp h.con (by decide)).trans h.con,h.b1.keep (kp h.b1.bx (by decide)) (kp h.b1.by_ (by decide)),h.b2.keep (kp h.b2.bx (by decide)) (kp h.b2.by_ (by decide)),h.ecb,h.ewv,?_,h.rv,h.cv3,h.clk,h.win,h.que,h.n0,Nat.le_trans h.n1 hb.size⟩,rfl⟩,fun _ h=>h,?_⟩
   · obtain ⟨es,cl,hm⟩:=map_blk h.map
     exact map_keep h.map (hb.keep _ (blk_lt hm) (fun e=>by rw [e,h.blk.blk] at hm;cases hm))
   · rintro b (e | ⟨x,hx,e⟩)
     · cases e
     · cases hx
 | some x =>
   obtain ⟨fv,cv,sp,X,h,rfl⟩:=h
   have kp:∀ {b:Nat} {c:Array Value} {t:TypeId},w.heap[b]?=some (.cells c t)→t≠131→w'.heap[b]?=w.heap[b]?:=fun hx ht=>hb.keep _ (blk_lt hx) (fun e=>by subst e;have hq:w.heap[P.B]?=some (.cells (brC BV ov) 131):=h.blk.blk;rw [hq] at hx;simp at hx;exact ht hx.2.symm)
   have hsub:∀ b,OneV.has (P.on fv cv sp) ⟨BV,.slice none 0 0,[],X⟩ b→OneV.has (P.on fv cv sp) ⟨BV,ov,L,X⟩ b:=fun b e=>by
    rcases e with e | e | ⟨o,ho,e⟩ | e
    · exact Or.inl e
    · cases e
    · cases ho
    · exact Or.inr (Or.inr (Or.inr e))
   refine ⟨_,⟨fv,cv,sp,X,⟨h.gd.below (hb.below (fun b e=>by subst e;exact h.n0 _ (Or.inl rfl)) h.gd.env.size),hB,rfl,(kp h.con (by decide)).trans h.con,h.b1.keep (kp h.b1.bx (by decide)) (kp h.b1.by_ (by decide)),h.b2.keep (kp h.b2.bx (by decide)) (kp h.b2.by_ (by decide)),h.ecb,h.ewv,h.esp,h.ses.but hb (fun b hx e=>?_),h.snd,h.snk.keep (kp h.snk.bx (by decide)) (kp h.snk.by_ (by decide)) (kp h.con (by decide)),?_,own_keep h.ret (fun b hx=>by obtain ⟨cur,hc⟩:=own_blk h.ret hx;exact kp hc (by decide)),h.kmb,h.cv3,h.clk,fun b e=>h.n0 b (hsub b e),Nat.le_trans h.o1.1 hb.size,fun b e=>by rcases e with e | ⟨o,ho,e⟩;cases e;cases ho⟩,rfl⟩,hsub,?_⟩
   · subst e;exact h.ses.apart h.blk hx (Or.inl rfl)
   · obtain ⟨es,cl,hm⟩:=map_blk h.map
     exact map_keep h.map (hb.keep _ (blk_lt hm) (fun e=>h.notMap (Or.inr (Or.inl e))))
   · have hty:∀ b,(ov.ownBlock=some b∨∃ x,x∈L∧x.2.ownBlock=some b)→∃ c t,w.heap[b]?=some (.cells c t)∧(t=66∨t=5):=fun b e=>by
      rcases e with e | ⟨x,hx,e⟩
      · obtain ⟨cur,hc⟩:=own_blk h.blk.out.row e;exact ⟨cur,_,hc,Or.inl rfl⟩
      · obtain ⟨cur,hc⟩:=own_blk (h.blk.out.dat x hx) e;exact ⟨cur,_,hc,Or.inr rfl⟩
     intro b hbb
     refine ⟨hbb.elim (fun e=>Or.inr (Or.inl e)) (fun e=>Or.inr (Or.inr (Or.inl e))),fun e=>?_⟩
     obtain ⟨c,t,hc,ht⟩:=hty b hbb
     have hno:∀ {c':Array Value} {t':TypeId},w.heap[b]?=some (.cells c' t')→t'≠66→t'≠5→False:=fun h1 h2 h3=>by
      rw [hc] at h1;simp at h1
      rcases ht with ht | ht
      · exact h2 (h1.2.symm.trans ht)
      · exact h3 (h1.2.symm.trans ht)
     rcases e with e | e | ⟨o,ho,e⟩ | e | e | e | e | (e | e | e | e) | e | e
     · subst e;exact hno h.blk.blk (by decide) (by decide)
     · cases e
     · cases ho
     · rcases e with e | e | e | e | e
       · subst e;exact hno h.ses.blk (by decide) (by decide)
       · obtain ⟨cur,hx⟩:=own_blk h.ses.fil e;exact hno hx (by decide) (by decide)
       · obtain ⟨D,⟨es,clock,hk,_⟩,_⟩:=h.ses.kno;rw [← e,hc] at hk;cases hk
       · obtain ⟨s,r,hk⟩:=h.ses.chn;rw [← e,hc] at hk;cases hk
       · obtain ⟨cur,hx⟩:=own_blk h.ses.und e;exact hno hx (by decide) (by decide)
     · obtain ⟨es,cl,hm⟩:=map_blk h.map
       have e2:b=BV.mb:=e
       rw [← e2,hc] at hm;cases hm
     · obtain ⟨cur,hx⟩:=own_blk h.ret e;exact hno hx (by decide) (by decide)
     · subst e;exact hno h.con (by decide) (by decide)
     · subst e;exact hno h.b1.bx (by decide) (by decide)
     · subst e;exact hno h.b1.by_ (by decide) (by decide)
     · subst e;exact hno h.b2.bx (by decide) (by decide)
     · subst e;exact hno h.b2.by_ (by decide) (by decide)
     · subst e;exact hno h.snk.bx (by decide) (by decide)
     · subst e;exact hno h.snk.by_ (by decide) (by decide)
theorem MidV.mid {P:Par} {win:Int} {que:Nat} {s:St} {o:List OutS} {F:Nat→Prop} {w:World} {BV:BrV} {ov:Value} {L:List (OutS×Value)} (h:MidV P win que s o F w BV ov L):Mid P win que s o F w:=by
 cases s with
 | none=>obtain ⟨rfl,rfl,rfl,CV,h,e⟩:=h;exact ⟨rfl,BV,CV,h,e⟩
 | some x=>obtain ⟨fv,cv,sp,X,h,e⟩:=h;exact ⟨fv,cv,sp,_,h,e⟩
def Par.base (P:Par) (n:Nat):Par:={ P with N1:=n }
theorem MidV.base {P:Par} {win:Int} {que:Nat} {s:St} {F:Nat→Prop} {w:World} {BV:BrV} (h:MidV P win que s [] F w BV (.slice none 0 0) []) (n:Nat) (hn:n≤w.heap.size):MidV (P.base n) win que s [] F w BV (.slice none 0 0) []:=by
 cases s with
 | none=>obtain ⟨_,_,_,CV,h,e⟩:=h;exact ⟨rfl,rfl,rfl,CV,⟨h.gd,h.blk,h.con,h.b1,h.b2,h.ecb,h.ewv,h.map,h.rv,h.cv3,h.clk,h.win,h.que,h.n0,hn⟩,e⟩
 | some x=>obtain ⟨fv,cv,sp,X,h,e⟩:=h;exact ⟨fv,cv,sp,X,⟨h.gd,h.blk,h.los,h.con,h.b1,h.b2,h.ecb,h.ewv,h.esp,h.ses,h.snd,h.snk,h.map,h.ret,h.kmb,h.cv3,h.clk,h.n0,hn,fun b e=>by rcases e with e | ⟨o,ho,e⟩;cases e;cases ho⟩,e⟩
theorem MidV.out {P:Par} {win:Int} {que:Nat} {s:St} {o:List OutS} {F:Nat→Prop} {w:World} {BV:BrV} {ov:Value} {L:List (OutS×Value)} (h:MidV P win que s o F w BV ov L):(∀ b,OutBlk ov L b→P.N1≤b)∧Gd P.N0 P.ash P.aw w:=by
 cases s with
 | none=>obtain ⟨rfl,rfl,rfl,CV,h,e⟩:=h;exact ⟨(fun b e=>by rcases e with e | ⟨o,ho,e⟩;cases e;cases ho),h.gd⟩
 | some x=>obtain ⟨fv,cv,sp,X,h,e⟩:=h;exact ⟨h.o1.2,h.gd⟩
theorem MidV.unbase {P:Par} {v wv:Value} {n:Nat} {win:Int} {que:Nat} {s:St} {o:List OutS} {F:Nat→Prop} {w:World} {BV:BrV} {ov:Value} {L:List (OutS×Value)} (h:MidV (((P.wait wv).base n).wait v) win que s o F w BV ov L):MidV ((P.wait v).base n) win que s o F w BV ov L:=h
theorem MidV.keep {P:Par} {win:Int} {que:Nat} {s:St} {o:List OutS} {F G:Nat→Prop} {w w':World} {BV:BrV} {ov:Value} {L:List (OutS×Value)} (h:MidV P win que s o F w BV ov L) (hb:But G w w') (hG:∀ x,G x→¬ F x∧P.N0≤x):MidV P win que s o F w' BV ov L:=by
 cases s with
 | none=>obtain ⟨rfl,rfl,rfl,CV,h,rfl⟩:=h;exact ⟨rfl,rfl,rfl,CV,h.keep hb hG,rfl⟩
 | some x=>obtain ⟨fv,cv,sp,X,h,rfl⟩:=h;exact ⟨fv,cv,sp,X,h.keep hb hG,rfl⟩
structure Idle (P:Par) (win:Int) (que:Nat) (s:St) (wt:List UInt8) (w:World) (wv:Value) (F:Nat→Prop):Prop where
 mid:∃ n BV,MidV ((P.wait wv).base n) win que s [] F w BV (.slice none 0 0) []
 row:w.ownsRow 0 5 1 wv wt.length (u8k wt)
 apart:∀ b,wv.ownBlock=some b→¬ F b∧P.N0≤b
def IdleAt (P:Par) (win:Int) (que:Nat) (s:St) (wt:List UInt8):Fpr:=fun G w=>∃ wv F,Idle P win que s wt w wv F∧G=fun b=>F b∨wv.ownBlock=some b
theorem idle_fit (P:Par) (win:Int) (que:Nat) (s:St) (wt:List UInt8):Fit P.N0 (IdleAt P win que s wt):=by
 refine ⟨fun F G a b ⟨wv,F',h,e⟩ hb hG=>⟨wv,F',⟨?_,?_,h.apart⟩,e⟩,fun F a ⟨wv,F',h,e⟩ b hb=>?_⟩
 · obtain ⟨n,BV,hM⟩:=h.mid
   exact ⟨n,BV,hM.keep hb (fun x hx=>⟨fun f=>(hG x hx).1 (by rw [e];exact Or.inl f),(hG x hx).2⟩)⟩
 · exact own_but h.row hb (fun x hx g=>(hG x g).1 (by rw [e];exact Or.inr hx))
 · subst e
   rcases hb with hb | hb
   · obtain ⟨n,BV,hM⟩:=h.mid
     exact (mid_fit _ win que s []).lt F' a hM.mid b hb
   · obtain ⟨cur,hc⟩:=own_blk h.row hb;exact blk_lt hc
structure FedBy (P:Par) (win:Int) (que:Nat) (s:St) (l:List UInt8) (G:Nat→Prop) (w w':World) (ov:Value) (L:List (OutS×Value)):Prop where
 out:OutsAt w' ov L
 but:But G w w'
 new:∀ b,OutBlk ov L b→w.heap.size≤b
 gd:Gd P.N0 P.ash P.aw w'
 is:(∃ s',readS (stepC win que) shutO s l=(s',L.map Prod.fst,none))∨∃ s' r G',readS (stepC win que) shutO s l=(s',L.map Prod.fst,some r)∧IdleAt P win que s' r G' w'∧(∀ b,G' b→G b∨w.heap.size≤b)∧(∀ b,OutBlk ov L b→¬ G' b)∧Good s' (L.map Prod.fst) r
def FedMid (P:Par) (win:Int) (que:Nat) (s:St) (l:List UInt8) (G:Nat→Prop) (w w2:World) (BV:BrV) (ov:Value) (L:List (OutS×Value)):Prop:=
 But G w w2∧Gd P.N0 P.ash P.aw w2∧(∀ b,OutBlk ov L b→w.heap.size≤b)∧((∃ s',readS (stepC win que) shutO s l=(s',L.map Prod.fst,none))∨∃ s' r F v,readS (stepC win que) shutO s l=(s',L.map Prod.fst,some r)∧MidV ((P.wait v).base w.heap.size) win que s' (L.map Prod.fst) F w2 BV ov L∧w2.ownsRow 0 5 1 v r.length (u8k r)∧(∀ b,v.ownBlock=some b→¬ F b∧w.heap.size≤b)∧(∀ b,F b→G b∨w.heap.size≤b)∧Good s' (L.map Prod.fst) r)
theorem feed_cut {P:Par} {win:Int} {que:Nat} {s:St} {wt d l:List UInt8} {G:Nat→Prop} {w:World} (h:IdleAt P win que s wt G w) (hl:wt ++ d=l) (hg:Good s [] l) (db doff dc:Nat) (hd:∀ j x,d[j]?=some x→w.cell? ⟨db,doff+j,none⟩=some (.int .u8 (x.toNat:Int))) :
 Calls Tryz.prog 24 #[.pointer (some ⟨P.B,0,none⟩),.int .i64 ((3:Nat):Int),.slice (some ⟨db,doff,none⟩) d.length dc] w fun e w'=>∃ ov L,e=.returned (.tuple #[ov,.int .i64 0])∧FedBy P win que s l G w w' ov L:=by
 obtain ⟨wv,F0,hI,rfl⟩:=h
 obtain ⟨n0,BV0,hV⟩:=hI.mid
 obtain ⟨hb0,hl0,hcv⟩:=hV.blk
 have hN0:=hV.out.2.env.size
 have hF0:=(mid_fit _ win que s []).lt F0 w hV.mid
 have hlen:wt.length+d.length≤1000000000:=by
  have:=hg.1
  rw [← hl,List.length_append] at this
  omega
 refine (feed_any P.B 3 P.cb (some ⟨db,doff,none⟩) d.length dc BV0 _ w (fun w' w''=>RdPost (stepC win que) (InvC ((P.wait wv).base w.heap.size) win que) (EndAt ((P.wait wv).base w.heap.size)) P.cb (fun b=>F0 b∨wv.ownBlock=some b) F0 s l w' (.returned (.tuple #[])) w'') (fun w' w'' BV' ov' L'=>FedMid P win que s l (fun b=>F0 b∨wv.ownBlock=some b) w w'' BV' ov' L') hb0.blk (by omega) hcv ?_ ?_).mono ?_
 · intro w' hb
   have hV':=(hV.base w.heap.size (Nat.le_refl _)).keep (But.of_below (F:=fun _=>False) hb) (fun _ f=>f.elim)
   refine (read_all (N0:=P.N0) (ash:=P.ash) (aw:=P.aw) P.B 3 P.cb (by omega) wv wt d l hl (stepC win que) (InvC ((P.wait wv).base w.heap.size) win que) (EndAt ((P.wait wv).base w.heap.size)) (inv_kit ((P.wait wv).base w.heap.size) win que wt) s F0 db doff dc w' ⟨hV'.mid,hg⟩ (own_below4 hI.row hb) hI.apart (fun j x hx=>by have:=hd j x hx;rw [hb.cell (cell_blt this)];exact this) hlen).mono ?_
   rintro e w'' ⟨rfl,hp⟩
   exact ⟨rfl,rfl,hp⟩
 · rintro w' w'' hb ⟨_,hp⟩
   have hs':=hb.size
   have hwB:∀ {w2},But (fun b=>F0 b∨wv.ownBlock=some b) w' w2→But (fun b=>F0 b∨wv.ownBlock=some b) w w2:=fun hB=>(But.of_below hb).trans hB (fun _ _ e=>e)
   rcases hp with ⟨s',o,F,hr,⟨BV,ov,L,hE,rfl⟩,hB,hnew⟩ | ⟨s',o,r,F,w2,w3,v,hr,⟨hM,hgd⟩,hB,hnew,hb3,hv,rfl⟩
   · exact ⟨BV,ov,L,hE.blk,hwB hB,hE.gd,hE.o1,Or.inl ⟨s',by rw [hr,hE.los]⟩⟩
   · obtain ⟨BV,ov,L,hV2⟩:=hM.toV
     have hV3:=hV2.keep (But.of_below (F:=fun _=>False) hb3) (fun _ f=>f.elim)
     have hV4:=hV3.wait v
     obtain ⟨i1,i2,i3⟩:=hV4.blk
     have hFlt:=(mid_fit _ _ _ _ _).lt F w2 hV2.mid
     have hcb:F P.cb:=by
      cases s' with
      | none=>obtain ⟨_,_,_,CV,_,e⟩:=hV2;rw [e];exact Or.inr (Or.inr (Or.inl rfl))
      | some x=>obtain ⟨fv,cv,sp,X,_,e⟩:=hV2;rw [e];exact Or.inr (Or.inr (Or.inr (Or.inr (Or.inr (Or.inr (Or.inl rfl))))))
     have hcb0:F0 P.cb:=by
      cases s with
      | none=>obtain ⟨_,_,_,CV,_,e⟩:=hV;rw [e];exact Or.inr (Or.inr (Or.inl rfl))
      | some x=>obtain ⟨fv,cv,sp,X,_,e⟩:=hV;rw [e];exact Or.inr (Or.inr (Or.inr (Or.inr (Or.inr (Or.inr (Or.inl rfl))))))
     have hvb:∀ b,v.ownBlock=some b→w2.heap.size≤b:=fun b e=>(own_zero hv).2 b e
     have hsz2:w.heap.size≤w2.heap.size:=Nat.le_trans hs' hB.size
     refine ⟨BV,ov,L,i1,?_,hV4.out.2,hV4.out.1,Or.inr ⟨s',r,F,v,by rw [hr,i2],?_,?_,fun b e=>⟨fun f=>?_,?_⟩,fun b f=>?_,by rw [i2];exact hgd⟩⟩
     · have h1:But (fun b=>F0 b∨wv.ownBlock=some b) w w3:=(hwB hB).trans (But.of_below (F:=fun _=>False) hb3) (fun _ _ f=>f.elim)
       exact h1.trans (But.set (F:=fun b=>b=P.cb) w3 ⟨P.cb,1,none⟩ v rfl) (fun x _ e=>Or.inl (by rw [e];exact hcb0))
     · rw [i2];exact hV4.unbase
     · exact own_keep (own_zero hv).1 (fun b hb'=>set_ne (fun e=>by have:=hvb b hb';have:=hFlt _ hcb;omega))
     · have:=hFlt b f;have:=hvb b e;omega
     · have:=hvb b e;omega
     · exact (hnew b f).imp Or.inl (fun e=>by omega)
 · rintro e w' ⟨w1,w2,BV',ov',L',hb1,⟨hB,hG2,hout,his⟩,hblk,rfl,ho,hblk',hbB⟩
   have hBin:F0 P.B:=by
    cases s with
    | none=>obtain ⟨_,_,_,CV,_,e⟩:=hV;rw [e];exact Or.inl rfl
    | some x=>obtain ⟨fv,cv,sp,X,_,e⟩:=hV;rw [e];exact Or.inl rfl
   have hnB:P.N0≤P.B:=by
    cases s with
    | none=>obtain ⟨_,_,_,CV,h,e⟩:=hV;exact h.n0 _ (Or.inl rfl)
    | some x=>obtain ⟨fv,cv,sp,X,h,e⟩:=hV;exact h.n0 _ (Or.inl rfl)
   refine ⟨ov',L',rfl,ho,hB.trans hbB (fun x _ e=>Or.inl (by rw [e];exact hBin)),hout,hG2.below (hbB.below (fun b e=>by omega) hG2.env.size),?_⟩
   rcases his with h1 | ⟨s',r,F,v,h1,h2,h3,h4,h5,h6⟩
   · exact Or.inl h1
   · obtain ⟨F',j1,j2,j3⟩:=h2.taken hblk' hbB
     refine Or.inr ⟨s',r,fun b=>F' b∨v.ownBlock=some b,h1,⟨v,F',⟨⟨_,BV',j1⟩,own_but h3 hbB (fun b hb e=>?_),fun b hb=>⟨fun f=>(h4 b hb).1 (j2 b f),Nat.le_trans hN0 (h4 b hb).2⟩⟩,rfl⟩,fun b hb=>?_,fun b hb f=>?_,h6⟩
     · obtain ⟨cur,hc⟩:=own_blk h3 hb
       have:=hblk.blk
       rw [← e,hc] at this
       cases this
     · rcases hb with hb | hb
       · exact h5 b (j2 b hb)
       · exact Or.inr (h4 b hb).2
     · rcases f with f | f
       · exact (j3 b hb).2 f
       · exact (h4 b f).1 (j3 b hb).1
def pickC (c:Int) (n:Nat):Nat:=if c < 0 then (-(c+1)).toNat % n else c.toNat % n
theorem pickC_lt (c:Int) {n:Nat} (h:0 < n):pickC c n < n:=by unfold pickC;split<;>exact Nat.mod_lt _ h
theorem pick_c (c:Int) (n:Nat) (w:World) (hn:0 < n) (h1:-9223372036854775808≤c) (h2:c≤9223372036854775807) (hm:n≤9223372036854775807) :
 Calls Tryz.prog 21 #[.int .i64 c,.int .i64 (n:Int)] w fun e w'=>e=.returned (.int .i64 (pickC c n:Int))∧Below w.heap.size w w':=by
 go_enter Tryz.func21,Tryz.ntmps21
 by_cases h:c < 0
 · go_wp2
   go_ret
   obtain ⟨k,hk⟩:=Int.eq_ofNat_of_zero_le (show 0≤-(c+1) by omega)
   refine ⟨?_,Below.refl _ _⟩
   show Ending.returned (.int .i64 (-((c+1).tmod (n:Int))))=_
   rw [← Int.neg_tmod,pickC,if_pos h,hk]
   rfl
 · go_wp2
   go_ret
   obtain ⟨k,rfl⟩:=Int.eq_ofNat_of_zero_le (show 0≤c by omega)
   refine ⟨?_,Below.refl _ _⟩
   rw [pickC,if_neg (by omega)]
   rfl
theorem wrap_c (n:Int) (h0:0≤n) (h1:n < 9223372036854775808):IntKind.wrap .i64 n=n:=by
 simp [IntKind.wrap,IntKind.bits,IntKind.signed]
 omega
theorem OutsAt.below {w w':World} {v:Value} {L:List (OutS×Value)} (h:OutsAt w v L) (hb:Below w.heap.size w w'):OutsAt w' v L:=h.keep (fun b e=>by obtain ⟨cur,hc⟩:=own_blk h.row e;exact hb.block _ (blk_lt hc)) (fun o b ho e=>by obtain ⟨cur,hc⟩:=own_blk (h.dat o ho) e;exact hb.block _ (blk_lt hc))
theorem wpList_append_loc {P:Program} (w:World) {ops:Array Oper} {rest:List Oper} {o:Oper} {a:Act} {Q:Exit→Act→World→Prop} (hgd:o.guard=none) (s x:Operand) (t:TypeId)
 (ho:o.op=.call { callee:=.builtin .append,args:=#[s,x],argTypes:=#[t,t] }) (base:Nat) (e:TypeId) (i:TypeInfo) (z:Value) (size bytes:Nat) (ht:P.underlying t=some (.slice e)) (hi:P.info? e=some i) (hz:i.zero=some z)
 (hsize:i.size=size) (hby:i.bytes=bytes) (hzs:z.cells.size=size) (hsz:0 < size) (v:Value) (n:Nat) (xs:List Value) (hs:a.eval s=v) (hown:w.ownsRow base e size v n xs)
 (base2:Nat) (vx:Value) (m:Nat) (news:List Value) (hx:a.eval x=vx) (hown2:w.ownsRow base2 e size vx m news) (h1:∀ u∈news,u.oneCell'=true)
 (h63:n+m≤maxLen) (hbytes:(n+m)*bytes≤140737488355328) (hbase:base≤w.heap.size)
 (h:∀ v' w',w'.ownsRow base e size v' (n+m) (xs ++ news)→w.grownBy w' v.ownBlock→(v'.ownBlock=v.ownBlock∨v'.ownBlock=some w.heap.size)→wpList P ops Q rest (a.put o.dst v') w'):wpList P ops Q (o :: rest) a w:=by
 rcases hown2.2 with ⟨e1,e2⟩ | ⟨g,cap,cur,e1,_⟩
 · have hn:news = []:=by have:=hown2.1;rw [e2,Nat.zero_mul] at this;exact List.eq_nil_of_length_eq_zero this
   subst hn e2
   refine wpList_append_own_none hgd s x t ho base e i size ht hi v n xs hs hown (hx.trans e1) ?_
   refine h v w ?_ (grown_refl _ _) (Or.inl rfl)
   rw [List.append_nil]
   exact hown
 · refine wpList_append_own_at w hgd s x t ho base e i z size bytes ht hi hz hsize hby hzs hsz v n xs hs hown ⟨g,0,none⟩ m cap news (hx.trans e1) hown2.1 (hown2.cells (by rw [e1];rfl)) h1 h63 hbytes hbase ?_
   intro v' w' h2 h3 _ h4
   exact h v' w' h2 h3 h4
theorem conv_outs {w:World} {C:Nat} {v:Value} {b:List UInt8} (h:w.ownsRow C 5 1 v b.length (u8s b)):(convert 45 9 v).run Tryz.prog w=.ok (.string (bs b)) w:=by
 rcases h.2 with ⟨rfl,h0⟩ | ⟨g,cap,cur,rfl,_⟩
 · have hb:b = []:=List.eq_nil_of_length_eq_zero h0
   subst hb
   exact run_convert_bytes_nil (P:=Tryz.prog) w 45 5 Tryz.underlying45 Tryz.underlying5 0 0 9 Tryz.underlying9
 · obtain ⟨b',off,cap',e1,_,_,_,h5⟩:=bytesV_own h
   cases e1
   have:=rd.conv_bytes (n:=b.length) (cap:=cap) (Nat.le_refl _) h5
   rw [List.take_length] at this
   exact this
def Open3 (o:OutS):Prop:=o.conn=3∧o.closed=false
theorem tellP_open (S:Ses) (m:Msg):∀ o∈tellP S m,Open3 o:=by
 unfold tellP
 intro o ho
 split at ho
 · simp only [List.mem_singleton] at ho;subst ho;exact ⟨rfl,rfl⟩
 · cases ho
theorem one_open (d:List UInt8):∀ o∈[(⟨3,d,false⟩:OutS)],Open3 o:=fun o ho=>by simp only [List.mem_singleton] at ho;subst ho;exact ⟨rfl,rfl⟩
theorem app_open {a b:List OutS} (h1:∀ o∈a,Open3 o) (h2:∀ o∈b,Open3 o):∀ o∈a ++ b,Open3 o:=fun o ho=>(List.mem_append.1 ho).elim (h1 o) (h2 o)
theorem tellR_open (q:Int):∀ (l:List Msg) (x:Ses×List OutS),(∀ o∈x.2,Open3 o)→∀ o∈(l.foldl (tellR q) x).2,Open3 o:=by
 intro l
 induction l with
 | nil=>exact fun x hx=>hx
 | cons a t ih=>exact fun x hx=>ih _ (app_open hx (tellP_open _ _))
theorem retA_open (R:List Msg):∀ (T:List (List UInt8×Int)) (x:Ses×List OutS),(∀ o∈x.2,Open3 o)→∀ o∈(retA R x T).2,Open3 o:=by
 intro T
 induction T with
 | nil=>exact fun x hx=>hx
 | cons a t ih=>exact fun x hx=>ih (retF R x a) (tellR_open a.2 (matchS a.1 R) x hx)
theorem nil_open:∀ o∈([]:List OutS),Open3 o:=fun o ho=>by cases ho
theorem step_outs (x:Ses×List Msg) (q:cu.Dec):if (stepS x q).2.2 then (stepS x q).2.1 = [shutO] else ∀ o∈(stepS x q).2.1,Open3 o:=by
 unfold stepS
 split
 · show ∀ o∈recvO x.1 q.1,Open3 o
   unfold recvO pubO recvA
   refine app_open ?_ ?_
   · split
     · exact nil_open
     · split
       · exact tellP_open _ _
       · exact nil_open
   · split
     · exact one_open _
     · split
       · exact one_open _
       · exact nil_open
 · split
   · show ∀ o∈endO _ _,Open3 o
     unfold endO
     split
     · exact one_open _
     · exact nil_open
   · split
     · show ∀ o∈recO _ _,Open3 o
       unfold recO
       split
       · exact one_open _
       · exact nil_open
     · split
       · exact one_open _
       · split
         · show ∀ o∈endO _ _,Open3 o
           unfold endO
           split
           · exact one_open _
           · exact nil_open
         · split
           · exact retA_open _ _ _ (one_open _)
           · split
             · exact one_open _
             · split
               · exact one_open _
               · rfl
theorem stepC_outs (win:Int) (que:Nat) (s:St) (q:cu.Dec):if (stepC win que s q).2.2 then (stepC win que s q).2.1 = [shutO] else ∀ o∈(stepC win que s q).2.1,Open3 o:=by
 cases s with
 | none=>exact one_open _
 | some x=>exact step_outs x q
theorem readS_outs (win:Int) (que:Nat):∀ (n:Nat) (s:St) (l:List UInt8),l.length≤n→(∀ s' o r,readS (stepC win que) shutO s l=(s',o,some r)→(∀ x∈o,Open3 x)∧r.length≤l.length∧(s'=none→s=none∧o = []∧r=l))∧(∀ s' o,readS (stepC win que) shutO s l=(s',o,none)→∃ p,o=p ++ [shutO]∧∀ x∈p,Open3 x):=by
 intro n
 induction n with
 | zero =>
   intro s l hl
   have:l = []:=List.eq_nil_of_length_eq_zero (by omega)
   subst this
   rw [readS_short _ _ (show decL []=.inl true from rfl)]
   refine ⟨fun s' o r h=>?_,fun s' o h=>by cases h⟩
   simp only [Prod.mk.injEq,Option.some.injEq] at h
   obtain ⟨rfl,rfl,rfl⟩:=h
   exact ⟨nil_open,Nat.le_refl _,fun e=>⟨e,rfl,rfl⟩⟩
 | succ n ih =>
   intro s l hl
   cases hd:decL l with
   | inl b =>
     cases b with
     | true =>
       rw [readS_short _ _ hd]
       refine ⟨fun s' o r h=>?_,fun s' o h=>by cases h⟩
       simp only [Prod.mk.injEq,Option.some.injEq] at h
       obtain ⟨rfl,rfl,rfl⟩:=h
       exact ⟨nil_open,Nat.le_refl _,fun e=>⟨e,rfl,rfl⟩⟩
     | false =>
       rw [readS_wrong _ _ hd]
       refine ⟨fun s' o r h=>(by cases h),fun s' o h=>?_⟩
       simp only [Prod.mk.injEq,and_true] at h
       obtain ⟨rfl,rfl⟩:=h
       exact ⟨[],rfl,nil_open⟩
   | inr qn =>
     obtain ⟨q,k⟩:=qn
     obtain ⟨g1,g2⟩:=cu.dec_len hd
     have hlk:(l.drop k).length≤n:=by rw [List.length_drop];omega
     obtain ⟨i1,i2⟩:=ih (stepC win que s q).1 (l.drop k) hlk
     have ho:=stepC_outs win que s q
     have hsome:(stepC win que s q).1≠none:=by cases s<;>simp [stepC]
     rw [readS_next _ _ hd]
     cases hc:(stepC win que s q).2.2 with
     | true =>
       rw [hc] at ho
       simp only [if_true] at ho ⊢
       refine ⟨fun s' o r h=>(by cases h),fun s' o h=>?_⟩
       simp only [Prod.mk.injEq,and_true] at h
       obtain ⟨rfl,rfl⟩:=h
       exact ⟨[],by rw [ho];rfl,nil_open⟩
     | false =>
       rw [hc] at ho
       simp only [Bool.false_eq_true,if_false] at ho ⊢
       refine ⟨fun s' o r h=>?_,fun s' o h=>?_⟩
       · simp only [Prod.mk.injEq] at h
         obtain ⟨h1,h2,h3⟩:=h
         obtain ⟨j1,j2,j3⟩:=i1 _ _ r (by rw [← h3])
         refine ⟨by rw [← h2];exact app_open ho j1,by rw [List.length_drop] at j2;omega,fun e=>?_⟩
         exact (hsome (j3 (h1.trans e)).1).elim
       · simp only [Prod.mk.injEq] at h
         obtain ⟨h1,h2,h3⟩:=h
         obtain ⟨p,j1,j2⟩:=i2 _ _ (by rw [← h3])
         refine ⟨(stepC win que s q).2.1 ++ p,?_,app_open ho j2⟩
         rw [← h2,j1,List.append_assoc]
theorem all_outs (win:Int) (que:Nat) (m:List UInt8):(readS (stepC win que) shutO none (helB ++ m)).2.1≠[]:=by
 have hd:decL (helB ++ m)=.inr ((helP,[],[]),16):=by rw [dec_more _ (by rw [hel_dec];simp),hel_dec]
 rw [readS_next _ _ hd]
 simp [stepC]
theorem readS_more (win:Int) (que:Nat) {l d:List UInt8} {s:St} {o:List OutS} {r:List UInt8} (h:readS (stepC win que) shutO none l=(s,o,some r)):readS (stepC win que) shutO none (l ++ d)=((readS (stepC win que) shutO s (r ++ d)).1,o ++ (readS (stepC win que) shutO s (r ++ d)).2.1,(readS (stepC win que) shutO s (r ++ d)).2.2):=by
 rw [read_cut _ _ l.length none l d (Nat.le_refl _),h]
theorem readS_shut (win:Int) (que:Nat) {l:List UInt8} {s:St} {o:List OutS} (d:List UInt8) (h:readS (stepC win que) shutO none l=(s,o,none)):readS (stepC win que) shutO none (l ++ d)=(s,o,none):=by
 rw [read_cut _ _ l.length none l d (Nat.le_refl _),h]
theorem Good.less {s:St} {o:List OutS} {l:List UInt8} (h:Good s o l):Good s [] l:=⟨by have:=h.1;simp only [List.length_nil];omega,h.2⟩
theorem readS_len (win:Int) (que:Nat) (hw:1≤win∧win≤8):∀ (n:Nat) (s:St) (l:List UInt8),l.length≤n→Good s [] l→(readS (stepC win que) shutO s l).2.1.length≤3001*l.length+1:=by
 intro n
 induction n with
 | zero =>
   intro s l hl _
   have:l = []:=List.eq_nil_of_length_eq_zero (by omega)
   subst this
   rw [readS_short _ _ (show decL []=.inl true from rfl)]
   simp
 | succ n ih =>
   intro s l hl hg
   cases hd:decL l with
   | inl b =>
     cases b with
     | true=>rw [readS_short _ _ hd];simp
     | false=>rw [readS_wrong _ _ hd];simp
   | inr qn =>
     obtain ⟨⟨p,fs,cs⟩,k⟩:=qn
     obtain ⟨g1,g2⟩:=cu.dec_len hd
     have hlk:(l.drop k).length≤n:=by rw [List.length_drop];omega
     have h1:(stepC win que s (p,fs,cs)).2.1.length≤3000:=by
      cases s with
      | none=>simp [stepC]
      | some x=>exact (step_ok (cs:=cs) hg.2.1 hg.2.2 (cu.dec_ok hd)).2.2
     have h2:=ih (stepC win que s (p,fs,cs)).1 (l.drop k) hlk (good_next hg hd hw).less
     rw [readS_next _ _ hd]
     split
     · simp only;omega
     · simp only [List.length_append]
       rw [List.length_drop] at h2
       omega
end br
end Go.Proofs.YtnmfmoimjkoieaaGreatDoor
