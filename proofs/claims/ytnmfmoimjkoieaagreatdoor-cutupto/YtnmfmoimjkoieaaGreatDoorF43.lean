import Derived.Test.YtnmfmoimjkoieaaGreatDoorF37
import Derived.Test.YtnmfmoimjkoieaaGreatDoorF40
import Derived.Test.YtnmfmoimjkoieaaGreatDoorF41
import Derived.Test.YtnmfmoimjkoieaaGreatDoorF33
import Derived.Test.YtnmfmoimjkoieaaGreatDoorF35
import Derived.Test.YtnmfmoimjkoieaaGreatDoorF29
import Derived.Test.YtnmfmoimjkoieaaGreatDoorF28
import Derived.Test.YtnmfmoimjkoieaaGreatDoorF36
import Derived.Test.YtnmfmoimjkoieaaGreatDoorF42
import Derived.Test.YtnmfmoimjkoieaaGreatDoorF27
namespace Go.Proofs.YtnmfmoimjkoieaaGreatDoor
namespace br
open Go.RowKit topPlain topWalks decPlain Go.Maps
structure Par where
 N0:Nat
 N1:Nat
 ash:Addr
 aw:Addr
 B:Nat
 cb:Nat
 wv:Value
 me:List UInt8
 hello:Pkt
 D:DataW Unit
 sp:Nat
def OutBlk (ov:Value) (L:List (OutS×Value)) (b:Nat):Prop:=ov.ownBlock=some b∨∃ x,x∈L∧x.2.ownBlock=some b
structure OneV where
 BV:BrV
 ov:Value
 L:List (OutS×Value)
 X:SideV
def OneV.has (P:Par) (Q:OneV) (b:Nat):Prop:=b=P.B∨Q.ov.ownBlock=some b∨(∃ o,o∈Q.L∧o.2.ownBlock=some b)∨Q.X.sv.has P.sp b∨b=Q.BV.mb∨Q.BV.rv.ownBlock=some b∨b=P.cb∨(b=Q.X.cv.x∨b=Q.X.cv.y∨b=Q.X.cv.x'∨b=Q.X.cv.y')∨b=Q.X.x∨b=Q.X.y
structure One (P:Par) (w:World) (Q:OneV) (S:Ses) (R:List Msg) (os:List OutS):Prop where
 gd:Gd P.N0 P.ash P.aw w
 blk:BlkAt w P.B Q.BV Q.ov Q.L
 los:Q.L.map Prod.fst=os
 con:w.heap[P.cb]?=some (.cells (conC 3 Q.X.cv ⟨[],0,some P.hello⟩) 137)
 b1:Boxes w P.B P.cb Q.X.cv.x Q.X.cv.y
 b2:Boxes w P.B P.cb Q.X.cv.x' Q.X.cv.y'
 ecb:Q.X.cv.cb=P.cb
 ewv:Q.X.cv.wv=P.wv
 esp:Q.X.cv.sp=P.sp
 ses:SesAt w P.sp Q.X.sv S
 snd:Q.X.sv.snd=some (Q.X.x,Q.X.y)
 snk:Sink w P.B P.cb Q.X.x Q.X.y 3
 map:w.ownsMap Tryz.prog 9 ptrElem Q.BV.mb 1 P.D
 ret:w.ownsRow 0 206 4 Q.BV.rv R.length (R.flatMap msgC)
 kmb:Q.X.sv.kb≠Q.BV.mb
 cv3:Q.BV.cv 3=.pointer (some ⟨P.cb,0,none⟩)
 clk:Q.BV.clk=0
 n0:∀ b,Q.has P b→P.N0≤b
 o1:P.N1≤w.heap.size∧∀ b,OutBlk Q.ov Q.L b→P.N1≤b
def At (P:Par) (S:Ses) (R:List Msg) (os:List OutS):Fpr:=fun F w=>∃ Q,One P w Q S R os∧F=Q.has P
theorem One.lt {P:Par} {w:World} {Q:OneV} {S:Ses} {R:List Msg} {os:List OutS} (h:One P w Q S R os) {b:Nat} (hb:Q.has P b):b < w.heap.size:=by
 rcases hb with rfl | hb | ⟨o,ho,hb⟩ | hb | rfl | hb | rfl | (rfl | rfl | rfl | rfl) | rfl | rfl
 · exact blk_lt h.blk.blk
 · obtain ⟨cur,hc⟩:=own_blk h.blk.out.row hb;exact blk_lt hc
 · obtain ⟨cur,hc⟩:=own_blk (h.blk.out.dat o ho) hb;exact blk_lt hc
 · exact h.ses.lt hb
 · obtain ⟨es,cl,hm⟩:=map_blk h.map;exact blk_lt hm
 · obtain ⟨cur,hc⟩:=own_blk h.ret hb;exact blk_lt hc
 · exact blk_lt h.con
 · exact blk_lt h.b1.bx
 · exact blk_lt h.b1.by_
 · exact blk_lt h.b2.bx
 · exact blk_lt h.b2.by_
 · exact blk_lt h.snk.bx
 · exact blk_lt h.snk.by_
theorem One.keep {P:Par} {w w':World} {Q:OneV} {S:Ses} {R:List Msg} {os:List OutS} {G:Nat→Prop} (h:One P w Q S R os) (hb:But G w w') (hG:∀ x,G x→¬ Q.has P x∧P.N0≤x):One P w' Q S R os:=by
 have hk:∀ b,Q.has P b→w'.heap[b]?=w.heap[b]?:=fun b hx=>hb.keep b (h.lt hx) (fun g=>(hG b g).1 hx)
 refine ⟨h.gd.below (hb.below (fun b g=>(hG b g).2) h.gd.env.size),⟨(hk _ (Or.inl rfl)).trans h.blk.blk,h.blk.out.keep (fun b hx=>hk b (Or.inr (Or.inl hx))) (fun o b ho hx=>hk b (Or.inr (Or.inr (Or.inl ⟨o,ho,hx⟩))))⟩,h.los,(hk _ ?_).trans h.con,h.b1.keep (hk _ ?_) (hk _ ?_),h.b2.keep (hk _ ?_) (hk _ ?_),h.ecb,h.ewv,h.esp,h.ses.keep (fun b hx=>hk b (Or.inr (Or.inr (Or.inr (Or.inl hx))))),h.snd,h.snk.keep (hk _ ?_) (hk _ ?_) (hk _ ?_),map_keep h.map (hk _ ?_),own_keep h.ret (fun b hx=>hk b ?_),h.kmb,h.cv3,h.clk,h.n0,Nat.le_trans h.o1.1 hb.size,h.o1.2⟩
 all_goals unfold OneV.has
 all_goals simp
 exact Or.inr (Or.inr (Or.inr (Or.inr (Or.inr (Or.inl hx)))))
theorem at_fit (P:Par) (S:Ses) (R:List Msg) (os:List OutS):Fit P.N0 (At P S R os):=
 ⟨fun F G a b ⟨Q,h,e⟩ hb hG=>⟨Q,h.keep hb (fun x hx=>by subst e;exact hG x hx),e⟩,fun F a ⟨Q,h,e⟩ b hb=>by subst e;exact h.lt hb⟩
theorem One.not {P:Par} {w:World} {Q:OneV} {S:Ses} {R:List Msg} {os:List OutS} (h:One P w Q S R os) {b:Nat} {c:Array Value} {t:TypeId} (hb:w.heap[b]?=some (.cells c t)) (ht:(t≠188∧t≠95∧t≠252)∧t≠131∧t≠66∧t≠5):¬ (Q.X.sv.has P.sp b∨OutHas P.B Q.ov b):=
 fun e=>e.elim (h.ses.not hb ht.1) ((h.blk.not hb ht.2).1)
theorem One.notMap {P:Par} {w:World} {Q:OneV} {S:Ses} {R:List Msg} {os:List OutS} (h:One P w Q S R os):¬ (Q.X.sv.has P.sp Q.BV.mb∨OutHas P.B Q.ov Q.BV.mb):=by
 obtain ⟨es,cl,hm⟩:=map_blk h.map
 rintro (e | e | e)
 · exact h.ses.notMap hm (fun e=>h.kmb e.symm) e
 · have:=h.blk.blk;rw [← e,hm] at this;simp at this
 · obtain ⟨cur,hc⟩:=own_blk h.blk.out.row e;rw [hm] at hc;simp at hc
theorem One.wrote {P:Par} {w w':World} {Q:OneV} {S S':Ses} {R:List Msg} {os ms:List OutS} {sv':SesV} {G:Nat→Prop} (h:One P w Q S R os) (hG:∀ b,G b→Q.X.sv.has P.sp b) (hw:Wrote G w P.B Q.BV Q.ov Q.L ms w') (hs:SesAt w' P.sp sv' S') (hn:sv'.snd=Q.X.sv.snd) (hk:sv'.kb=Q.X.sv.kb) (hh:∀ b,sv'.has P.sp b→Q.X.sv.has P.sp b∨w.heap.size≤b) :
 ∃ Q':OneV,One P w' Q' S' R (os ++ ms)∧(∀ b,Q'.has P b→Q.has P b∨w.heap.size≤b)∧But (fun b=>Q.X.sv.has P.sp b∨OutHas P.B Q.ov b) w w'∧Q'.X.cv=Q.X.cv∧Q'.BV=Q.BV:=by
 obtain ⟨ov',M,k1,k2,k3,k4,k5⟩:=hw
 have hbut:But (fun b=>Q.X.sv.has P.sp b∨OutHas P.B Q.ov b) w w':=k3.wide (fun b _ e=>e.imp (hG b) id)
 have hsub:∀ b,(Q.X.sv.has P.sp b∨OutHas P.B Q.ov b)→Q.has P b:=fun b e=>by
  rcases e with e | e | e
  · exact Or.inr (Or.inr (Or.inr (Or.inl e)))
  · exact Or.inl e
  · exact Or.inr (Or.inl e)
 have hnew:∀ b,(OneV.mk Q.BV ov' (Q.L ++ M) ⟨Q.X.cv,sv',Q.X.x,Q.X.y⟩).has P b→Q.has P b∨w.heap.size≤b:=fun b e=>by
  rcases e with e | e | ⟨o,ho,e⟩ | e | e
  · exact Or.inl (Or.inl e)
  · rcases k4 with k4 | ⟨b',k4,k4'⟩
    · exact Or.inl (Or.inr (Or.inl (k4 ▸ e)))
    · have e2:ov'.ownBlock=some b:=e
      rw [k4] at e2;cases e2;exact Or.inr k4'
  · rcases List.mem_append.1 ho with ho | ho
    · exact Or.inl (Or.inr (Or.inr (Or.inl ⟨o,ho,e⟩)))
    · exact Or.inr (k5 o ho b e)
  · exact (hh b e).imp (fun e=>Or.inr (Or.inr (Or.inr (Or.inl e)))) id
  · exact Or.inl (Or.inr (Or.inr (Or.inr (Or.inr e))))
 have hs0:=h.gd.env.size
 have hout:∀ b,OutBlk ov' (Q.L ++ M) b→P.N1≤b:=fun b e=>by
  rcases e with e | ⟨o,ho,e⟩
  · rcases k4 with k4 | ⟨b',k4,k4'⟩
    · exact h.o1.2 b (Or.inl (k4 ▸ e))
    · rw [k4] at e;cases e;exact Nat.le_trans h.o1.1 k4'
  · rcases List.mem_append.1 ho with ho | ho
    · exact h.o1.2 b (Or.inr ⟨o,ho,e⟩)
    · exact Nat.le_trans h.o1.1 (k5 o ho b e)
 have kp:∀ {b:Nat} {c:Array Value} {t:TypeId},w.heap[b]?=some (.cells c t)→((t≠188∧t≠95∧t≠252)∧t≠131∧t≠66∧t≠5)→w'.heap[b]?=w.heap[b]?:=fun hb ht=>hbut.keep _ (blk_lt hb) (h.not hb ht)
 refine ⟨⟨Q.BV,ov',Q.L ++ M,⟨Q.X.cv,sv',Q.X.x,Q.X.y⟩⟩,⟨h.gd.below (hbut.below (fun b e=>h.n0 b (hsub b e)) hs0),k1,by rw [List.map_append,h.los,k2],(kp h.con (by decide)).trans h.con,h.b1.keep (kp h.b1.bx (by decide)) (kp h.b1.by_ (by decide)),h.b2.keep (kp h.b2.bx (by decide)) (kp h.b2.by_ (by decide)),h.ecb,h.ewv,h.esp,hs,hn.trans h.snd,h.snk.keep (kp h.snk.bx (by decide)) (kp h.snk.by_ (by decide)) (kp h.con (by decide)),?_,?_,by rw [hk];exact h.kmb,h.cv3,h.clk,fun b e=>(hnew b e).elim (h.n0 b) (fun e=>Nat.le_trans hs0 e),Nat.le_trans h.o1.1 hbut.size,hout⟩,hnew,hbut,rfl,rfl⟩
 · obtain ⟨es,cl,hm⟩:=map_blk h.map
   exact map_keep h.map (hbut.keep _ (blk_lt hm) h.notMap)
 · exact own_keep h.ret (fun b hb=>by obtain ⟨cur,hc⟩:=own_blk h.ret hb;exact kp hc (by decide))
theorem One.sub {P:Par} {Q:OneV} {b:Nat} (e:Q.X.sv.has P.sp b∨OutHas P.B Q.ov b):Q.has P b:=by
 rcases e with e | e | e
 · exact Or.inr (Or.inr (Or.inr (Or.inl e)))
 · exact Or.inl e
 · exact Or.inr (Or.inl e)
theorem One.went {P:Par} {w w':World} {Q:OneV} {S S':Ses} {R:List Msg} {os ms:List OutS} {sv':SesV} {G:Nat→Prop} (h:One P w Q S R os) (hG:∀ b,G b→Q.X.sv.has P.sp b) (hw:Wrote G w P.B Q.BV Q.ov Q.L ms w') (hs:SesAt w' P.sp sv' S') (hn:sv'.snd=Q.X.sv.snd) (hk:sv'.kb=Q.X.sv.kb) (hh:∀ b,sv'.has P.sp b→Q.X.sv.has P.sp b∨w.heap.size≤b) :
 Went (At P S' R (os ++ ms)) (Q.has P) w w':=by
 obtain ⟨Q',h1,h2,h3,_⟩:=h.wrote hG hw hs hn hk hh
 exact ⟨Q'.has P,⟨Q',h1,rfl⟩,h3.wide (fun b _ e=>One.sub e),h2⟩
theorem One.wentS {P:Par} {w w':World} {Q:OneV} {S S':Ses} {R:List Msg} {os:List OutS} {sv':SesV} {G:Nat→Prop} (h:One P w Q S R os) (hG:∀ b,G b→Q.X.sv.has P.sp b) (hw:But G w w') (hs:SesAt w' P.sp sv' S') (hn:sv'.snd=Q.X.sv.snd) (hk:sv'.kb=Q.X.sv.kb) (hh:∀ b,sv'.has P.sp b→Q.X.sv.has P.sp b∨w.heap.size≤b) :
 Went (At P S' R os) (Q.has P) w w':=by
 have:=h.went hG (Wrote.none h.blk hw (fun b hb=>h.ses.clear h.blk b (hG b hb))) hs hn hk hh
 rw [List.append_nil] at this
 exact this
theorem has_uv2 {sb b n:Nat} {V:SesV} {v:Value} (hv:v.ownBlock=V.uv.ownBlock∨∃ b,v.ownBlock=some b∧n≤b) (h:SesV.has { V with uv:=v } sb b):V.has sb b∨n≤b:=by
 rcases h with h | h | h | h | h
 · exact Or.inl (Or.inl h)
 · exact Or.inl (Or.inr (Or.inl h))
 · exact Or.inl (Or.inr (Or.inr (Or.inl h)))
 · exact Or.inl (Or.inr (Or.inr (Or.inr (Or.inl h))))
 · rcases hv with e | ⟨b',e,hb⟩
   · exact Or.inl (Or.inr (Or.inr (Or.inr (Or.inr (e ▸ h)))))
   · have h2:v.ownBlock=some b:=h
     rw [e] at h2;cases h2;exact Or.inr hb
theorem has_fv2 {sb b n:Nat} {V:SesV} {v:Value} (hv:v.ownBlock=V.fv.ownBlock∨∃ b,v.ownBlock=some b∧n≤b) (h:SesV.has { V with fv:=v } sb b):V.has sb b∨n≤b:=by
 rcases h with h | h | h
 · exact Or.inl (Or.inl h)
 · rcases hv with e | ⟨b',e,hb⟩
   · exact Or.inl (Or.inr (Or.inl (e ▸ h)))
   · have h2:v.ownBlock=some b:=h
     rw [e] at h2;cases h2;exact Or.inr hb
 · exact Or.inl (Or.inr (Or.inr h))
theorem One.write {P:Par} {w:World} {Q:OneV} {S:Ses} {R:List Msg} {os:List OutS} {N:Nat} (h:One P w Q S R os) (p:Pkt) (d:List UInt8) (hE:EncOK N w p d) (hL:os.length < 1000000000000) :
 Calls Tryz.prog 131 #[.pointer (some ⟨P.B,0,none⟩),.pointer (some ⟨P.cb,0,none⟩),.agg (pkK p)] w fun e w'=>e=.returned (.tuple #[])∧Went (At P S R (os ++ [⟨3,d,false⟩])) (Q.has P) w w':=by
 refine (bwrite_any P.B P.cb 3 p d Q.BV Q.ov Q.L w hE h.blk (blk_cell h.con (conC_at _ _ _).1) (by rw [← h.los,List.length_map] at hL;exact hL)).mono ?_
 rintro e w' ⟨rfl,ov',dv,k1,k2,k3,k4⟩
 have hw:Wrote (fun _=>False) w P.B Q.BV Q.ov Q.L [⟨3,d,false⟩] w':=⟨ov',[(⟨3,d,false⟩,dv)],k1,rfl,k2.wide (fun _ _ e=>Or.inr e),k3,fun o ho b hb=>by simp only [List.mem_singleton] at ho;subst ho;exact k4 b hb⟩
 exact ⟨rfl,h.went (fun _ f=>f.elim) hw (h.ses.but k2 (fun b hb=>h.ses.apart h.blk hb)) rfl rfl (fun b hb=>Or.inl hb)⟩
theorem One.snds {P:Par} {w:World} {Q:OneV} {S:Ses} {R:List Msg} {os:List OutS} (h:One P w Q S R os):SinkO w P.B P.cb 3 Q.X.sv.snd∧Q.X.sv.snd.isSome=true:=by
 have h1:=h.snk
 have h2:=h.snd
 exact ⟨fun x y e=>by rw [h2] at e;cases e;exact h1,by rw [h2];rfl⟩
theorem One.ll {P:Par} {w:World} {Q:OneV} {S:Ses} {R:List Msg} {os:List OutS} (h:One P w Q S R os) (hL:os.length < 1000000000000):Q.L.length < 1000000000000:=by rw [← h.los,List.length_map] at hL;exact hL
theorem One.sv0 {P:Par} {w:World} {Q:OneV} {S:Ses} {R:List Msg} {os:List OutS} (h:One P w Q S R os):∀ b,Q.X.sv.has P.sp b→P.N0≤b:=fun b hb=>h.n0 b (Or.inr (Or.inr (Or.inr (Or.inl hb))))
def tellP (S:Ses) (m:Msg):List OutS:=if m.qos=0∨(S.under.length:Int) < S.window then [⟨3,encD (pktS m (tellId S m)) [] [],false⟩] else []
theorem tellP_is (S:Ses) (m:Msg) (xy:Nat×Nat):tellO 3 (some xy) S m (encD (pktS m (tellId S m)) [] [])=tellP S m:=by
 unfold tellO tellP
 by_cases h1:m.qos=0
 · simp [h1,outTo]
 · by_cases h2:(S.under.length:Int) < S.window
   · simp [h1,h2,outTo]
   · simp [h1,h2]
theorem One.tellQ {P:Par} {w:World} {Q:OneV} {S:Ses} {R:List Msg} {os:List OutS} (h:One P w Q S R os) (m:Msg) (hL:os.length < 1000000000000) (h0:0≤S.last) (hu:S.under.length < 65000) :
 Calls Tryz.prog 145 #[.pointer (some ⟨P.sp,0,none⟩),msgV m] w fun e w'=>e=.returned (.tuple #[])∧∃ Q':OneV,One P w' Q' (tellS true S m) R (os ++ tellP S m)∧(∀ b,Q'.has P b→Q.has P b∨w.heap.size≤b)∧But (fun b=>Q.X.sv.has P.sp b∨OutHas P.B Q.ov b) w w'∧Q'.X.cv=Q.X.cv∧Q'.BV=Q.BV:=by
 refine (tell_any P.sp P.B P.cb 3 m (encD (pktS m (tellId S m)) [] []) Q.X.sv S Q.BV Q.ov Q.L w (h.gd.enc _ rfl rfl) h.sv0 h.ses h.blk h.snds.1 (h.ll hL) h0 hu).mono ?_
 rintro e w' ⟨rfl,hw,uv',hs,ho⟩
 rw [h.snds.2] at hs
 rw [h.snd,tellP_is] at hw
 exact ⟨rfl,h.wrote (fun _ hb=>hb) hw hs rfl rfl (fun b hb=>has_uv2 ho hb)⟩
theorem One.tell {P:Par} {w:World} {Q:OneV} {S:Ses} {R:List Msg} {os:List OutS} (h:One P w Q S R os) (m:Msg) (hL:os.length < 1000000000000) (h0:0≤S.last) (hu:S.under.length < 65000) :
 Calls Tryz.prog 145 #[.pointer (some ⟨P.sp,0,none⟩),msgV m] w fun e w'=>e=.returned (.tuple #[])∧Went (At P (tellS true S m) R (os ++ tellP S m)) (Q.has P) w w':=by
 refine (h.tellQ m hL h0 hu).mono ?_
 rintro e w' ⟨rfl,Q',h1,h2,h3,_⟩
 exact ⟨rfl,Q'.has P,⟨Q',h1,rfl⟩,h3.wide (fun b _ e=>One.sub e),h2⟩
def endB (p:Uw→Bool) (S:Ses):List UInt8:=match goM true (endS p S) with
 | some m=>encD (pktS m (nextS S.last (endS p S).under)) [] []
 | none=>[]
def endO (p:Uw→Bool) (S:Ses):List OutS:=if (goM true (endS p S)).isSome then [⟨3,endB p S,false⟩] else []
theorem endB_is {p:Uw→Bool} {S:Ses} {m:Msg} (h:goM true (endS p S)=some m):endB p S=encD (pktS m (nextS S.last (endS p S).under)) [] []:=by unfold endB;rw [h]
theorem One.ended {P:Par} {w w':World} {Q:OneV} {S:Ses} {R:List Msg} {os:List OutS} {p:Uw→Bool} {e:Ending} (h:One P w Q S R os) (hE:EndPost P.sp P.B 3 (endB p S) p Q.X.sv S Q.BV Q.ov Q.L w e w'):e=.returned (.tuple #[])∧Went (At P (goS true (endS p S)) R (os ++ endO p S)) (Q.has P) w w':=by
 obtain ⟨rfl,hw,uv',hs,ho⟩:=hE
 rw [h.snds.2] at hs hw
 rw [h.snd] at hw
 exact ⟨rfl,h.went (fun _ hb=>hb) hw hs rfl rfl (fun b hb=>has_uv2 ho hb)⟩
def OneGo (p:Uw→Bool) (S:Ses):Prop:=(goS true (endS p S)).waiting = []∨mayS true (goS true (endS p S))=false
theorem One.done {P:Par} {w:World} {Q:OneV} {S:Ses} {R:List Msg} {os:List OutS} (h:One P w Q S R os) (id:Int) (hL:os.length < 1000000000000) (h0:0≤S.last) (hu:S.under.length < 65000) (hone:OneGo (isDone id) S) :
 Calls Tryz.prog 159 #[.pointer (some ⟨P.sp,0,none⟩),.int .i64 id] w fun e w'=>e=.returned (.tuple #[])∧Went (At P (goS true (endS (isDone id) S)) R (os ++ endO (isDone id) S)) (Q.has P) w w':=
 (done_any P.sp P.B P.cb 3 id (endB (isDone id) S) Q.X.sv S Q.BV Q.ov Q.L w (fun m hm=>by rw [h.snds.2] at hm;rw [endB_is hm];exact h.gd.enc _ rfl rfl) h.sv0 h.ses h.blk h.snds.1 (h.ll hL) h0 hu (by rw [h.snds.2];exact hone)).mono fun e w' hE=>h.ended hE
theorem One.complete {P:Par} {w:World} {Q:OneV} {S:Ses} {R:List Msg} {os:List OutS} (h:One P w Q S R os) (id:Int) (hL:os.length < 1000000000000) (h0:0≤S.last) (hu:S.under.length < 65000) (hone:OneGo (isComp id) S) :
 Calls Tryz.prog 165 #[.pointer (some ⟨P.sp,0,none⟩),.int .i64 id] w fun e w'=>e=.returned (.tuple #[])∧Went (At P (goS true (endS (isComp id) S)) R (os ++ endO (isComp id) S)) (Q.has P) w w':=
 (complete_any P.sp P.B P.cb 3 id (endB (isComp id) S) Q.X.sv S Q.BV Q.ov Q.L w (fun m hm=>by rw [h.snds.2] at hm;rw [endB_is hm];exact h.gd.enc _ rfl rfl) h.sv0 h.ses h.blk h.snds.1 (h.ll hL) h0 hu (by rw [h.snds.2];exact hone)).mono fun e w' hE=>h.ended hE
def recI (S:Ses) (id:Int):Option Nat:=match S.under.findIdx? (fun u=>u.id == id) with
 | some i=>if (S.under[i]?.map Uw.qos)=some 2 then some i else none
 | none=>none
def recT (S:Ses) (id:Int):Ses:=match recI S id with
 | some i=>{ S with under:=S.under.set i (relU id) }
 | none=>S
def recO (S:Ses) (id:Int):List OutS:=if (recI S id).isSome then [⟨3,encD (relS id) [] [],false⟩] else []
theorem One.release {P:Par} {w:World} {Q:OneV} {S:Ses} {R:List Msg} {os:List OutS} (h:One P w Q S R os) (id:Int) (hL:os.length < 1000000000000)
 (hmiss:∀ i u,S.under.findIdx? (fun u=>u.id == id)=some i→S.under[i]?=some u→u.qos≠2→Calls Tryz.prog 161 #[.pointer (some ⟨P.sp,0,none⟩),.int .i64 id] w fun e w'=>e=.returned (.tuple #[])∧Below w.heap.size w w') :
 Calls Tryz.prog 161 #[.pointer (some ⟨P.sp,0,none⟩),.int .i64 id] w fun e w'=>e=.returned (.tuple #[])∧Went (At P (recT S id) R (os ++ recO S id)) (Q.has P) w w':=by
 have stay:recI S id=none→∀ w',Below w.heap.size w w'→Went (At P (recT S id) R (os ++ recO S id)) (Q.has P) w w':=fun e w' hb=>by
  unfold recT recO
  rw [e]
  simp only [Option.isSome_none,Bool.false_eq_true,if_false,List.append_nil]
  exact (Went.refl (A:=At P S R os) ⟨Q,h,rfl⟩).below (at_fit P S R os) hb
 cases hi:S.under.findIdx? (fun u=>u.id == id) with
 | none =>
   have e:recI S id=none:=by unfold recI;rw [hi]
   exact (release_miss P.sp id Q.X.sv S w h.ses (by unfold idx;rw [hi])).mono fun e' w' ⟨h1,h2⟩=>⟨h1,stay e w' h2⟩
 | some i =>
   have hil:i < S.under.length:=(List.findIdx?_eq_some_iff_getElem.1 hi).1
   have hu:S.under[i]?=some S.under[i]:=List.getElem?_eq_getElem hil
   by_cases hq:(S.under[i]).qos=2
   · have e:recI S id=some i:=by unfold recI;rw [hi];simp [hu,hq]
     refine (release_hit P.sp P.B P.cb i 3 id S.under[i] (encD (relS id) [] []) Q.X.sv S Q.BV Q.ov Q.L w (h.gd.enc _ rfl rfl) h.sv0 h.ses h.blk h.snds.1 (h.ll hL) (by unfold idx;rw [hi]) hu hq).mono ?_
     rintro e' w' ⟨rfl,hw,hs⟩
     rw [h.snd] at hw
     have:=h.went (fun _ hb=>hb) hw hs rfl rfl (fun b hb=>Or.inl hb)
     refine ⟨rfl,?_⟩
     unfold recT recO
     rw [e]
     exact this
   · have e:recI S id=none:=by unfold recI;rw [hi];simp [hu,hq]
     exact (hmiss i _ hi hu hq).mono fun e' w' ⟨h1,h2⟩=>⟨h1,stay e w' h2⟩
theorem One.forget {P:Par} {w:World} {Q:OneV} {S:Ses} {R:List Msg} {os:List OutS} (h:One P w Q S R os) (id:Int) (hid:(Lit.int .i64 id).wf=true) (hnd:S.known.Nodup) :
 Calls Tryz.prog 212 #[.pointer (some ⟨P.sp,0,none⟩),.int .i64 id] w fun e w'=>e=.returned (.tuple #[])∧Went (At P { S with known:=S.known.erase id } R os) (Q.has P) w w':=
 (forget_gen P.sp Q.X.sv S id w h.ses hid hnd).mono fun _ _ ⟨h1,h2,h3⟩=>⟨h1,h.wentS (fun _ hb=>Or.inr (Or.inr (Or.inl hb))) h3 h2 rfl rfl (fun _ hb=>Or.inl hb)⟩
theorem has_fv {V:SesV} {sb b:Nat} {v:Value} (hv:v.ownBlock=V.fv.ownBlock) (h:SesV.has { V with fv:=v } sb b):V.has sb b:=by
 rcases h with h | h | h
 · exact Or.inl h
 · exact Or.inr (Or.inl (hv ▸ h))
 · exact Or.inr (Or.inr h)
def learnS (S:Ses) (id:Int):Ses:=if S.known.contains id then S else { S with known:=S.known ++ [id] }
theorem One.learn {P:Par} {w:World} {Q:OneV} {S:Ses} {R:List Msg} {os:List OutS} (h:One P w Q S R os) (id:Int) (hid:(Lit.int .i64 id).wf=true) (hn:S.known.length < 100000) :
 Calls Tryz.prog 207 #[.pointer (some ⟨P.sp,0,none⟩),.int .i64 id] w fun e w'=>e=.returned (.bool (!S.known.contains id))∧Went (At P (learnS S id) R os) (Q.has P) w w'∧(S.known.contains id=true→Below w.heap.size w w'):=by
 unfold learnS
 cases hk:S.known.contains id with
 | true=>exact (learn_old P.sp Q.X.sv S id w h.ses hid hk).mono fun e w' ⟨h1,h2⟩=>⟨h1,(Went.refl (A:=At P S R os) ⟨Q,h,rfl⟩).below (at_fit P S R os) h2,fun _=>h2⟩
 | false=>exact (learn_new P.sp Q.X.sv S id w h.ses hid hk hn).mono fun e w' ⟨h1,h2,h3⟩=>⟨h1,h.wentS (fun b hb=>Or.inr (Or.inr (Or.inl hb))) h3 h2 rfl rfl (fun b hb=>Or.inl hb),fun e=>by cases e⟩
theorem One.take {P:Par} {w:World} {Q:OneV} {S:Ses} {R:List Msg} {os:List OutS} (h:One P w Q S R os) (f:List UInt8×Int) :
 Calls Tryz.prog 214 #[.pointer (some ⟨P.sp,0,none⟩),.agg #[.string (bs f.1),.int .i64 f.2]] w fun e w'=>e=.returned (.bool (takeS S.filters f).isSome)∧Went (At P { S with filters:=(takeS S.filters f).getD S.filters } R os) (Q.has P) w w':=
 (take_any P.sp Q.X.sv S f w h.ses).mono fun _ _ ⟨h1,h2,_,h3,h4⟩=>⟨h1,h.wentS (fun _ hb=>hb) h2 h3 rfl rfl (fun _ hb=>has_fv2 h4 hb)⟩
theorem One.drop {P:Par} {w:World} {Q:OneV} {S:Ses} {R:List Msg} {os:List OutS} (h:One P w Q S R os) (f:List UInt8) :
 Calls Tryz.prog 216 #[.pointer (some ⟨P.sp,0,none⟩),.string (bs f)] w fun e w'=>e=.returned (.tuple #[])∧∃ Q':OneV,One P w' Q' { S with filters:=dropF S.filters f } R os∧(∀ b,Q'.has P b→Q.has P b)∧But (Q.has P) w w':=by
 refine (drop_any P.sp Q.X.sv S f w h.ses).mono ?_
 rintro e w' ⟨rfl,h2,fv',h3,h4⟩
 have hQ:One P w' ⟨Q.BV,Q.ov,Q.L,⟨Q.X.cv,{ Q.X.sv with fv:=fv' },Q.X.x,Q.X.y⟩⟩ { S with filters:=dropF S.filters f } R os:=by
  have hB:=h.blk.but h2 (fun b hb=>h.ses.clear h.blk b hb)
  have kp:∀ {b:Nat} {c:Array Value} {t:TypeId},w.heap[b]?=some (.cells c t)→((t≠188∧t≠95∧t≠252)∧t≠131∧t≠66∧t≠5)→w'.heap[b]?=w.heap[b]?:=fun hb ht=>h2.keep _ (blk_lt hb) (fun e=>h.not hb ht (Or.inl e))
  refine ⟨h.gd.below (h2.below h.sv0 h.gd.env.size),hB,h.los,(kp h.con (by decide)).trans h.con,h.b1.keep (kp h.b1.bx (by decide)) (kp h.b1.by_ (by decide)),h.b2.keep (kp h.b2.bx (by decide)) (kp h.b2.by_ (by decide)),h.ecb,h.ewv,h.esp,h4,h.snd,h.snk.keep (kp h.snk.bx (by decide)) (kp h.snk.by_ (by decide)) (kp h.con (by decide)),?_,own_keep h.ret (fun b hb=>by obtain ⟨cur,hc⟩:=own_blk h.ret hb;exact kp hc (by decide)),h.kmb,h.cv3,h.clk,fun b hb=>?_,Nat.le_trans h.o1.1 h2.size,h.o1.2⟩
  · obtain ⟨es,cl,hm⟩:=map_blk h.map
    exact map_keep h.map (h2.keep _ (blk_lt hm) (fun e=>h.notMap (Or.inl e)))
  · rcases hb with hb | hb | hb | hb | hb
    · exact h.n0 b (Or.inl hb)
    · exact h.n0 b (Or.inr (Or.inl hb))
    · exact h.n0 b (Or.inr (Or.inr (Or.inl hb)))
    · exact h.sv0 b (has_fv (show fv'.ownBlock=Q.X.sv.fv.ownBlock from h3) hb)
    · exact h.n0 b (Or.inr (Or.inr (Or.inr (Or.inr hb))))
 refine ⟨rfl,_,hQ,fun b hb=>?_,h2.wide (fun b _ e=>One.sub (Or.inl e))⟩
 rcases hb with hb | hb | hb | hb | hb
 · exact Or.inl hb
 · exact Or.inr (Or.inl hb)
 · exact Or.inr (Or.inr (Or.inl hb))
 · exact Or.inr (Or.inr (Or.inr (Or.inl (has_fv (show fv'.ownBlock=Q.X.sv.fv.ownBlock from h3) hb))))
 · exact Or.inr (Or.inr (Or.inr (Or.inr hb)))
end br
namespace br
open Go.RowKit topPlain topWalks decPlain Go.Maps Go.Sort
set_option maxHeartbeats 800000 in
set_option maxRecDepth 100000 in
theorem release_other (sb i:Nat) (id:Int) (u:Uw) (V:SesV) (S:Ses) (w:World) (hs:SesAt w sb V S) (hi:idx (fun u=>u.id == id) S.under=(i:Int)) (hu:S.under[i]?=some u) (hq:u.qos≠2) :
 Calls Tryz.prog 161 #[.pointer (some ⟨sb,0,none⟩),.int .i64 id] w fun e w'=>e=.returned (.tuple #[])∧Below w.heap.size w w':=by
 have cF:=hide (findId_any sb V.uv S.under id w (blk_cell hs.blk rfl) hs.und)
 rw [hi] at cF
 have hil:i < S.under.length:=(List.getElem?_eq_some_iff.1 hu).1
 obtain ⟨q5,k5,hq5⟩:=own_form hs.und
 have hund:=hs.und
 rw [hq5] at hund
 obtain ⟨g,rfl,hg,hkc,hcm,_⟩:=own_at hund (by omega)
 unfold maxLen at hcm
 have H:=hide hs
 have HQ:=hide hq5
 have HU:=hide hu
 have hlt:=blk_lt hs.blk
 have hqb:(u.qos != 2)=true:=by simpa using hq
 clear hs hi hq5 hu hund hq
 go_enter Tryz.func161,Tryz.ntmps161
 go_wp2_with fail
 refine cF.out.mono ?_
 rintro e w1 ⟨rfl,hB1⟩
 have H1:=hide (H.out.below hB1)
 have hund1:=H1.out.und
 rw [HQ.out] at hund1
 obtain ⟨j0,j1,j2,j3,j4,j5,j6⟩:=uw_cells (wr:=w1) hund1 HU.out rfl rfl
 have c5:w1.cell? ⟨sb,5,none⟩=some (.slice (some ⟨g,0,none⟩) S.under.length k5):=by rw [← HQ.out];exact blk_cell H1.out.blk rfl
 have HB1:=hide hB1
 clear hund1 hB1 j0 j2 j3 j4 j5 j6
 go_wp2
 refine bodyPost_ret (v:=.tuple #[]) (by simp [results,Tryz.results161]) rfl ?_
 exact ⟨rfl,HB1.out⟩
theorem One.released {P:Par} {w:World} {Q:OneV} {S:Ses} {R:List Msg} {os:List OutS} (h:One P w Q S R os) (id:Int) (hL:os.length < 1000000000000) :
 Calls Tryz.prog 161 #[.pointer (some ⟨P.sp,0,none⟩),.int .i64 id] w fun e w'=>e=.returned (.tuple #[])∧Went (At P (recT S id) R (os ++ recO S id)) (Q.has P) w w':=
 h.release id hL fun i u hi hu hq=>release_other P.sp i id u Q.X.sv S w h.ses (by unfold idx;rw [hi]) hu hq
theorem One.kept {P:Par} {w:World} {Q:OneV} {S:Ses} {R:List Msg} {os:List OutS} (h:One P w Q S R os) (m:Msg) (hR:R.length≤1000) :
 Calls Tryz.prog 141 #[.pointer (some ⟨P.B,11,none⟩),msgV m] w fun e w'=>e=.returned (.tuple #[])∧∃ Q':OneV,One P w' Q' S (keepS R m) os∧(∀ b,Q'.has P b→Q.has P b∨w.heap.size≤b)∧But (fun b=>b=P.B∨Q.BV.rv.ownBlock=some b) w w'∧Q'.X=Q.X∧Q'.ov=Q.ov∧Q'.BV.mb=Q.BV.mb:=by
 refine (keep_any P.B Q.BV Q.ov R m w h.blk.blk h.ret hR).mono ?_
 rintro e w' ⟨rfl,v',k1,k2,k3,k4⟩
 have hnB:∀ {b:Nat} {o:Obj},w.heap[b]?=some o→(∀ c,o≠.cells c 131)→(∀ c,o≠.cells c 206)→w'.heap[b]?=w.heap[b]?:=fun {b o} hb h1 h2=>k2.keep b (blk_lt hb) (fun e=>by
  rcases e with e | e
  · subst e;rw [h.blk.blk] at hb;exact h1 _ (Option.some.inj hb).symm
  · obtain ⟨cur,hc⟩:=own_blk h.ret e;rw [hc] at hb;exact h2 _ (Option.some.inj hb).symm)
 have kp:∀ {b:Nat} {c:Array Value} {t:TypeId},w.heap[b]?=some (.cells c t)→t≠131→t≠206→w'.heap[b]?=w.heap[b]?:=fun hb h1 h2=>hnB hb (fun c e=>by cases e;exact h1 rfl) (fun c e=>by cases e;exact h2 rfl)
 have hnew:∀ b,(OneV.mk { Q.BV with rv:=v' } Q.ov Q.L Q.X).has P b→Q.has P b∨w.heap.size≤b:=fun b e=>by
  rcases e with e | e | e | e | e | e | e
  · exact Or.inl (Or.inl e)
  · exact Or.inl (Or.inr (Or.inl e))
  · exact Or.inl (Or.inr (Or.inr (Or.inl e)))
  · exact Or.inl (Or.inr (Or.inr (Or.inr (Or.inl e))))
  · exact Or.inl (Or.inr (Or.inr (Or.inr (Or.inr (Or.inl e)))))
  · rcases k4 with k4 | ⟨b',k4,k4'⟩
    · exact Or.inl (Or.inr (Or.inr (Or.inr (Or.inr (Or.inr (Or.inl (k4 ▸ e)))))))
    · have e2:v'.ownBlock=some b:=e
      rw [k4] at e2;cases e2;exact Or.inr k4'
  · exact Or.inl (Or.inr (Or.inr (Or.inr (Or.inr (Or.inr (Or.inr e))))))
 have h0:∀ b,(b=P.B∨Q.BV.rv.ownBlock=some b)→P.N0≤b:=fun b e=>h.n0 b (by
  rcases e with e | e
  · exact Or.inl e
  · exact Or.inr (Or.inr (Or.inr (Or.inr (Or.inr (Or.inl e))))))
 have hses:SesAt w' P.sp Q.X.sv S:=h.ses.keep (fun b hb=>by
  rcases hb with rfl | hb | rfl | rfl | hb
  · exact kp h.ses.blk (by decide) (by decide)
  · obtain ⟨cur,hc⟩:=own_blk h.ses.fil hb;exact kp hc (by decide) (by decide)
  · obtain ⟨D,⟨es,clock,hk,_⟩,_⟩:=h.ses.kno;exact hnB hk (fun c e=>by cases e) (fun c e=>by cases e)
  · obtain ⟨s,r,hk⟩:=h.ses.chn;exact hnB hk (fun c e=>by cases e) (fun c e=>by cases e)
  · obtain ⟨cur,hc⟩:=own_blk h.ses.und hb;exact kp hc (by decide) (by decide))
 refine ⟨rfl,⟨{ Q.BV with rv:=v' },Q.ov,Q.L,Q.X⟩,⟨h.gd.below (k2.below h0 h.gd.env.size),⟨k1,h.blk.out.keep (fun b hb=>by obtain ⟨cur,hc⟩:=own_blk h.blk.out.row hb;exact kp hc (by decide) (by decide)) (fun o b ho hb=>by obtain ⟨cur,hc⟩:=own_blk (h.blk.out.dat o ho) hb;exact kp hc (by decide) (by decide))⟩,h.los,(kp h.con (by decide) (by decide)).trans h.con,h.b1.keep (kp h.b1.bx (by decide) (by decide)) (kp h.b1.by_ (by decide) (by decide)),h.b2.keep (kp h.b2.bx (by decide) (by decide)) (kp h.b2.by_ (by decide) (by decide)),h.ecb,h.ewv,h.esp,hses,h.snd,h.snk.keep (kp h.snk.bx (by decide) (by decide)) (kp h.snk.by_ (by decide) (by decide)) (kp h.con (by decide) (by decide)),?_,k3,h.kmb,h.cv3,h.clk,fun b e=>(hnew b e).elim (h.n0 b) (fun e=>Nat.le_trans h.gd.env.size e),Nat.le_trans h.o1.1 k2.size,h.o1.2⟩,hnew,k2,rfl,rfl,rfl⟩
 obtain ⟨es,cl,hm⟩:=map_blk h.map
 exact map_keep h.map (hnB hm (fun c e=>by cases e) (fun c e=>by cases e))
structure Mine (P:Par):Prop where
 ks:∀ ss:List (List UInt8),ss.Perm (strKeys P.D)→ss.mergeSort (fun x y=>decide (x≤y)) = [P.me]
 sz:Maps.size P.D≤1000000
 me:P.me.length≤1000
 at_:P.D.atKey (.string P.me) .nil=.lit (.int .i64 ((P.sp:Nat):Int))
 cln:P.hello.clean=false
 wil:P.hello.will=false
structure Fair (S:Ses) (R:List Msg):Prop where
 last:0≤S.last
 und:S.under.length < 65000
 fil:∀ f∈S.filters,f.1.length≤65535
 top:∀ m∈R,m.topic.length≤65535
 ret:R.length≤1000
def pubR (R:List Msg) (m:Msg):List Msg:=if m.retain then keepS R m else R
def pubS (S:Ses) (m:Msg):Ses:=if (asksS m.topic S.filters 0 false).2 then tellS true S (toldS m (asksS m.topic S.filters 0 false).1 false) else S
def pubO (S:Ses) (m:Msg):List OutS:=if (asksS m.topic S.filters 0 false).2 then tellP S (toldS m (asksS m.topic S.filters 0 false).1 false) else []
structure PubI (P:Par) (w:World) (Q:OneV) (S:Ses) (R:List Msg) (os:List OutS) (fresh:Bool) (a:World) (Q':OneV):Prop where
 one:One P a Q' S R os
 but:But (Q.has P) w a
 new:∀ b,Q'.has P b→Q.has P b∨w.heap.size≤b
 old:fresh=true→∀ b,(Q'.X.sv.has P.sp b∨OutHas P.B Q'.ov b)→b < w.heap.size
 mb:Q'.BV.mb=Q.BV.mb
theorem PubI.below {P:Par} {w:World} {Q:OneV} {S:Ses} {R:List Msg} {os:List OutS} {fresh:Bool} {a b:World} {Q':OneV} (h:PubI P w Q S R os fresh a Q') (hb:Below a.heap.size a b):PubI P w Q S R os fresh b Q':=
 ⟨h.one.keep (But.of_below (F:=fun _=>False) hb) (fun _ f=>f.elim),h.but.trans (But.of_below (F:=fun _=>False) hb) (fun _ _ f=>f.elim),h.new,h.old,h.mb⟩
theorem One.publish {P:Par} {w:World} {Q:OneV} {S:Ses} {R:List Msg} {os:List OutS} (h:One P w Q S R os) (hM:Mine P) (hF:Fair S R) (m:Msg) (ht:m.topic.length≤65535) (hL:os.length < 1000000000000) :
 Calls Tryz.prog 110 #[.pointer (some ⟨P.B,0,none⟩),msgV m] w fun e w'=>e=.returned (.tuple #[])∧Went (At P (pubS S m) (pubR R m) (os ++ pubO S m)) (Q.has P) w w':=by
 have hJm:∀ (k:Nat) w',(∃ Q',PubI P w Q (if k=0 then S else pubS S m) (pubR R m) (if k=0 then os else os ++ pubO S m) (decide (k=0)) w' Q')→w'.cell? ⟨P.B,10,none⟩=some (.map (some Q.BV.mb))∧w'.ownsMap Tryz.prog 9 ptrElem Q.BV.mb 1 P.D:=fun k w' ⟨Q',hQ⟩=>by
  have h1:=hQ.one.map
  rw [hQ.mb] at h1
  refine ⟨?_,h1⟩
  rw [← hQ.mb]
  exact blk_cell hQ.one.blk.blk rfl
 have hold:∀ b,(Q.X.sv.has P.sp b∨OutHas P.B Q.ov b)→b < w.heap.size:=fun b e=>h.lt (One.sub e)
 have hround:∀ (k:Nat) c,[P.me][k]?=some c→c.length≤1000∧∃ sb q a,P.D.atKey (.string c) .nil=.lit (.int .i64 ((sb:Nat):Int))∧PubRound w.heap.size m (fun k w'=>∃ Q',PubI P w Q (if k=0 then S else pubS S m) (pubR R m) (if k=0 then os else os ++ pubO S m) (decide (k=0)) w' Q') k sb q a:=fun k c hk=>by
  cases k with
  | succ k=>simp at hk
  | zero =>
    simp only [List.getElem?_cons_zero,Option.some.injEq] at hk
    subst hk
    refine ⟨hM.me,P.sp,(asksS m.topic S.filters 0 false).1,(asksS m.topic S.filters 0 false).2,hM.at_,⟨?_,?_,?_⟩⟩
    · rintro w' ⟨Q',hQ⟩
      exact asks_any P.sp Q'.X.sv S m.topic w' hQ.one.ses hQ.one.gd.env.inv ht hF.fil
    · rintro ha w' ⟨Q',hQ⟩
      refine (hQ.one.tellQ (toldS m (asksS m.topic S.filters 0 false).1 false) hL hF.last hF.und).mono ?_
      rintro e w'' ⟨rfl,Q'',i1,i2,i3,_,i5⟩
      have ho:=hQ.old rfl
      refine ⟨rfl,⟨Q'',?_,hQ.but.trans i3 (fun x hx e=>?_),fun b hb=>(i2 b hb).elim (hQ.new b) (fun e=>Or.inr (Nat.le_trans hQ.but.size e)),(fun e=>by cases e),?_⟩,i3.size,fun g h1 h2=>i3.keep g h2 (fun e=>by have:=ho g e;omega)⟩
      · simp only [pubS,pubO,ha,if_true]
        exact i1
      · exact (hQ.new x (One.sub e)).elim (fun e=>e) (fun e=>by omega)
      · rw [i5];exact hQ.mb
    · rintro ha w' ⟨Q',hQ⟩
      refine ⟨Q',?_,hQ.but,hQ.new,(fun e=>by cases e),hQ.mb⟩
      have:=hQ.one
      simp only [pubS,pubO,ha]
      simpa using this
 have hend:∀ w',(∃ Q',PubI P w Q (if [P.me].length=0 then S else pubS S m) (pubR R m) (if [P.me].length=0 then os else os ++ pubO S m) (decide ([P.me].length=0)) w' Q')→Went (At P (pubS S m) (pubR R m) (os ++ pubO S m)) (Q.has P) w w':=fun w' ⟨Q',hQ⟩=>⟨Q'.has P,⟨Q',hQ.one,rfl⟩,hQ.but,hQ.new⟩
 cases hr:m.retain with
 | false =>
   refine (publish_any P.B Q.BV.mb 1 m P.D [P.me] w (fun k w'=>∃ Q',PubI P w Q (if k=0 then S else pubS S m) (pubR R m) (if k=0 then os else os ++ pubO S m) (decide (k=0)) w' Q') hr hM.ks hM.sz ?_ hJm (fun k a b ⟨Q',hQ⟩ hb=>⟨Q',hQ.below hb⟩) hround).mono fun e w' ⟨h1,h2⟩=>⟨h1,hend w' h2⟩
   intro w' hb
   refine ⟨Q,PubI.below ⟨?_,But.refl _ _,fun b hb=>Or.inl hb,fun _=>hold,rfl⟩ hb⟩
   simp only [pubR,hr]
   exact h
 | true =>
   refine (publish_ret P.B Q.BV.mb 1 m P.D [P.me] w (fun k w'=>∃ Q',PubI P w Q (if k=0 then S else pubS S m) (pubR R m) (if k=0 then os else os ++ pubO S m) (decide (k=0)) w' Q') hr hM.ks hM.sz (blk_cell h.blk.blk rfl) (blk_lt h.blk.blk) ?_ hJm (fun k a b ⟨Q',hQ⟩ hb=>⟨Q',hQ.below hb⟩) hround).mono fun e w' ⟨h1,h2⟩=>⟨h1,hend w' h2⟩
   intro w' hb
   have h':=h.keep (But.of_below (F:=fun _=>False) hb) (fun _ f=>f.elim)
   refine (h'.kept m hF.ret).mono ?_
   rintro e w'' ⟨rfl,Q',i1,i2,i3,i4,i5,i6⟩
   have hsub:∀ b,(b=P.B∨Q.BV.rv.ownBlock=some b)→Q.has P b:=fun b e=>by
    rcases e with e | e
    · exact Or.inl e
    · exact Or.inr (Or.inr (Or.inr (Or.inr (Or.inr (Or.inl e)))))
   refine ⟨rfl,⟨Q',?_,(But.of_below hb).trans i3 (fun x _ e=>hsub x e),fun b hb'=>(i2 b hb').imp (fun e=>e) (fun e=>Nat.le_trans hb.size e),fun _ b e=>hold b (by rw [i4,i5] at e;exact e),i6⟩,i3.size,fun g h1 h2=>i3.keep g h2 (fun e=>by have:=h.lt (hsub g e);omega)⟩
   simp only [pubR,hr]
   exact i1
end br
namespace br
open Go.RowKit topPlain topWalks decPlain Go.Maps
theorem Went.keepN {A:Fpr} {F:Nat→Prop} {n:Nat} {a a':World} (h:Went A F a a') (hF:∀ b,F b→b < n):Keep n a a':=by
 obtain ⟨F',_,k2,_⟩:=h
 exact ⟨k2.size,fun g h1 h2=>k2.keep g h2 (fun e=>by have:=hF g e;omega)⟩
theorem One.down {P:Par} {w w':World} {Q:OneV} {S:Ses} {R:List Msg} {os:List OutS} (h:One P w Q S R os) (hb:Below w.heap.size w w'):One P w' Q S R os:=h.keep (But.of_below (F:=fun _=>False) hb) (fun _ f=>f.elim)
theorem One.sesQ {P:Par} {w w':World} {Q:OneV} {S S':Ses} {R:List Msg} {os:List OutS} {G:Nat→Prop} (h:One P w Q S R os) (hG:∀ b,G b→Q.X.sv.has P.sp b) (hw:But G w w') (hs:SesAt w' P.sp Q.X.sv S'):One P w' Q S' R os:=by
 have kp:∀ {b:Nat} {c:Array Value} {t:TypeId},w.heap[b]?=some (.cells c t)→((t≠188∧t≠95∧t≠252)∧t≠131∧t≠66∧t≠5)→w'.heap[b]?=w.heap[b]?:=fun hb ht=>hw.keep _ (blk_lt hb) (fun e=>h.not hb ht (Or.inl (hG _ e)))
 refine ⟨h.gd.below (hw.below (fun b e=>h.sv0 b (hG b e)) h.gd.env.size),h.blk.but hw (fun b hb=>h.ses.clear h.blk b (hG b hb)),h.los,(kp h.con (by decide)).trans h.con,h.b1.keep (kp h.b1.bx (by decide)) (kp h.b1.by_ (by decide)),h.b2.keep (kp h.b2.bx (by decide)) (kp h.b2.by_ (by decide)),h.ecb,h.ewv,h.esp,hs,h.snd,h.snk.keep (kp h.snk.bx (by decide)) (kp h.snk.by_ (by decide)) (kp h.con (by decide)),?_,own_keep h.ret (fun b hb=>by obtain ⟨cur,hc⟩:=own_blk h.ret hb;exact kp hc (by decide)),h.kmb,h.cv3,h.clk,h.n0,Nat.le_trans h.o1.1 hw.size,h.o1.2⟩
 obtain ⟨es,cl,hm⟩:=map_blk h.map
 exact map_keep h.map (hw.keep _ (blk_lt hm) (fun e=>h.notMap (Or.inl (hG _ e))))
theorem One.c18 {P:Par} {w:World} {Q:OneV} {S:Ses} {R:List Msg} {os:List OutS} (h:One P w Q S R os):w.cell? ⟨P.cb,18,none⟩=some (.pointer (some ⟨P.sp,0,none⟩)):=by
 have:=blk_cell h.con (conC_at 3 Q.X.cv ⟨[],0,some P.hello⟩).2.2.2.1
 rw [this]
 simp only [conS,h.esp]
def knows (S:Ses) (p:Pkt):Bool:=decide (p.qos=2) && S.known.contains p.id
def recv0 (S:Ses) (p:Pkt):Ses:=if p.qos=2 then learnS S p.id else S
def recvS (S:Ses) (p:Pkt):Ses:=if knows S p then S else pubS (recv0 S p) (ofS p)
def recvR (S:Ses) (R:List Msg) (p:Pkt):List Msg:=if knows S p then R else pubR R (ofS p)
def recvA (p:Pkt):List OutS:=if p.qos=1 then [⟨3,encD (packS p.id) [] [],false⟩] else if p.qos=2 then [⟨3,encD (recS p.id) [] [],false⟩] else []
def recvO (S:Ses) (p:Pkt):List OutS:=(if knows S p then [] else pubO (recv0 S p) (ofS p)) ++ recvA p
theorem tellP_len (S:Ses) (m:Msg):(tellP S m).length≤1:=by unfold tellP;split<;>simp
theorem pubO_len (S:Ses) (m:Msg):(pubO S m).length≤1:=by
 unfold pubO
 split
 · exact tellP_len _ _
 · simp
theorem Went.write {P:Par} {w a:World} {F:Nat→Prop} {S:Ses} {R:List Msg} {os:List OutS} (h:Went (At P S R os) F w a) (p:Pkt) (hf:p.fv=.slice none 0 0) (hc:p.cv=.slice none 0 0) (hL:os.length < 1000000000000) :
 Calls Tryz.prog 131 #[.pointer (some ⟨P.B,0,none⟩),.pointer (some ⟨P.cb,0,none⟩),.agg (pkK p)] a fun e w'=>e=.returned (.tuple #[])∧Went (At P S R (os ++ [⟨3,encD p [] [],false⟩])) F w w':=by
 obtain ⟨F',⟨Q,hQ,rfl⟩,h2,h3⟩:=h
 exact (hQ.write p _ (hQ.gd.enc p hf hc) hL).mono fun e w' ⟨i1,i2⟩=>⟨i1,i2.step h2 h3⟩
theorem One.receive {P:Par} {w:World} {Q:OneV} {S:Ses} {R:List Msg} {os:List OutS} (h:One P w Q S R os) (hM:Mine P) (hF:Fair S R) (hkno:S.known.length < 100000) (p:Pkt) (hfv:∃ a b c,p.fv=.slice a b c) (hcv:∃ a b c,p.cv=.slice a b c) (ht:p.topic.length≤65535) (hid:(Lit.int .i64 p.id).wf=true) (hq:p.qos=0∨p.qos=1∨p.qos=2) (hL:os.length < 999999999999) :
 Calls Tryz.prog 157 #[.pointer (some ⟨P.B,0,none⟩),.pointer (some ⟨P.cb,0,none⟩),.agg (pkK p)] w fun e w'=>e=.returned (.tuple #[])∧Went (At P (recvS S p) (recvR S R p) (os ++ recvO S p)) (Q.has P) w w':=by
 obtain ⟨f1,f2,f3,hfv⟩:=hfv
 obtain ⟨c1,c2,c3,hcv⟩:=hcv
 have hlt:∀ b,Q.has P b→b < w.heap.size:=fun b hb=>h.lt hb
 have hLl:∀ S' m,(os ++ pubO S' m).length < 1000000000000:=fun S' m=>by have:=pubO_len S' m;rw [List.length_append];omega
 rcases hq with hq | hq | hq
 · have e1:knows S p=false:=by simp [knows,hq]
   have e2:recv0 S p=S:=by simp [recv0,hq]
   have e3:recvA p = []:=by simp [recvA,hq]
   have e4:recvS S p=pubS S (ofS p):=by simp [recvS,e1,e2]
   have e5:recvR S R p=pubR R (ofS p):=by simp [recvR,e1]
   have e6:recvO S p=pubO S (ofS p):=by simp [recvO,e1,e2,e3]
   rw [e4,e5,e6]
   refine receive_zero P.B P.cb p w (fun a=>Went (At P (pubS S (ofS p)) (pubR R (ofS p)) (os ++ pubO S (ofS p))) (Q.has P) w a) _ f1 f2 f3 c1 c2 c3 hfv hcv hq ?_ (fun w' hw=>⟨rfl,hw⟩)
   intro w' hb
   exact ((h.down hb).publish hM hF (ofS p) ht (by omega)).mono fun e w'' ⟨i1,i2⟩=>⟨i1,i2.after hb,i2.keepN hlt⟩
 · have e1:knows S p=false:=by simp [knows,hq]
   have e2:recv0 S p=S:=by simp [recv0,hq]
   have e3:recvA p = [⟨3,encD (packS p.id) [] [],false⟩]:=by simp [recvA,hq]
   have e4:recvS S p=pubS S (ofS p):=by simp [recvS,e1,e2]
   have e5:recvR S R p=pubR R (ofS p):=by simp [recvR,e1]
   have e6:os ++ recvO S p=(os ++ pubO S (ofS p)) ++ [⟨3,encD (packS p.id) [] [],false⟩]:=by simp [recvO,e1,e2,e3]
   rw [e4,e5,e6]
   refine receive_one P.B P.cb p w (fun a=>Went (At P (pubS S (ofS p)) (pubR R (ofS p)) (os ++ pubO S (ofS p))) (Q.has P) w a) _ f1 f2 f3 c1 c2 c3 hfv hcv hq ?_ ?_
   · intro w' hb
     exact ((h.down hb).publish hM hF (ofS p) ht (by omega)).mono fun e w'' ⟨i1,i2⟩=>⟨i1,i2.after hb,i2.keepN hlt⟩
   · intro w' hw
     exact (hw.write (packS p.id) rfl rfl (hLl _ _)).mono fun e w'' ⟨i1,i2⟩=>⟨i1,i1,i2⟩
 · cases hk:S.known.contains p.id with
   | true =>
     have e1:knows S p=true:=by simp only [knows,hq,hk];decide
     have e3:recvA p = [⟨3,encD (recS p.id) [] [],false⟩]:=by simp [recvA,hq]
     have e4:recvS S p=S:=by simp [recvS,e1]
     have e5:recvR S R p=R:=by simp [recvR,e1]
     have e6:recvO S p = [⟨3,encD (recS p.id) [] [],false⟩]:=by simp [recvO,e1,e3]
     rw [e4,e5,e6]
     refine receive_known P.B P.cb P.sp p w _ f1 f2 f3 c1 c2 c3 hfv hcv hq h.c18 ?_ ?_
     · intro w' hb
       exact learn_old P.sp Q.X.sv S p.id w' (h.down hb).ses hid hk
     · intro w' hb
       have hw:Went (At P S R os) (Q.has P) w w':=(Went.refl (A:=At P S R os) ⟨Q,h,rfl⟩).below (at_fit P S R os) hb
       exact (hw.write (recS p.id) rfl rfl (by omega)).mono fun e w'' ⟨i1,i2⟩=>⟨i1,i1,i2⟩
   | false =>
     have e1:knows S p=false:=by simp only [knows,hq,hk];decide
     have e2:recv0 S p = { S with known:=S.known ++ [p.id] }:=by simp only [recv0,hq,if_true,learnS,hk];rfl
     have e3:recvA p = [⟨3,encD (recS p.id) [] [],false⟩]:=by simp [recvA,hq]
     have e4:recvS S p=pubS { S with known:=S.known ++ [p.id] } (ofS p):=by simp [recvS,e1,e2]
     have e5:recvR S R p=pubR R (ofS p):=by simp [recvR,e1]
     have e6:os ++ recvO S p=(os ++ pubO { S with known:=S.known ++ [p.id] } (ofS p)) ++ [⟨3,encD (recS p.id) [] [],false⟩]:=by simp [recvO,e1,e2,e3]
     rw [e4,e5,e6]
     have hcu:∀ b,b=Q.X.sv.kb→Q.X.sv.has P.sp b:=fun b e=>Or.inr (Or.inr (Or.inl e))
     have hq1:∀ (a b:World),(One P a Q { S with known:=S.known ++ [p.id] } R os∧But (Q.has P) w a)→Below a.heap.size a b→One P b Q { S with known:=S.known ++ [p.id] } R os∧But (Q.has P) w b:=fun a b ha hb=>⟨ha.1.down hb,ha.2.trans (But.of_below (F:=fun _=>False) hb) (fun _ _ f=>f.elim)⟩
     refine receive_two P.B P.cb P.sp p w (fun a=>One P a Q { S with known:=S.known ++ [p.id] } R os∧But (Q.has P) w a) (fun a=>Went (At P (pubS { S with known:=S.known ++ [p.id] } (ofS p)) (pubR R (ofS p)) (os ++ pubO { S with known:=S.known ++ [p.id] } (ofS p))) (Q.has P) w a) _ f1 f2 f3 c1 c2 c3 hfv hcv hq h.c18 ?_ (fun a ha=>ha.1.c18) hq1 (fun a b ha hb=>ha.below (at_fit P _ _ _) hb) ?_ ?_
     · intro w' hb
       refine (learn_new P.sp Q.X.sv S p.id w' (h.down hb).ses hid hk hkno).mono ?_
       rintro e w'' ⟨rfl,i2,i3⟩
       refine ⟨rfl,⟨(h.down hb).sesQ hcu i3 i2,(But.of_below hb).trans i3 (fun x _ e=>One.sub (Or.inl (hcu x e)))⟩,i3.size,fun g h1 h2=>i3.keep g h2 (fun e=>?_)⟩
       have:=hlt g (One.sub (Or.inl (hcu g e)))
       omega
     · rintro w' ⟨hQ,hB⟩
       refine (hQ.publish hM ⟨hF.last,hF.und,hF.fil,hF.top,hF.ret⟩ (ofS p) ht (by omega)).mono fun e w'' ⟨i1,i2⟩=>⟨i1,i2.step hB (fun b hb=>Or.inl hb),i2.keepN hlt⟩
     · intro w' hw
       exact (hw.write (recS p.id) rfl rfl (hLl _ _)).mono fun e w'' ⟨i1,i2⟩=>⟨i1,i1,i2⟩
theorem One.rel {P:Par} {w:World} {Q:OneV} {S:Ses} {R:List Msg} {os:List OutS} (h:One P w Q S R os) (p:Pkt) (hfv:∃ a b c,p.fv=.slice a b c) (hcv:∃ a b c,p.cv=.slice a b c) (hid:(Lit.int .i64 p.id).wf=true) (hnd:S.known.Nodup) (hL:os.length < 999999999999) :
 Calls Tryz.prog 163 #[.pointer (some ⟨P.B,0,none⟩),.pointer (some ⟨P.cb,0,none⟩),.agg (pkK p)] w fun e w'=>e=.returned (.tuple #[])∧Went (At P { S with known:=S.known.erase p.id } R (os ++ [⟨3,encD (compS p.id) [] [],false⟩])) (Q.has P) w w':=by
 obtain ⟨f1,f2,f3,hfv⟩:=hfv
 obtain ⟨c1,c2,c3,hcv⟩:=hcv
 refine bforget_any P.B P.cb P.sp p w (fun a=>Went (At P { S with known:=S.known.erase p.id } R os) (Q.has P) w a) _ f1 f2 f3 c1 c2 c3 hfv hcv h.c18 ?_ (fun a ⟨F,⟨Q',hQ,_⟩,_⟩=>hQ.c18) ?_
 · intro w' hb
   exact ((h.down hb).forget p.id hid hnd).mono fun e w'' ⟨i1,i2⟩=>⟨i1,i2.after hb,i2.keepN (fun b hb=>h.lt hb)⟩
 · intro w' hw
   exact (hw.write (compS p.id) rfl rfl (by omega)).mono fun e w'' ⟨i1,i2⟩=>⟨i1,i1,i2⟩
def dropA (S:Ses) (fs:List (List UInt8×Int)):Ses:={ S with filters:=fs.foldl (fun l f=>dropF l f.1) S.filters }
theorem One.uns {P:Par} {w:World} {Q:OneV} {S:Ses} {R:List Msg} {os:List OutS} (h:One P w Q S R os) (p:Pkt) (fs:List (List UInt8×Int)) (hcv:∃ a b c,p.cv=.slice a b c) (hfs:w.ownsRow 0 95 2 p.fv fs.length (filK fs)) (hfn:∀ b,p.fv.ownBlock=some b→¬ Q.has P b) (hlf:fs.length≤1000000) (hL:os.length < 999999999999) :
 Calls Tryz.prog 169 #[.pointer (some ⟨P.B,0,none⟩),.pointer (some ⟨P.cb,0,none⟩),.agg (pkK p)] w fun e w'=>e=.returned (.tuple #[])∧Went (At P (dropA S fs) R (os ++ [⟨3,encD (unsS p.id) [] [],false⟩])) (Q.has P) w w':=by
 obtain ⟨c1,c2,c3,hcv⟩:=hcv
 refine unsub_any P.B P.cb P.sp p fs w (fun k a=>∃ Q',One P a Q' (dropA S (fs.take k)) R os∧(∀ b,Q'.has P b→Q.has P b)∧But (Q.has P) w a) _ c1 c2 c3 hcv hfs hlf (fun a hb=>⟨Q,h.down hb,fun _ h=>h,But.of_below hb⟩) (fun k a b ⟨Q',i1,i2,i3⟩ hb=>⟨Q',i1.down hb,i2,i3.trans (But.of_below (F:=fun _=>False) hb) (fun _ _ f=>f.elim)⟩) (fun k a ⟨Q',i1,_⟩=>i1.c18) (fun k a ⟨Q',i1,i2,i3⟩ b hb=>?_) ?_ ?_
 · obtain ⟨cur,hc⟩:=own_blk hfs hb
   exact i3.keep b (blk_lt hc) (hfn b hb)
 · rintro k g a hg ⟨Q',i1,i2,i3⟩
   refine (i1.drop g.1).mono ?_
   rintro e a' ⟨rfl,Q'',j1,j2,j3⟩
   have hT:dropA S (fs.take (k+1)) = { dropA S (fs.take k) with filters:=dropF (dropA S (fs.take k)).filters g.1 }:=by
    unfold dropA
    rw [List.take_add_one,hg]
    simp [List.foldl_append]
   rw [hT]
   exact ⟨rfl,⟨Q'',j1,fun b hb=>i2 b (j2 b hb),i3.trans j3 (fun x _ e=>i2 x e)⟩,j3.size,fun g h1 h2=>j3.keep g h2 (fun e=>by have:=h.lt (i2 g e);omega)⟩
 · rintro a ⟨Q',i1,i2,i3⟩
   rw [List.take_length] at i1
   have hw:Went (At P (dropA S fs) R os) (Q.has P) w a:=⟨Q'.has P,⟨Q',i1,rfl⟩,i3,fun b hb=>Or.inl (i2 b hb)⟩
   exact (hw.write (unsS p.id) rfl rfl (by omega)).mono fun e w'' ⟨j1,j2⟩=>⟨j1,j1,j2⟩
theorem next_free (last:Int) (l:List Uw) (hl:l.length < 65000):∃ k,nextS last l=nth last k∧busy l (nth last k)=false:=by
 have hex:∃ j,j≤l.length∧busy l (nth last j)=false:=by
  apply Classical.byContradiction
  intro hn
  have hall:∀ j,j < l.length+1→busy l (nth last j)=true:=fun j hj=>by
   cases hb:busy l (nth last j) with
   | true=>rfl
   | false=>exact (hn ⟨j,by omega,hb⟩).elim
  have:=busy_bound (l.length+1) (by omega) hall
  omega
 have hmin:∀ n,(∃ j,j≤n∧busy l (nth last j)=false)→∃ k,k≤n∧busy l (nth last k)=false∧∀ j,j < k→busy l (nth last j)=true:=by
  intro n
  induction n with
  | zero =>
    rintro ⟨j,hj,hb⟩
    obtain rfl:j=0:=by omega
    exact ⟨0,Nat.le_refl _,hb,fun j hj=>by omega⟩
  | succ n ih =>
    rintro ⟨j,hj,hb⟩
    by_cases hjn:j≤n
    · obtain ⟨k,h1,h2⟩:=ih ⟨j,hjn,hb⟩;exact ⟨k,by omega,h2⟩
    · have:j=n+1:=by omega
      subst this
      by_cases hx:∃ j,j≤n∧busy l (nth last j)=false
      · obtain ⟨k,h1,h2⟩:=ih hx;exact ⟨k,by omega,h2⟩
      · refine ⟨n+1,Nat.le_refl _,hb,fun i hi=>?_⟩
        cases hc:busy l (nth last i) with
        | true=>rfl
        | false=>exact (hx ⟨i,by omega,hc⟩).elim
 obtain ⟨k,hk,hb,hlt⟩:=hmin _ hex
 refine ⟨k,?_,hb⟩
 have:=nextF_at (l:=l) (last:=last) (l.length+1) k 0 (fun j _ hj=>hlt j (by omega)) (by rw [Nat.zero_add];exact hb) (by omega)
 rw [Nat.zero_add] at this
 exact this
structure OkS (S:Ses):Prop where
 last:0≤S.last
 win:1≤S.window∧S.window≤8
 und:(S.under.length:Int)≤S.window
 ful:S.waiting = []∨(S.under.length:Int)=S.window
 ids:(S.under.map Uw.id).Nodup
 fil:∀ f∈S.filters,f.1.length≤65535
 knd:S.known.Nodup
 kno:∀ id∈S.known,1≤id∧id≤65535
structure OkR (R:List Msg):Prop where
 top:∀ m∈R,m.topic.length≤65535
 len:R.length≤8
theorem known_len (n:Nat):∀ l:List Int,l.Nodup→(∀ i∈l,1≤i∧i≤(n:Int))→l.length≤n:=by
 induction n with
 | zero =>
   intro l _ h
   cases l with
   | nil=>exact Nat.le_refl _
   | cons a t=>have:=h a (List.mem_cons_self ..);omega
 | succ n ih =>
   intro l hn h
   have h1:=ih (l.erase ((n+1:Nat):Int)) (hn.erase _) (fun i hi=>by
    have hi2:=List.mem_of_mem_erase hi
    have h3:=h i hi2
    have:i≠((n+1:Nat):Int):=fun e=>by subst e;exact (List.Nodup.not_mem_erase hn) hi
    omega)
   rw [List.length_erase] at h1
   split at h1<;>omega
theorem OkS.fair {S:Ses} {R:List Msg} (h:OkS S) (k:OkR R):Fair S R:=⟨h.last,by have:=h.und;have:=h.win;omega,h.fil,k.top,Nat.le_trans k.len (by omega)⟩
theorem OkS.klen {S:Ses} (h:OkS S):S.known.length < 100000:=by
 have:=known_len 65535 S.known h.knd h.kno
 omega
theorem OkS.begin_ {S:Ses} (h:OkS S) (m:Msg) (hu:(S.under.length:Int) < S.window) (r:List Msg) (hr:r = []∨((S.under.length:Int)+1=S.window)):OkS (beginS { S with waiting:=r } m):=by
 have hl:S.under.length < 65000:=by have:=h.win;omega
 obtain ⟨k,e,hb⟩:=next_free S.last S.under hl
 have hr2:=nth_range S.last k
 refine ⟨by show 0≤nextS S.last S.under;rw [e];omega,h.win,?_,?_,?_,h.fil,h.knd,h.kno⟩
 · show (((S.under ++ [_]).length:Nat):Int)≤S.window
   rw [List.length_append,List.length_singleton];omega
 · show r = []∨(((S.under ++ [_]).length:Nat):Int)=S.window
   rw [List.length_append,List.length_singleton]
   exact hr.imp (fun e=>e) (fun e=>by omega)
 · show ((S.under ++ [_]).map Uw.id).Nodup
   rw [List.map_append,List.nodup_append]
   refine ⟨h.ids,by simp,fun a ha b hb' e'=>?_⟩
   simp only [List.map_cons,List.map_nil,List.mem_singleton] at hb'
   subst e'
   subst hb'
   change nextS S.last S.under∈S.under.map Uw.id at ha
   rw [e] at ha
   obtain ⟨u,hu1,hu2⟩:=List.mem_map.1 ha
   have:busy S.under (nth S.last k)=true:=by unfold busy;rw [List.any_eq_true];exact ⟨u,hu1,by simp [hu2]⟩
   rw [hb] at this
   cases this
theorem OkS.tell {S:Ses} (h:OkS S) (m:Msg):OkS (tellS true S m):=by
 unfold tellS
 split
 · exact h
 · split
   · rename_i hq hg
     simp only [Bool.true_and,decide_eq_true_eq] at hg
     have hw:S.waiting = []:=h.ful.elim (fun e=>e) (fun e=>by omega)
     have:=h.begin_ m hg S.waiting (Or.inl hw)
     exact this
   · rename_i hq hg
     simp only [Bool.true_and,decide_eq_true_eq] at hg
     unfold waitS
     split
     · exact ⟨h.last,h.win,h.und,Or.inr (by have:=h.und;show (S.under.length:Int)=S.window;omega),h.ids,h.fil,h.knd,h.kno⟩
     · exact h
theorem OkS.pub {S:Ses} (h:OkS S) (m:Msg):OkS (pubS S m):=by
 unfold pubS
 split
 · exact h.tell _
 · exact h
theorem filter_one {α:Type} (f:α→Int) (p:α→Bool) (id:Int) (hp:∀ u,p u=true→f u=id):∀ l:List α,(l.map f).Nodup→(l.filter fun u=>!p u)=l∨(l.filter fun u=>!p u).length+1=l.length
 | [],_=>Or.inl rfl
 | a :: t,hn=>by
   rw [List.map_cons,List.nodup_cons] at hn
   cases ha:p a with
   | true =>
     right
     have ht:(t.filter fun u=>!p u)=t:=by
      rw [List.filter_eq_self]
      intro u hu
      cases hpu:p u with
      | false=>rfl
      | true=>exact (hn.1 (List.mem_map.2 ⟨u,hu,by rw [hp u hpu,hp a ha]⟩)).elim
     rw [List.filter_cons]
     simp [ha,ht]
   | false =>
     have:=filter_one f p id hp t hn.2
     rw [List.filter_cons]
     simp only [ha,Bool.not_false,if_true,List.length_cons]
     rcases this with e | e
     · left;rw [e]
     · right;omega
theorem OkS.ends {S:Ses} (h:OkS S) (p:Uw→Bool) (id:Int) (hp:∀ u,p u=true→u.id=id):OkS (goS true (endS p S))∧OneGo p S:=by
 have h1:=filter_one Uw.id p id hp S.under h.ids
 have hsub:(S.under.filter fun u=>!p u).Sublist S.under:=List.filter_sublist
 have hids:((S.under.filter fun u=>!p u).map Uw.id).Nodup:=List.Nodup.sublist (List.Sublist.map Uw.id hsub) h.ids
 have hle:(S.under.filter fun u=>!p u).length≤S.under.length:=hsub.length_le
 have hund:=h.und
 have hbase:∀ r,(r = []∨((S.under.filter fun u=>!p u).length:Int)=S.window)→OkS { endS p S with waiting:=r }:=fun r hr=>⟨h.last,h.win,by show ((S.under.filter fun u=>!p u).length:Int)≤S.window;omega,hr,hids,h.fil,h.knd,h.kno⟩
 unfold OneGo
 cases hw:S.waiting with
 | nil =>
   have e:goS true (endS p S)=endS p S:=by unfold goS;simp only [endS,hw]
   rw [e]
   have h2:=hbase S.waiting (Or.inl hw)
   exact ⟨h2,Or.inl hw⟩
 | cons m r =>
   have hf:(S.under.length:Int)=S.window:=h.ful.elim (fun e=>by rw [hw] at e;cases e) (fun e=>e)
   rcases h1 with e1 | e1
   · have hm:mayS true (endS p S)=false:=by
      unfold mayS
      simp only [Bool.true_and,decide_eq_false_iff_not]
      show ¬ (((S.under.filter fun u=>!p u).length:Nat):Int) < S.window
      rw [e1];omega
     have e:goS true (endS p S)=endS p S:=by unfold goS;simp only [hm];simp only [endS,hw];rfl
     rw [e]
     exact ⟨hbase S.waiting (Or.inr (by rw [e1];exact hf)),Or.inr hm⟩
   · have hlt:((S.under.filter fun u=>!p u).length:Int) < S.window:=by omega
     have hm:mayS true (endS p S)=true:=by
      unfold mayS
      simp only [Bool.true_and,decide_eq_true_eq]
      exact hlt
     have e:goS true (endS p S)=beginS { endS p S with waiting:=r } m:=by unfold goS;simp only [hm];simp only [endS,hw];rfl
     rw [e]
     have h0:=(hbase [] (Or.inl rfl)).begin_ m hlt r (Or.inr (by show ((S.under.filter fun u=>!p u).length:Int)+1=S.window;omega))
     refine ⟨h0,Or.inr ?_⟩
     unfold mayS
     simp only [Bool.true_and,decide_eq_false_iff_not]
     show ¬ ((((S.under.filter fun u=>!p u) ++ [_]).length:Nat):Int) < S.window
     rw [List.length_append,List.length_singleton]
     omega
theorem OkS.done {S:Ses} (h:OkS S) (id:Int):OkS (goS true (endS (isDone id) S))∧OneGo (isDone id) S:=h.ends _ id (fun u hu=>by unfold isDone at hu;simp at hu;exact hu.1)
theorem OkS.comp {S:Ses} (h:OkS S) (id:Int):OkS (goS true (endS (isComp id) S))∧OneGo (isComp id) S:=h.ends _ id (fun u hu=>by unfold isComp at hu;simp at hu;exact hu.1)
theorem map_set_same {α:Type} (f:α→Int) (l:List α) (i:Nat) (a:α) (h:(l[i]?).map f=some (f a)):(l.set i a).map f=l.map f:=by
 rw [List.map_set]
 apply List.ext_getElem?
 intro j
 rw [List.getElem?_set]
 by_cases e:i=j
 · subst e
   rw [if_pos rfl,List.getElem?_map,h]
   have hl:i < l.length:=by
    apply Classical.byContradiction
    intro hn
    rw [List.getElem?_eq_none (by omega)] at h
    cases h
   simp [hl]
 · rw [if_neg e]
theorem OkS.rec_ {S:Ses} (h:OkS S) (id:Int):OkS (recT S id):=by
 unfold recT
 cases hr:recI S id with
 | none=>exact h
 | some i =>
   have hi:S.under.findIdx? (fun u=>u.id == id)=some i:=by
    unfold recI at hr
    split at hr
    · rename_i j hj
      split at hr
      · cases hr;exact hj
      · cases hr
    · cases hr
   obtain ⟨hil,hid,_⟩:=List.findIdx?_eq_some_iff_getElem.1 hi
   refine ⟨h.last,h.win,by show (((S.under.set i _).length:Nat):Int)≤_;rw [List.length_set];exact h.und,by show _∨(((S.under.set i _).length:Nat):Int)=_;rw [List.length_set];exact h.ful,?_,h.fil,h.knd,h.kno⟩
   show ((S.under.set i (relU id)).map Uw.id).Nodup
   rw [map_set_same Uw.id S.under i (relU id) (by rw [List.getElem?_eq_getElem hil];simpa [relU] using hid)]
   exact h.ids
theorem OkS.fils {S:Ses} (h:OkS S) (l:List (List UInt8×Int)) (hl:∀ f∈l,f.1.length≤65535):OkS { S with filters:=l }:=⟨h.last,h.win,h.und,h.ful,h.ids,hl,h.knd,h.kno⟩
theorem OkS.learn {S:Ses} (h:OkS S) (id:Int) (hid:1≤id∧id≤65535):OkS (learnS S id):=by
 unfold learnS
 cases hk:S.known.contains id with
 | true=>exact h
 | false =>
   refine ⟨h.last,h.win,h.und,h.ful,h.ids,h.fil,?_,fun i hi=>?_⟩
   · show (S.known ++ [id]).Nodup
     rw [List.nodup_append]
     refine ⟨h.knd,by simp,fun a ha b hb e=>?_⟩
     simp only [List.mem_singleton] at hb
     subst hb
     subst e
     have:S.known.contains a=true:=by simpa using ha
     rw [hk] at this
     cases this
   · rcases List.mem_append.1 (show i∈S.known ++ [id] from hi) with h1 | h1
     · exact h.kno i h1
     · simp only [List.mem_singleton] at h1;subst h1;exact hid
theorem OkS.forget {S:Ses} (h:OkS S) (id:Int):OkS { S with known:=S.known.erase id }:=⟨h.last,h.win,h.und,h.ful,h.ids,h.fil,h.knd.erase _,fun i hi=>h.kno i (List.mem_of_mem_erase hi)⟩
theorem OkS.recv {S:Ses} (h:OkS S) (p:Pkt) (hid:p.qos=2→1≤p.id∧p.id≤65535):OkS (recvS S p):=by
 unfold recvS
 split
 · exact h
 · refine OkS.pub ?_ _
   unfold recv0
   split
   · rename_i hq;exact h.learn _ (hid hq)
   · exact h
theorem drop_sub (l:List (List UInt8×Int)) (f:List UInt8):∀ g∈dropF l f,g∈l:=by
 intro g hg
 unfold dropF at hg
 split at hg
 · exact List.mem_of_mem_eraseIdx hg
 · exact hg
theorem OkS.drops {S:Ses} (h:OkS S) (fs:List (List UInt8×Int)):OkS (dropA S fs):=by
 refine h.fils _ ?_
 have:∀ (fs l:List (List UInt8×Int)),∀ g∈fs.foldl (fun l f=>dropF l f.1) l,g∈l:=by
  intro fs
  induction fs with
  | nil=>exact fun l g hg=>hg
  | cons a t ih=>exact fun l g hg=>drop_sub l a.1 g (ih _ g hg)
 exact fun f hf=>h.fil f (this fs S.filters f hf)
theorem take_ok {l:List (List UInt8×Int)} {f:List UInt8×Int} (h:∀ g∈l,g.1.length≤65535) (hf:f.1.length≤65535):∀ g∈(takeS l f).getD l,g.1.length≤65535:=by
 unfold takeS
 intro g hg
 split at hg
 · simp only [Option.getD_some] at hg
   rcases List.mem_or_eq_of_mem_set hg with h1 | h1
   · exact h g h1
   · subst h1;exact hf
 · split at hg
   · exact h g hg
   · simp only [Option.getD_some] at hg
     rcases List.mem_append.1 hg with h1 | h1
     · exact h g h1
     · simp only [List.mem_singleton] at h1;subst h1;exact hf
theorem OkR.keep {R:List Msg} (h:OkR R) (m:Msg) (hm:m.topic.length≤65535):OkR (keepS R m):=by
 unfold keepS
 split
 · split
   · exact ⟨fun x hx=>h.top x (List.mem_of_mem_eraseIdx hx),Nat.le_trans (List.length_eraseIdx_le _ _) h.len⟩
   · exact h
 · split
   · refine ⟨fun x hx=>?_,by rw [List.length_set];exact h.len⟩
     rcases List.mem_or_eq_of_mem_set hx with h1 | h1
     · exact h.top x h1
     · subst h1;exact hm
   · split
     · rename_i hl
       refine ⟨fun x hx=>?_,by simp;omega⟩
       rcases List.mem_append.1 hx with h1 | h1
       · rcases List.mem_append.1 h1 with h2 | h2
         · exact h.top x (List.mem_of_mem_take h2)
         · simp only [List.mem_singleton] at h2;subst h2;exact hm
       · exact h.top x (List.mem_of_mem_drop h1)
     · exact h
theorem OkR.recv {S:Ses} {R:List Msg} (h:OkR R) (p:Pkt) (hp:p.topic.length≤65535):OkR (recvR S R p):=by
 unfold recvR pubR
 split
 · exact h
 · split
   · exact h.keep _ hp
   · exact h
end br
namespace br
open Go.RowKit topPlain topWalks decPlain rd ew encPlain rf Go.Maps
theorem intV_row {w:World} {C:Nat} {v:Value} {l:List Int} (h:w.ownsRow C 3 1 v l.length (intK l)) (hl:l.length≤1000000):IntV w v l:=by
 obtain ⟨q,cap,rfl⟩:=own_form h
 refine ⟨q,cap,rfl,by unfold maxLen;omega,fun j c hj=>?_⟩
 have hlt:=(List.getElem?_eq_some_iff.1 hj).1
 obtain ⟨g,rfl,h1,h2,h3,h4⟩:=own_at h (by omega)
 exact ⟨g,rfl,h1,h4 j _ (by simp [intK,hj])⟩
def sub1 (x:Ses×List (List UInt8×Int)×List Int) (f:List UInt8×Int):Ses×List (List UInt8×Int)×List Int:=
 ({ x.1 with filters:=(takeS x.1.filters f).getD x.1.filters },if (takeS x.1.filters f).isSome then x.2.1 ++ [f] else x.2.1,x.2.2 ++ [if (takeS x.1.filters f).isSome then f.2 else 128])
def subF (S:Ses) (fs:List (List UInt8×Int)):Ses×List (List UInt8×Int)×List Int:=fs.foldl sub1 (S,[],[])
theorem subF_succ (S:Ses) {fs:List (List UInt8×Int)} {k:Nat} {g:List UInt8×Int} (h:fs[k]?=some g):subF S (fs.take (k+1))=sub1 (subF S (fs.take k)) g:=by
 unfold subF
 rw [List.take_add_one,h]
 simp [List.foldl_append]
def subK (S:Ses) (fs:List (List UInt8×Int)) (k:Nat):Bool:=match fs[k]? with
 | some g=>(takeS (subF S (fs.take k)).1.filters g).isSome
 | none=>false
theorem subL (S:Ses) (fs:List (List UInt8×Int)):SubL fs (subK S fs) (fun k=>(subF S (fs.take k)).2.1) (fun k=>(subF S (fs.take k)).2.2):=by
 refine ⟨rfl,rfl,fun k g hg ht=>?_,fun k g hg ht=>?_⟩
 · unfold subK at ht
   rw [hg] at ht
   simp only at ht
   simp only [subF_succ S hg,sub1,ht,if_true,and_self]
 · unfold subK at ht
   rw [hg] at ht
   simp only at ht
   simp only [subF_succ S hg,sub1,ht]
   simp
theorem subF_ok {S:Ses} (h:OkS S):∀ {fs:List (List UInt8×Int)},(∀ f∈fs,f.1.length≤65535)→OkS (subF S fs).1∧(∀ f∈(subF S fs).2.1,f∈fs)∧(subF S fs).2.1.length≤fs.length:=by
 have gen:∀ (fs:List (List UInt8×Int)) (x:Ses×List (List UInt8×Int)×List Int),OkS x.1→(∀ f∈fs,f.1.length≤65535)→OkS (fs.foldl sub1 x).1∧(∀ f∈(fs.foldl sub1 x).2.1,f∈x.2.1∨f∈fs)∧(fs.foldl sub1 x).2.1.length≤x.2.1.length+fs.length:=by
  intro fs
  induction fs with
  | nil=>exact fun x hx _=>⟨hx,fun f hf=>Or.inl hf,Nat.le_refl _⟩
  | cons a t ih =>
    intro x hx hf
    obtain ⟨h1,h2,h3⟩:=ih (sub1 x a) (hx.fils _ (take_ok hx.fil (hf a (List.mem_cons_self ..)))) (fun f hf'=>hf f (List.mem_cons_of_mem _ hf'))
    have hm:∀ f∈(sub1 x a).2.1,f∈x.2.1∨f=a:=fun f hf'=>by
     unfold sub1 at hf'
     simp only at hf'
     split at hf'
     · rcases List.mem_append.1 hf' with h | h
       · exact Or.inl h
       · simp only [List.mem_singleton] at h;exact Or.inr h
     · exact Or.inl hf'
    have hl:(sub1 x a).2.1.length≤x.2.1.length+1:=by
     unfold sub1
     simp only
     split<;>simp
    refine ⟨h1,fun f hf'=>?_,?_⟩
    · rcases h2 f hf' with h | h
      · exact (hm f h).imp (fun e=>e) (fun e=>by subst e;exact List.mem_cons_self ..)
      · exact Or.inr (List.mem_cons_of_mem _ h)
    · rw [List.length_cons]
      simp only [List.foldl_cons]
      omega
 intro fs hf
 obtain ⟨h1,h2,h3⟩:=gen fs (S,[],[]) h hf
 exact ⟨h1,fun f hf'=>(h2 f hf').elim (fun e=>by cases e) (fun e=>e),by simpa [subF] using h3⟩
def tellR (q:Int) (x:Ses×List OutS) (m:Msg):Ses×List OutS:=(tellS true x.1 (toldS m q true),x.2 ++ tellP x.1 (toldS m q true))
def retF (R:List Msg) (x:Ses×List OutS) (f:List UInt8×Int):Ses×List OutS:=(matchS f.1 R).foldl (tellR f.2) x
def retA (R:List Msg) (x:Ses×List OutS) (T:List (List UInt8×Int)):Ses×List OutS:=T.foldl (retF R) x
theorem tellR_fold (q:Int):∀ (l:List Msg) (x:Ses×List OutS),OkS x.1→OkS (l.foldl (tellR q) x).1∧(l.foldl (tellR q) x).2.length≤x.2.length+l.length:=by
 intro l
 induction l with
 | nil=>exact fun x hx=>⟨hx,Nat.le_refl _⟩
 | cons a t ih =>
   intro x hx
   obtain ⟨h1,h2⟩:=ih (tellR q x a) (hx.tell _)
   refine ⟨h1,?_⟩
   have h3:=tellP_len x.1 (toldS a q true)
   have h4:(tellR q x a).2.length=x.2.length+(tellP x.1 (toldS a q true)).length:=by simp [tellR]
   rw [List.foldl_cons,List.length_cons]
   omega
theorem retF_ok {R:List Msg} (hR:R.length≤8) (f:List UInt8×Int) (x:Ses×List OutS) (h:OkS x.1):OkS (retF R x f).1∧(retF R x f).2.length≤x.2.length+8:=by
 obtain ⟨h1,h2⟩:=tellR_fold f.2 (matchS f.1 R) x h
 have h3:(matchS f.1 R).length≤R.length:=List.length_filter_le _ _
 exact ⟨h1,by unfold retF;omega⟩
theorem retA_ok {R:List Msg} (hR:R.length≤8):∀ (T:List (List UInt8×Int)) (x:Ses×List OutS),OkS x.1→OkS (retA R x T).1∧(retA R x T).2.length≤x.2.length+8*T.length:=by
 intro T
 induction T with
 | nil=>exact fun x hx=>⟨hx,Nat.le_refl _⟩
 | cons a t ih =>
   intro x hx
   obtain ⟨h1,h2⟩:=retF_ok hR a x hx
   obtain ⟨h3,h4⟩:=ih (retF R x a) h1
   refine ⟨h3,?_⟩
   have:retA R x (a :: t)=retA R (retF R x a) t:=rfl
   rw [this,List.length_cons]
   omega
theorem One.telled {P:Par} {w:World} {Q:OneV} {x:Ses×List OutS} {R:List Msg} (h:One P w Q x.1 R x.2) (hS:OkS x.1) (hR:OkR R) (f:List UInt8×Int) (hf:f.1.length≤65535) (hL:x.2.length < 999999999000) :
 Calls Tryz.prog 215 #[.pointer (some ⟨P.B,0,none⟩),.pointer (some ⟨P.sp,0,none⟩),.agg #[.string (bs f.1),.int .i64 f.2]] w fun e w'=>e=.returned (.tuple #[])∧Went (At P (retF R x f).1 R (retF R x f).2) (Q.has P) w w':=by
 have hlm:(matchS f.1 R).length≤8:=Nat.le_trans (List.length_filter_le _ _) hR.len
 have hk:∀ k,OkS (((matchS f.1 R).take k).foldl (tellR f.2) x).1∧(((matchS f.1 R).take k).foldl (tellR f.2) x).2.length < 999999999999:=fun k=>by
  obtain ⟨h1,h2⟩:=tellR_fold f.2 ((matchS f.1 R).take k) x hS
  refine ⟨h1,?_⟩
  have:((matchS f.1 R).take k).length≤(matchS f.1 R).length:=by rw [List.length_take];omega
  omega
 refine (tellRet_fp (N:=P.N0) P.B P.sp Q.BV.rv f R w (fun k=>At P (((matchS f.1 R).take k).foldl (tellR f.2) x).1 R (((matchS f.1 R).take k).foldl (tellR f.2) x).2) (Q.has P) (blk_cell h.blk.blk rfl) h.ret h.gd.env.inv hf hR.top (Nat.le_trans hR.len (by omega)) (fun k=>at_fit P _ _ _) ⟨Q,h,rfl⟩ ?_).mono ?_
 · rintro k m a F hm ⟨Q',hQ,rfl⟩
   obtain ⟨h1,h2⟩:=hk k
   refine (hQ.tell (toldS m f.2 true) (by omega) h1.last (by have:=h1.und;have:=h1.win;omega)).mono ?_
   rintro e a' ⟨rfl,hw⟩
   refine ⟨rfl,?_⟩
   have e1:(((matchS f.1 R).take (k+1)).foldl (tellR f.2) x)=tellR f.2 (((matchS f.1 R).take k).foldl (tellR f.2) x) m:=by
    rw [List.take_add_one,hm]
    simp [List.foldl_append]
   rw [e1]
   exact hw
 · rintro e w' ⟨rfl,hw⟩
   rw [List.take_length] at hw
   exact ⟨rfl,hw⟩
def subO (S:Ses) (p:Pkt) (fs:List (List UInt8×Int)):OutS:=⟨3,encD (subS p.id (.slice none 0 0)) [] (subF S fs).2.2,false⟩
theorem One.subs {P:Par} {w:World} {Q:OneV} {S:Ses} {R:List Msg} {os:List OutS} (h:One P w Q S R os) (hS:OkS S) (hR:OkR R) (p:Pkt) (fs:List (List UInt8×Int)) (hcv:∃ a b c,p.cv=.slice a b c) (hfs:w.ownsRow 0 95 2 p.fv fs.length (filK fs)) (hfn:∀ b,p.fv.ownBlock=some b→¬ Q.has P b) (hlf:fs.length≤1000000) (hft:∀ f∈fs,f.1.length≤65535) (hL:os.length < 900000000000) :
 Calls Tryz.prog 167 #[.pointer (some ⟨P.B,0,none⟩),.pointer (some ⟨P.cb,0,none⟩),.agg (pkK p)] w fun e w'=>e=.returned (.tuple #[])∧Went (At P (retA R ((subF S fs).1,os ++ [subO S p fs]) (subF S fs).2.1).1 R (retA R ((subF S fs).1,os ++ [subO S p fs]) (subF S fs).2.1).2) (Q.has P) w w':=by
 obtain ⟨c1,c2,c3,hcv⟩:=hcv
 obtain ⟨hO,hsub,hTl⟩:=subF_ok hS hft
 have hlen:∀ k,OkS (retA R ((subF S fs).1,os ++ [subO S p fs]) ((subF S fs).2.1.take k)).1∧(retA R ((subF S fs).1,os ++ [subO S p fs]) ((subF S fs).2.1.take k)).2.length < 999999999000:=fun k=>by
  obtain ⟨h1,h2⟩:=retA_ok hR.len ((subF S fs).2.1.take k) ((subF S fs).1,os ++ [subO S p fs]) hO
  refine ⟨h1,?_⟩
  have h3:((subF S fs).2.1.take k).length≤(subF S fs).2.1.length:=by rw [List.length_take];omega
  simp only [List.length_append,List.length_singleton] at h2
  omega
 refine (sub_any (N:=P.N0) P.B P.cb P.sp p fs (subK S fs) (fun k=>(subF S (fs.take k)).2.1) (fun k=>(subF S (fs.take k)).2.2) w (fun k=>At P (subF S (fs.take k)).1 R os) (fun k=>At P (retA R ((subF S fs).1,os ++ [subO S p fs]) ((subF S fs).2.1.take k)).1 R (retA R ((subF S fs).1,os ++ [subO S p fs]) ((subF S fs).2.1.take k)).2) (Q.has P) c1 c2 c3 hcv hfs hfn hlf h.gd.env.size (subL S fs) (fun k=>at_fit P _ _ _) (fun k=>at_fit P _ _ _) ⟨Q,h,rfl⟩ (fun k F a ⟨Q',hQ,_⟩=>hQ.c18) (fun k F a ⟨Q',hQ,_⟩=>hQ.c18) ?_ ?_ ?_).mono ?_
 · rintro k g a F hg ⟨Q',hQ,rfl⟩
   refine (hQ.take g).mono ?_
   rintro e a' ⟨rfl,hw⟩
   refine ⟨by unfold subK;rw [hg],?_⟩
   rw [subF_succ S hg]
   exact hw
 · rintro a F cv ⟨Q',hQ,rfl⟩ hcvr hcvn
   rw [List.take_length] at hcvr
   have hCl:(subF S fs).2.2.length≤1000000:=by
    have:=((subL S fs).len fs.length (Nat.le_refl _)).2
    simp only [List.take_length] at this
    omega
   have hI:IntV a (subS p.id cv).cv (subF S fs).2.2:=intV_row hcvr hCl
   refine (hQ.write (subS p.id cv) _ (hQ.gd.encCodes (subS p.id cv) (subF S fs).2.2 rfl hI) (by omega)).mono ?_
   rintro e a' ⟨rfl,hw⟩
   rw [List.take_length] at hw
   exact ⟨rfl,hw⟩
 · intro k f a F hf
   rw [List.take_length] at hf
   rintro ⟨Q',hQ,rfl⟩
   obtain ⟨h1,h2⟩:=hlen k
   refine (hQ.telled h1 hR f (hft f (hsub f (List.mem_of_getElem? hf))) h2).mono ?_
   rintro e a' ⟨rfl,hw⟩
   have e1:retA R ((subF S fs).1,os ++ [subO S p fs]) ((subF S fs).2.1.take (k+1))=retF R (retA R ((subF S fs).1,os ++ [subO S p fs]) ((subF S fs).2.1.take k)) f:=by
    unfold retA
    rw [List.take_add_one,hf]
    simp [List.foldl_append]
   rw [e1]
   exact ⟨rfl,hw⟩
 · rintro e w' ⟨rfl,hw⟩
   rw [List.take_length] at hw
   rw [List.take_length] at hw
   exact ⟨rfl,hw⟩
end br
namespace br
open Go.RowKit topPlain topWalks decPlain Go.Maps
def EndHas (P:Par) (ov:Value) (L:List (OutS×Value)) (b:Nat):Prop:=b=P.B∨ov.ownBlock=some b∨(∃ o,o∈L∧o.2.ownBlock=some b)∨b=P.cb
structure EndIs (P:Par) (w:World) (BV:BrV) (ov:Value) (L:List (OutS×Value)) (os:List OutS):Prop where
 gd:Gd P.N0 P.ash P.aw w
 blk:BlkAt w P.B BV ov L
 los:L.map Prod.fst=os
 cv3:BV.cv 3=.pointer none
 con:∃ cv C,w.heap[P.cb]?=some (.cells (conC 3 cv C) 137)
 n0:∀ b,EndHas P ov L b→P.N0≤b
 o1:∀ b,OutBlk ov L b→P.N1≤b
def EndAt (P:Par) (os:List OutS):Fpr:=fun F w=>∃ BV ov L,EndIs P w BV ov L os∧F=EndHas P ov L
theorem EndIs.lt {P:Par} {w:World} {BV:BrV} {ov:Value} {L:List (OutS×Value)} {os:List OutS} (h:EndIs P w BV ov L os) {b:Nat} (hb:EndHas P ov L b):b < w.heap.size:=by
 rcases hb with rfl | hb | ⟨o,ho,hb⟩ | rfl
 · exact blk_lt h.blk.blk
 · obtain ⟨cur,hc⟩:=own_blk h.blk.out.row hb;exact blk_lt hc
 · obtain ⟨cur,hc⟩:=own_blk (h.blk.out.dat o ho) hb;exact blk_lt hc
 · obtain ⟨cv,C,hc⟩:=h.con;exact blk_lt hc
theorem end_fit (P:Par) (os:List OutS):Fit P.N0 (EndAt P os):=by
 refine ⟨fun F G a b ⟨BV,ov,L,h,e⟩ hb hG=>⟨BV,ov,L,?_,e⟩,fun F a ⟨BV,ov,L,h,e⟩ b hb=>by subst e;exact h.lt hb⟩
 subst e
 have hk:∀ x,EndHas P ov L x→b.heap[x]?=a.heap[x]?:=fun x hx=>hb.keep x (h.lt hx) (fun g=>(hG x g).1 hx)
 refine ⟨h.gd.below (hb.below (fun b g=>(hG b g).2) h.gd.env.size),⟨(hk _ (Or.inl rfl)).trans h.blk.blk,h.blk.out.keep (fun b hx=>hk b (Or.inr (Or.inl hx))) (fun o b ho hx=>hk b (Or.inr (Or.inr (Or.inl ⟨o,ho,hx⟩))))⟩,h.los,h.cv3,?_,h.n0,h.o1⟩
 obtain ⟨cv,C,hc⟩:=h.con
 exact ⟨cv,C,(hk _ (Or.inr (Or.inr (Or.inr rfl)))).trans hc⟩
theorem One.conAt {P:Par} {w:World} {Q:OneV} {S:Ses} {R:List Msg} {os:List OutS} {wt:List UInt8} (h:One P w Q S R os) (hw:w.ownsRow 0 5 1 P.wv wt.length (u8k wt)):ConAt w P.B ((3:Nat):Int) Q.X.cv ⟨wt,0,some P.hello⟩:=
 ⟨by rw [h.ecb];exact h.con,by rw [h.ewv];exact hw,by rw [h.ecb];exact h.b1,by rw [h.ecb];exact h.b2⟩
theorem One.ended' {P:Par} {w w':World} {Q:OneV} {S:Ses} {R:List Msg} {os:List OutS} {wt:List UInt8} (h:One P w Q S R os) (hp:ShutPost w P.B 3 Q.X.sv S Q.BV Q.ov Q.L Q.X.cv ⟨wt,0,some P.hello⟩ w'):Went (EndAt P (os ++ [⟨3,[],true⟩])) (Q.has P) w w':=by
 obtain ⟨ov',h1,h2,h3,h4,h5⟩:=hp
 have hsub:∀ b,(b=Q.X.cv.sp∨OutHas P.B Q.ov b)→Q.has P b:=fun b e=>by
  rcases e with e | e
  · exact One.sub (Or.inl (Or.inl (by rw [e,h.esp])))
  · exact One.sub (Or.inr e)
 have hnew:∀ b,EndHas P ov' (Q.L ++ [(⟨((3:Nat):Int),[],true⟩,.slice none 0 0)]) b→Q.has P b∨w.heap.size≤b:=fun b e=>by
  rcases e with e | e | ⟨o,ho,e⟩ | e
  · exact Or.inl (Or.inl e)
  · rcases h5 with k | ⟨b',k,k'⟩
    · exact Or.inl (Or.inr (Or.inl (k ▸ e)))
    · rw [k] at e;cases e;exact Or.inr k'
  · rcases List.mem_append.1 ho with ho | ho
    · exact Or.inl (Or.inr (Or.inr (Or.inl ⟨o,ho,e⟩)))
    · simp only [List.mem_singleton] at ho;subst ho;cases e
  · exact Or.inl (Or.inr (Or.inr (Or.inr (Or.inr (Or.inr (Or.inr (Or.inl e)))))))
 have hout:∀ b,OutBlk ov' (Q.L ++ [(⟨((3:Nat):Int),[],true⟩,.slice none 0 0)]) b→P.N1≤b:=fun b e=>by
  rcases e with e | ⟨o,ho,e⟩
  · rcases h5 with k | ⟨b',k,k'⟩
    · exact h.o1.2 b (Or.inl (k ▸ e))
    · rw [k] at e;cases e;exact Nat.le_trans h.o1.1 k'
  · rcases List.mem_append.1 ho with ho | ho
    · exact h.o1.2 b (Or.inr ⟨o,ho,e⟩)
    · simp only [List.mem_singleton] at ho;subst ho;cases e
 refine ⟨_,⟨_,ov',_,⟨h.gd.below (h4.below (fun b e=>h.n0 b (hsub b e)) h.gd.env.size),h1,by rw [List.map_append,h.los];rfl,by simp [BrV.setCon],⟨Q.X.cv,⟨wt,0,some P.hello⟩,by rw [← h.ecb];exact h3.blk⟩,fun b e=>(hnew b e).elim (h.n0 b) (fun e=>Nat.le_trans h.gd.env.size e),hout⟩,rfl⟩,h4.wide (fun b _ e=>hsub b e),hnew⟩
theorem One.shut {P:Par} {w:World} {Q:OneV} {S:Ses} {R:List Msg} {os:List OutS} {wt:List UInt8} (h:One P w Q S R os) (hM:Mine P) (hw:w.ownsRow 0 5 1 P.wv wt.length (u8k wt)) (hL:os.length < 1000000000000) :
 Calls Tryz.prog 109 #[.pointer (some ⟨P.B,0,none⟩),.pointer (some ⟨P.cb,0,none⟩)] w fun e w'=>e=.returned (.tuple #[])∧Went (EndAt P (os ++ [⟨3,[],true⟩])) (Q.has P) w w':=by
 have:=shut_stays P.B 3 P.hello Q.X.sv S Q.BV Q.ov Q.L Q.X.cv ⟨wt,0,some P.hello⟩ w h.blk (h.conAt hw) rfl hM.cln (by rw [h.esp];exact h.ses) (by omega) (h.ll hL) ⟨_,h.cv3⟩
 rw [h.ecb] at this
 exact this.mono fun e w' ⟨h1,h2⟩=>⟨h1,h.ended' h2⟩
theorem One.cut {P:Par} {w:World} {Q:OneV} {S:Ses} {R:List Msg} {os:List OutS} {wt:List UInt8} (h:One P w Q S R os) (hM:Mine P) (hw:w.ownsRow 0 5 1 P.wv wt.length (u8k wt)) (hL:os.length < 1000000000000) :
 Calls Tryz.prog 79 #[.pointer (some ⟨P.B,0,none⟩),.pointer (some ⟨P.cb,0,none⟩)] w fun e w'=>e=.returned (.tuple #[])∧Went (EndAt P (os ++ [⟨3,[],true⟩])) (Q.has P) w w':=by
 have:=cutOff_stays P.B 3 P.hello Q.X.sv S Q.BV Q.ov Q.L Q.X.cv ⟨wt,0,some P.hello⟩ w h.blk (h.conAt hw) rfl hM.cln hM.wil (by rw [h.esp];exact h.ses) (by omega) (h.ll hL) ⟨_,h.cv3⟩
 rw [h.ecb] at this
 exact this.mono fun e w' ⟨h1,h2⟩=>⟨h1,h.ended' h2⟩
end br
end Go.Proofs.YtnmfmoimjkoieaaGreatDoor
