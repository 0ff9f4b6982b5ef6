import Derived.Test.YtnmfmoimjkoieaaGreatDoorF51
import Derived.Test.YtnmfmoimjkoieaaGreatDoorF46
import Derived.Test.YtnmfmoimjkoieaaGreatDoorF43
import Derived.Test.YtnmfmoimjkoieaaGreatDoorF47
import Derived.Test.YtnmfmoimjkoieaaGreatDoorF38
import Derived.Test.YtnmfmoimjkoieaaGreatDoorF27
import Derived.Test.YtnmfmoimjkoieaaGreatDoorF34
import Derived.Test.YtnmfmoimjkoieaaGreatDoorF39
import Derived.Test.YtnmfmoimjkoieaaGreatDoorF49
import Derived.Test.YtnmfmoimjkoieaaGreatDoorF48
namespace Go.Proofs.YtnmfmoimjkoieaaGreatDoor
namespace on
open Go.RowKit topPlain topWalks decPlain rd ew encPlain rf br kp kw
def RO (o:Option (Nat×Nat×Int)) (p:Pkt) (j:Nat):Dec:=if j=0 then (match o with
 | some x=>(pkO x,[],[])
 | none=>(p,[],[])) else (p,[],[])
theorem outsPO (o:Option (Nat×Nat×Int)) (h:∀ x,o=some x→FitO x) (p:Pkt) (hp:Goes p):OutsOk (outO o ++ [⟨((1:Nat):Int),encD p [] [],false⟩]) (RO o p) (fun _=>False):=by
 cases o with
 | none=>exact outs_one p hp 1 (by omega) _ rfl _ (fun f=>f)
 | some x =>
   have hg:=(h x rfl).goes
   refine ⟨fun j o h1=>?_,fun i j o o' h1 h2 e=>?_⟩
   · match j,h1 with
     | 0,h1 =>
       simp [outO] at h1
       subst h1
       exact ⟨rfl,hg.dec,hg.pos,hg.max,0,by omega,rfl,fun f=>f⟩
     | 1,h1 =>
       simp [outO] at h1
       subst h1
       exact ⟨rfl,hp.dec,hp.pos,hp.max,1,by omega,rfl,fun f=>f⟩
     | n+2,h1=>simp [outO] at h1
   · match i,j,h1,h2 with
     | 0,0,_,_=>rfl
     | 1,1,_,_=>rfl
     | 0,1,h1,h2=>simp [outO] at h1 h2;subst h1;subst h2;cases e
     | 1,0,h1,h2=>simp [outO] at h1 h2;subst h1;subst h2;cases e
     | n+2,_,h1,_=>simp [outO] at h1
     | 0,n+2,_,h2=>simp [outO] at h2
     | 1,n+2,_,h2=>simp [outO] at h2
theorem after_pub {N0:Nat} {ash aw:Addr} {w0 w w':World} {b lb B:Nat} {V V':LineV} {BV:BrV} {px py:Pkt} {X Y X' Y':SideV} {SX SY:Ses} {VS:StgV} {T:List Int} {O:List Pkt} {Sn:List Int} (o:Option (Nat×Nat×Int)) (p:Pkt) (hlb:lb < w.heap.size) (hV:V.got 0=.slice none 0 0) (hA:After N0 ash aw w0 w b lb B V BV px py X Y SX SY (fun _=>False) VS T O Sn (outO o ++ [⟨((1:Nat):Int),encD p [] [],false⟩]) (RO o p) w' V' X' Y') :
 Hear w' lb (V'.got 0) o∧GotP w.heap.size w' (V'.got 1) (p,[],[])∧Wh N0 ash aw w0 w' b lb B V' BV px py X' Y' SX SY (fun n=>n=0∨n=1) VS T O Sn:=by
 cases o with
 | none =>
   obtain ⟨n1,e1,hg1⟩:=hA.new 0 _ rfl
   have e1':n1=1:=by have:((1:Nat):Int)=(n1:Int):=e1;omega
   subst e1'
   refine ⟨(hA.old 0 (fun o ho=>by simp [outO] at ho;subst ho;simp)).trans hV,hg1,hA.wh.only (fun n hn=>?_)⟩
   rcases hn with hn | ⟨o,ho,e⟩
   · exact hn.elim
   · simp [outO] at ho
     subst ho
     have:(1:Int)=(n:Int):=e
     omega
 | some x =>
   obtain ⟨n0,e0,hg0⟩:=hA.new 0 _ rfl
   obtain ⟨n1,e1,hg1⟩:=hA.new 1 _ rfl
   have e0':n0=0:=by have:((0:Nat):Int)=(n0:Int):=e0;omega
   have e1':n1=1:=by have:((1:Nat):Int)=(n1:Int):=e1;omega
   subst e0' e1'
   refine ⟨Came.of hg0 hlb,hg1,hA.wh.only (fun n hn=>?_)⟩
   rcases hn with hn | ⟨o,ho,e⟩
   · exact hn.elim
   · simp [outO] at ho
     rcases ho with rfl | rfl
     · have:(0:Int)=(n:Int):=e;omega
     · have:(1:Int)=(n:Int):=e;omega
theorem Rel.sent {W Qn:Nat} {L:Led} {VS:StgV} {T:List Int} {O:List Pkt} (h:Rel W Qn L VS T O) (q s:Int) (v':Value):Rel W Qn (preP q W Qn s L) { VS with sv:=v',id:=(L.n:Int)+1 } T O:=
 ⟨h.told,h.opn,by show (L.n:Int)+1=((L.n+1:Nat):Int);omega,h.win,h.que⟩
theorem pubO_fit {q:Int} {W Qn:Nat} {Sn:List Int} {L:Led} (h:Ok q W Qn Sn L) (s:Int) (hs:s=0∨s=1∨s=2) (x:Nat×Nat×Int) (hx:pubO q W s L=some x):FitO x∧(x.2.2≠0→x.1=L.last+1):=by
 have h30:=h.n30
 have hl:=h.last
 have hq:=h.q3
 unfold pubO at hx
 by_cases he:min s q=0
 · rw [if_pos he] at hx
   cases hx
   exact ⟨⟨by show L.n < 60000;omega,Or.inl ⟨rfl,rfl⟩⟩,fun e=>(e rfl).elim⟩
 · rw [if_neg he] at hx
   by_cases hu:L.U.length < W
   · rw [if_pos hu] at hx
     cases hx
     exact ⟨⟨by show L.n < 60000;omega,Or.inr ⟨by show min s q=1∨min s q=2;omega,by show 1≤L.last+1;omega,by show L.last+1≤60000;omega⟩⟩,fun _=>rfl⟩
   · rw [if_neg hu] at hx
     cases hx
theorem see_pub {N0:Nat} {ash aw:Addr} {w0 w:World} {b lb B:Nat} {q:Int} {W Qn:Nat} {kn:List Int} {V V':LineV} {BV:BrV} {px py:Pkt} {X Y X' Y':SideV} {VS:StgV} {T:List Int} {O:List Pkt} {Sn:List Int} {L:Led} {w1:World} {v':Value} (s:Int) (hs:s=0∨s=1∨s=2) (h30:L.n < 30000) (h:StM N0 ash aw w0 b lb B q W Qn kn V BV px py X Y VS T O Sn L w) (hw:Wh N0 ash aw w0 w1 b lb B V' BV px py X' Y' (ses q W Qn (add (preP q W Qn s L) (pubO q W s L))) { newS (W:Int) Qn with known:=kn } (fun n=>n=0) { VS with sv:=v',id:=(L.n:Int)+1 } T O (Sn ++ [s])) (hh:Hear w1 lb (V'.got 0) (pubO q W s L)) :
 ∃ qa n c V2,SeesOk b lb (fun w3=>(∃ V3 VS3 T3 O3,StM N0 ash aw w0 b lb B q W Qn kn V3 BV px py X' Y' VS3 T3 O3 (Sn ++ [s]) (add (preP q W Qn s L) (pubO q W s L)) w3)∧Stays b lb { VS with sv:=v',id:=(L.n:Int)+1 } w1 w3) w1 qa n c V2:=by
 have hl:=h.rel.len
 have h8:=h.ok.win
 have h88:=h.ok.w8
 have hTl:T.length≤100000:=by rw [h.rel.told,List.length_map];have:=h.ok.cnt;omega
 obtain ⟨qa,m,c,hS⟩:=seesOpt (W:=W) (Qn:=Qn) (L:=preP q W Qn s L) (pubO q W s L) hw (fun _ e=>e) hh (fun x hx=>(pubO_fit h.ok s hs x hx).1) (h.rel.sent q s v') (fun x hx h0 u hu=>by
  have e1:=(pubO_fit h.ok s hs x hx).2 h0
  have e2:=ids_le h.ok u hu
  omega) hTl (by omega)
 refine ⟨qa,m,c,V',hS.line,hS.cell,hS.ne,hS.got,fun w2 hb2=>(hS.see w2 hb2).mono ?_⟩
 rintro e w3 ⟨rfl,V3,VS3,T3,O3,k1,k2,k3⟩
 exact ⟨rfl,⟨V3,VS3,T3,O3,k1,k2,h.ok.pub s hs h30,h.hx,h.hy,h.cv⟩,k3⟩
def Moved (N0:Nat) (ash aw:Addr) (w0:World) (b lb B:Nat) (q:Int) (W Qn:Nat) (BV:BrV) (px py:Pkt) (Sn:List Int) (L:Led) (w':World):Prop:=
 ∃ V' X' Y' VS' T' O',StM N0 ash aw w0 b lb B q W Qn [] V' BV px py X' Y' VS' T' O' Sn L w'
theorem pub_on01 {N0:Nat} {ash aw:Addr} {w0 w:World} {b lb B:Nat} {q:Int} {W Qn:Nat} {V:LineV} {BV:BrV} {px py:Pkt} {X Y:SideV} {VS:StgV} {T:List Int} {O:List Pkt} {Sn:List Int} {L:Led} (mk mq mn s:Int) (hs:s=0∨s=1) (hmk:pickN mk 6=0) (hmq:(pickN mq 3:Int)=s) (hk1:-9223372036854775808≤mk) (hk2:mk≤9223372036854775807) (hq1:-9223372036854775808≤mq) (hq2:mq≤9223372036854775807) (h30:L.n < 30000) (h:StM N0 ash aw w0 b lb B q W Qn [] V BV px py X Y VS T O Sn L w) :
 Calls Tryz.prog 26 #[.pointer (some ⟨b,0,none⟩),.agg #[.int .i64 mk,.int .i64 mq,.int .i64 mn]] w fun e w'=>e=.returned (.bool true)∧Moved N0 ash aw w0 b lb B q W Qn BV px py (Sn ++ [s]) (add (preP q W Qn s L) (pubO q W s L)) w':=by
 have hW:=h.wh
 have hs3:s=0∨s=1∨s=2:=by omega
 have hset:∀ u:World,But (fun g=>g=lb) u (u.setCell ⟨lb,2,none⟩ (.slice none 0 0)):=fun u=>But.set (F:=fun g=>g=lb) _ _ _ rfl
 have hlb:lb < w.heap.size:=hW.hall.lt (Or.inl rfl)
 refine stp1 mk mq mn s b lb L.n VS T Sn O w _ hW.stg h.rel.id (by omega) h.ok.len hmk hmq hs hk1 hk2 hq1 hq2 ?_
 intro w1 v' hM
 have hW1:=hW.mid hM
 have hs1:=hM.but.size
 have hfin:∀ {w2:World} {V2:LineV} {X2 Y2:SideV},Wh N0 ash aw w0 w2 b lb B V2 BV px py X2 Y2 (ses q W Qn (add (preP q W Qn s L) (pubO q W s L))) { newS (W:Int) Qn with known:=[] } (fun n=>n=0∨n=1) { VS with sv:=v',id:=(L.n:Int)+1 } T O (Sn ++ [s])→Hear w2 lb (V2.got 0) (pubO q W s L)→(w2.setCell ⟨lb,2,none⟩ (.slice none 0 0)).cell? ⟨b,4,none⟩=w1.cell? ⟨b,4,none⟩∧(w2.setCell ⟨lb,2,none⟩ (.slice none 0 0)).cell? ⟨b,5,none⟩=w1.cell? ⟨b,5,none⟩∧∃ qa n c V',SeesOk b lb (Moved N0 ash aw w0 b lb B q W Qn BV px py (Sn ++ [s]) (add (preP q W Qn s L) (pubO q W s L))) (w2.setCell ⟨lb,2,none⟩ (.slice none 0 0)) qa n c V':=fun {w2 V2 X2 Y2} hW2 hH=>by
  have hW3:=(hW2.seen 1 (by omega)).only (G':=fun n=>n=0) (fun n hn=>hn.1.elim id (fun e=>(hn.2 e).elim))
  refine ⟨?_,?_,?_⟩
  · rw [show (w2.setCell ⟨lb,2,none⟩ (.slice none 0 0)).cell? ⟨b,4,none⟩=_ from blk_cell hW3.stg.blk (i:=4) rfl,show w1.cell? ⟨b,4,none⟩=_ from blk_cell hM.stg.blk (i:=4) rfl]
  · rw [show (w2.setCell ⟨lb,2,none⟩ (.slice none 0 0)).cell? ⟨b,5,none⟩=_ from blk_cell hW3.stg.blk (i:=5) rfl,show w1.cell? ⟨b,5,none⟩=_ from blk_cell hM.stg.blk (i:=5) rfl]
  · obtain ⟨qa,n,c,V4,hS⟩:=see_pub (v':=v') s hs3 h30 h hW3 (hH.but (hset w2) (fun g c hg e=>hW2.notPkt g c hg (Or.inl e)))
    refine ⟨qa,n,c,V4,hS.line,hS.cell,hS.ne,hS.got,fun w5 hb5=>(hS.see w5 hb5).mono ?_⟩
    rintro e w6 ⟨rfl,⟨V6,VS6,T6,O6,k⟩,_⟩
    exact ⟨rfl,V6,X2,Y2,VS6,T6,O6,k⟩
 rcases hs with rfl | rfl
 · refine (spoken0 b lb ((L.n:Int)+1) (numB L.n) w1 (fun w2=>∃ V2 X2 Y2,Wh N0 ash aw w0 w2 b lb B V2 BV px py X2 Y2 (ses q W Qn (add (preP q W Qn 0 L) (pubO q W 0 L))) { newS (W:Int) Qn with known:=[] } (fun n=>n=0∨n=1) { VS with sv:=v',id:=(L.n:Int)+1 } T O (Sn ++ [0])∧Hear w2 lb (V2.got 0) (pubO q W 0 L)) hW1.cell0 ?_).mono ?_
   · intro w2 hb2
     have hW2:=hW1.below hb2
     have hs2:=hb2.size
     refine (send_one (msgP 0 0 (numB L.n)) _ (fun _=>(pkO ((pubO q W 0 L).getD (0,0,0)),[],[])) w2 hW2 rfl rfl (on.goes_msg0 L.n) (outs0 _ (fun x hx=>(pubO_fit h.ok 0 hs3 x hx).1)) (fun w3 g c hh hx=>feedP0L h.ok [] hh g c hx)).mono ?_
     rintro e w3 ⟨rfl,V3,X3,Y3,hA⟩
     obtain ⟨hH0,hw3⟩:=hear0 (pubO q W 0 L) (by omega) (hW2.hall.line.got 0 (fun f=>f)) hA
     refine ⟨rfl,⟨V3,X3,Y3,hw3.only (fun n hn=>Or.inl hn),hH0⟩,hA.wh.cell0,V3,hA.wh.hall.line.line,?_⟩
     exact hw3.hall.line.got 1 (by omega)
   · rintro e w3 ⟨w2,rfl,⟨V2,X2,Y2,hW2,hH0⟩,rfl⟩
     exact ⟨rfl,hfin hW2 hH0⟩
 · refine (spoken1 b lb ((L.n:Int)+1) (numB L.n) w1 (fun w2=>∃ V2 X2 Y2,Wh N0 ash aw w0 w2 b lb B V2 BV px py X2 Y2 (ses q W Qn (add (preP q W Qn 1 L) (pubO q W 1 L))) { newS (W:Int) Qn with known:=[] } (fun n=>n=0∨n=1) { VS with sv:=v',id:=(L.n:Int)+1 } T O (Sn ++ [1])∧Hear w2 lb (V2.got 0) (pubO q W 1 L)) hW1.cell0 ?_).mono ?_
   · intro w2 hb2
     have hW2:=hW1.below hb2
     have hs2:=hb2.size
     refine (send_one (msgP 1 ((L.n:Int)+1) (numB L.n)) _ _ w2 hW2 rfl rfl (on.goes_msg false 1 (by omega) _ (by omega) (by omega) L.n) (outsPO _ (fun x hx=>(pubO_fit h.ok 1 hs3 x hx).1) _ (on.goes_ack 4 (by omega) ((L.n:Int)+1) (by omega) (by omega))) (fun w3 g c hh hx=>feedP1L h.ok [] hh g c hx)).mono ?_
     rintro e w3 ⟨rfl,V3,X3,Y3,hA⟩
     obtain ⟨hH0,hG1,hw3⟩:=after_pub (pubO q W 1 L) _ (by omega) (hW2.hall.line.got 0 (fun f=>f)) hA
     exact ⟨rfl,⟨V3,X3,Y3,hw3,hH0⟩,hA.wh.cell0,heardK hA.wh.hall.line.line hG1 (by omega)⟩
   · rintro e w3 ⟨w2,rfl,⟨V2,X2,Y2,hW2,hH0⟩,rfl⟩
     exact ⟨rfl,hfin hW2 hH0⟩
structure Half (N0:Nat) (ash aw:Addr) (w0:World) (b lb B:Nat) (q:Int) (W Qn:Nat) (BV:BrV) (px py:Pkt) (VS:StgV) (v':Value) (T:List Int) (O:List Pkt) (Sn:List Int) (L:Led) (V2:LineV) (X2 Y2:SideV) (w2:World):Prop where
 wh:Wh N0 ash aw w0 w2 b lb B V2 BV px py X2 Y2 (ses q W Qn (add (preP q W Qn 2 L) (pubO q W 2 L))) { newS (W:Int) Qn with known:=[(L.n:Int)+1] } (fun n=>n=0) { VS with sv:=v',id:=(L.n:Int)+1 } T O (Sn ++ [2])
 hear:Hear w2 lb (V2.got 0) (pubO q W 2 L)
theorem Half.below {N0:Nat} {ash aw:Addr} {w0:World} {b lb B:Nat} {q:Int} {W Qn:Nat} {BV:BrV} {px py:Pkt} {VS:StgV} {v':Value} {T:List Int} {O:List Pkt} {Sn:List Int} {L:Led} {V2:LineV} {X2 Y2:SideV} {w2 w3:World} (h:Half N0 ash aw w0 b lb B q W Qn BV px py VS v' T O Sn L V2 X2 Y2 w2) (hb:Below w2.heap.size w2 w3):Half N0 ash aw w0 b lb B q W Qn BV px py VS v' T O Sn L V2 X2 Y2 w3:=
 ⟨h.wh.below hb,h.hear.but (F:=fun _=>False) (But.of_below hb) (fun _ _ _ f=>f)⟩
theorem rel_on {N0:Nat} {ash aw:Addr} {w0 w:World} {b lb B:Nat} {q:Int} {W Qn:Nat} {V:LineV} {BV BV0:BrV} {px py px0 py0:Pkt} {X Y:SideV} {VS:StgV} {T:List Int} {O:List Pkt} {Sn:List Int} {L:Led} {v':Value} {V2:LineV} {X2 Y2:SideV} {w2:World} (h30:L.n < 30000) (h:StM N0 ash aw w0 b lb B q W Qn [] V BV0 px0 py0 X Y VS T O Sn L w) (hx:HelloOf px [99]) (hy:HelloOf py [100]) (hcv:∀ j,2≤j→BV.cv j=.pointer none) (hH:Half N0 ash aw w0 b lb B q W Qn BV px py VS v' T O Sn L V2 X2 Y2 w2) :
 Calls Tryz.prog 50 #[.pointer (some ⟨lb,0,none⟩),.int .i64 1,.agg (pkK (ackK 6 ((L.n:Int)+1)))] w2 fun e w4=>e=.returned (.tuple #[])∧w4.cell? ⟨b,0,none⟩=some (.pointer (some ⟨lb,0,none⟩))∧w4.cell? ⟨b,5,none⟩=some (.int .i64 ((L.n:Int)+1))∧∃ g cap V4,HeardK w4 lb 1 g cap V4 7 ((L.n:Int)+1)∧∃ qa n c V',SeesOk b lb (fun w5=>Moved N0 ash aw w0 b lb B q W Qn BV px py (Sn ++ [2]) (add (preP q W Qn 2 L) (pubO q W 2 L)) w5∧w5.cell? ⟨g,0,none⟩=some (.int .i64 7)) (w4.setCell ⟨lb,2,none⟩ (.slice none 0 0)) qa n c V':=by
 have hl2:lb < w2.heap.size:=hH.wh.hall.lt (Or.inl rfl)
 refine (send_one (ackK 6 ((L.n:Int)+1)) [⟨((1:Nat):Int),encD (compS ((L.n:Int)+1)) [] [],false⟩] (fun _=>(compS ((L.n:Int)+1),[],[])) w2 hH.wh rfl rfl (on.goes_ack 6 (by omega) _ (by omega) (by omega)) (outs_one _ (on.goes_ack 7 (by omega) ((L.n:Int)+1) (by omega) (by omega)) 1 (by omega) _ rfl _ (by omega)) (fun w5 g c hh hx=>feedRL L.n (by omega) hh g c hx)).mono ?_
 rintro e w5 ⟨rfl,V5,X5,Y5,hA⟩
 obtain ⟨n1,e1,hg1⟩:=hA.new 0 _ rfl
 have e1':n1=1:=by have:((1:Nat):Int)=(n1:Int):=e1;omega
 subst e1'
 have hold:V5.got 0=V2.got 0:=hA.old 0 (fun o ho=>by simp at ho;subst ho;simp)
 have hH5:Hear w5 lb (V5.got 0) (pubO q W 2 L):=by rw [hold];exact hH.hear.but hA.but (fun g c hg=>hH.wh.notPkt g c hg)
 have hset:But (fun g=>g=lb) w5 (w5.setCell ⟨lb,2,none⟩ (.slice none 0 0)):=But.set (F:=fun g=>g=lb) _ _ _ rfl
 have hW6:=(hA.wh.seen 1 (by omega)).only (G':=fun n=>n=0) (fun n hn=>by
  rcases hn with ⟨hn | ⟨o,ho,e⟩,hn1⟩
  · exact hn
  · simp at ho;subst ho
    exact (hn1 (by have:((1:Nat):Int)=(n:Int):=e;omega)).elim)
 obtain ⟨g,cap,fv,cv,k1,hgN,hc1,hcm,hcell,_,_⟩:=hg1.at
 have h0:w5.cell? ⟨g,0,none⟩=some (.int .i64 7):=hcell 0 _ rfl
 have hgl:g≠lb:=by omega
 have hg5:g < w5.heap.size:=cell_blt h0
 refine ⟨rfl,hA.wh.cell0,blk_cell hA.wh.stg.blk rfl,g,cap,V5,⟨hA.wh.hall.line.line,k1,hc1,hcm,h0,hcell 12 _ rfl,hgl⟩,?_⟩
 have hM:StM N0 ash aw w0 b lb B q W Qn [] V BV0 px0 py0 X Y VS T O Sn L w:=h
 have hl:=h.rel.len
 have h8:=h.ok.win
 have h88:=h.ok.w8
 have hTl:T.length≤100000:=by rw [h.rel.told,List.length_map];have:=h.ok.cnt;omega
 obtain ⟨qa,m,c,hS⟩:=seesOpt (W:=W) (Qn:=Qn) (L:=preP q W Qn 2 L) (pubO q W 2 L) hW6 (fun _ e=>e) (hH5.but hset (fun g c hg e=>hA.wh.notPkt g c hg (Or.inl e))) (fun x hx=>(pubO_fit h.ok 2 (by omega) x hx).1) (h.rel.sent q 2 v') (fun x hx h0 u hu=>by
  have e1:=(pubO_fit h.ok 2 (by omega) x hx).2 h0
  have e2:=ids_le h.ok u hu
  omega) hTl (by omega)
 refine ⟨qa,m,c,_,hS.line,hS.cell,hS.ne,hS.got,fun w7 hb7=>(hS.see w7 hb7).mono ?_⟩
 rintro e w8 ⟨rfl,V8,VS8,T8,O8,j1,j2,j3⟩
 refine ⟨rfl,⟨V8,X5,Y5,VS8,T8,O8,j1,j2,h.ok.pub 2 (by omega) h30,hx,hy,hcv⟩,?_⟩
 have hs6:(w5.setCell ⟨lb,1+1,none⟩ (.slice none 0 0)).heap.size=w5.heap.size:=by simp
 rw [World.cell?_of_block (w:=w5) ((j3 g (by rw [hs6];exact hg5) hgl (fun e=>by have:=hH.wh.stg.lt e;omega)).trans (Below.heap_setCell _ _ _ _ (fun e=>hgl e)))]
 exact h0
theorem half_on {N0:Nat} {ash aw:Addr} {w0 w:World} {b lb B:Nat} {q:Int} {W Qn:Nat} {V:LineV} {BV:BrV} {px py:Pkt} {X Y:SideV} {VS:StgV} {T:List Int} {O:List Pkt} {Sn:List Int} {L:Led} (h30:L.n < 30000) (h:StM N0 ash aw w0 b lb B q W Qn [] V BV px py X Y VS T O Sn L w) (w1:World) (v':Value) (hM:Mid b VS T Sn O 2 L.n w w1 v') :
 Calls Tryz.prog 61 #[.pointer (some ⟨b,0,none⟩),.int .i64 2,.int .i64 ((L.n:Int)+1),.string (bs (numB L.n))] w1 fun e w2=>e=.returned (.bool true)∧(∃ V2 X2 Y2,Half N0 ash aw w0 b lb B q W Qn BV px py VS v' T O Sn L V2 X2 Y2 w2)∧w2.cell? ⟨b,4,none⟩=w1.cell? ⟨b,4,none⟩∧w2.cell? ⟨b,5,none⟩=w1.cell? ⟨b,5,none⟩∧w2.cell? ⟨b,0,none⟩=some (.pointer (some ⟨lb,0,none⟩))∧∀ g,w.heap.size≤g→g < w1.heap.size→w2.heap[g]?=w1.heap[g]?:=by
 have hW:=h.wh
 have hW1:=hW.mid hM
 have hs1:=hM.but.size
 have hlb:lb < w.heap.size:=hW.hall.lt (Or.inl rfl)
 refine (spoken2 b lb ((L.n:Int)+1) (numB L.n) w1 (fun w2=>(∃ V2 X2 Y2,Wh N0 ash aw w0 w2 b lb B V2 BV px py X2 Y2 (ses q W Qn (add (preP q W Qn 2 L) (pubO q W 2 L))) { newS (W:Int) Qn with known:=[(L.n:Int)+1] } (fun n=>n=0∨n=1) { VS with sv:=v',id:=(L.n:Int)+1 } T O (Sn ++ [2])∧Hear w2 lb (V2.got 0) (pubO q W 2 L))∧∀ g,w.heap.size≤g→g < w1.heap.size→w2.heap[g]?=w1.heap[g]?) hW1.cell0 ?_).mono ?_
 · intro w2 hb2
   have hW2:=hW1.below hb2
   have hs2:=hb2.size
   refine (send_one (msgP 2 ((L.n:Int)+1) (numB L.n)) _ _ w2 hW2 rfl rfl (on.goes_msg false 2 (by omega) _ (by omega) (by omega) L.n) (outsPO _ (fun x hx=>(pubO_fit h.ok 2 (by omega) x hx).1) _ (on.goes_ack 5 (by omega) ((L.n:Int)+1) (by omega) (by omega))) (fun w3 g c hh hx=>feedP2L h.ok hh g c hx)).mono ?_
   rintro e w3 ⟨rfl,V3,X3,Y3,hA⟩
   obtain ⟨hH0,hG1,hw3⟩:=after_pub (pubO q W 2 L) _ (by omega) (hW2.hall.line.got 0 (fun f=>f)) hA
   refine ⟨rfl,⟨⟨V3,X3,Y3,hw3,hH0⟩,fun g hg hg1=>?_⟩,hA.wh.cell0,heardK hA.wh.hall.line.line hG1 (by omega)⟩
   rw [hA.but.keep g (by omega) (fun i=>by have:=hW.hall.lt i;omega),hb2.block g hg1]
 · rintro e w3 ⟨w2,rfl,⟨⟨V2,X2,Y2,hW2,hH0⟩,hkp⟩,rfl⟩
   have hW3:=(hW2.seen 1 (by omega)).only (G':=fun n=>n=0) (fun n hn=>hn.1.elim id (fun e=>(hn.2 e).elim))
   have hset:But (fun g=>g=lb) w2 (w2.setCell ⟨lb,2,none⟩ (.slice none 0 0)):=But.set (F:=fun g=>g=lb) _ _ _ rfl
   refine ⟨rfl,⟨_,X2,Y2,hW3,hH0.but hset (fun g c hg e=>hW2.notPkt g c hg (Or.inl e))⟩,?_,?_,hW3.cell0,fun g hg hg1=>?_⟩
   · rw [show (w2.setCell ⟨lb,2,none⟩ (.slice none 0 0)).cell? ⟨b,4,none⟩=_ from blk_cell hW3.stg.blk (i:=4) rfl,show w1.cell? ⟨b,4,none⟩=_ from blk_cell hM.stg.blk (i:=4) rfl]
   · rw [show (w2.setCell ⟨lb,2,none⟩ (.slice none 0 0)).cell? ⟨b,5,none⟩=_ from blk_cell hW3.stg.blk (i:=5) rfl,show w1.cell? ⟨b,5,none⟩=_ from blk_cell hM.stg.blk (i:=5) rfl]
   · rw [Below.heap_setCell _ _ _ _ (fun e=>by have e':g=lb:=e;omega)]
     exact hkp g hg hg1
theorem pub_on2 {N0:Nat} {ash aw:Addr} {w0 w:World} {b lb B:Nat} {q:Int} {W Qn:Nat} {V:LineV} {BV:BrV} {px py:Pkt} {X Y:SideV} {VS:StgV} {T:List Int} {O:List Pkt} {Sn:List Int} {L:Led} (mk mq mn:Int) (hmk:pickN mk 6=0) (hmq:pickN mq 3=2) (hk1:-9223372036854775808≤mk) (hk2:mk≤9223372036854775807) (hq1:-9223372036854775808≤mq) (hq2:mq≤9223372036854775807) (h30:L.n < 30000) (h:StM N0 ash aw w0 b lb B q W Qn [] V BV px py X Y VS T O Sn L w) :
 Calls Tryz.prog 26 #[.pointer (some ⟨b,0,none⟩),.agg #[.int .i64 mk,.int .i64 mq,.int .i64 mn]] w fun e w'=>e=.returned (.bool true)∧Moved N0 ash aw w0 b lb B q W Qn BV px py (Sn ++ [2]) (add (preP q W Qn 2 L) (pubO q W 2 L)) w':=by
 refine stp2 mk mq mn b lb L.n VS T Sn O w _ h.wh.stg h.rel.id (by omega) h.ok.len hmk hmq hk1 hk2 hq1 hq2 ?_
 intro w1 v' hM
 refine (half_on h30 h w1 v' hM).mono ?_
 rintro e w2 ⟨rfl,⟨V2,X2,Y2,hH⟩,c4,c5,c0,_⟩
 refine ⟨rfl,c4,c5,c0,fun w3 hb3=>(rel_on h30 h h.hx h.hy h.cv (hH.below hb3)).mono ?_⟩
 rintro e w4 ⟨rfl,d0,d5,g,cap,V4,hHd,qa,n,c,V',hS⟩
 exact ⟨rfl,d0,d5,⟨g,cap,V4,hHd⟩,qa,n,c,V',hS.line,hS.cell,hS.ne,hS.got,fun w7 hb7=>(hS.see w7 hb7).mono (fun e w8 k=>⟨k.1,k.2.1⟩)⟩
theorem half_again {N0:Nat} {ash aw:Addr} {w0:World} {b lb B:Nat} {q:Int} {W Qn:Nat} {BV:BrV} {px py:Pkt} {VS:StgV} {v':Value} {T:List Int} {O:List Pkt} {Sn:List Int} {L:Led} {V2:LineV} {X2 Y2:SideV} {w1:World} (h30:L.n < 30000) (hH:Half N0 ash aw w0 b lb B q W Qn BV px py VS v' T O Sn L V2 X2 Y2 w1) :
 Calls Tryz.prog 61 #[.pointer (some ⟨b,0,none⟩),.int .i64 2,.int .i64 ((L.n:Int)+1),.string (bs (numB L.n))] w1 fun e w2=>e=.returned (.bool true)∧∃ V3 X3 Y3,Half N0 ash aw w0 b lb B q W Qn BV px py VS v' T O Sn L V3 X3 Y3 w2:=by
 refine (spoken2 b lb ((L.n:Int)+1) (numB L.n) w1 (fun w2=>∃ V3 X3 Y3,Wh N0 ash aw w0 w2 b lb B V3 BV px py X3 Y3 (ses q W Qn (add (preP q W Qn 2 L) (pubO q W 2 L))) { newS (W:Int) Qn with known:=[(L.n:Int)+1] } (fun n=>n=0∨n=1) { VS with sv:=v',id:=(L.n:Int)+1 } T O (Sn ++ [2])∧Hear w2 lb (V3.got 0) (pubO q W 2 L)) hH.wh.cell0 ?_).mono ?_
 · intro w2 hb2
   have hH2:=hH.below hb2
   have hl2:lb < w2.heap.size:=hH2.wh.hall.lt (Or.inl rfl)
   refine (send_one (msgP 2 ((L.n:Int)+1) (numB L.n)) [⟨((1:Nat):Int),encD (recS ((L.n:Int)+1)) [] [],false⟩] (fun _=>(recS ((L.n:Int)+1),[],[])) w2 hH2.wh rfl rfl (on.goes_msg false 2 (by omega) _ (by omega) (by omega) L.n) (outs_one _ (on.goes_ack 5 (by omega) ((L.n:Int)+1) (by omega) (by omega)) 1 (by omega) _ rfl _ (by omega)) (fun w3 g c hh hx=>feedPKL L.n (by omega) hh g c hx)).mono ?_
   rintro e w3 ⟨rfl,V3,X3,Y3,hA⟩
   obtain ⟨n1,e1,hg1⟩:=hA.new 0 _ rfl
   have e1':n1=1:=by have:((1:Nat):Int)=(n1:Int):=e1;omega
   subst e1'
   have hold:V3.got 0=V2.got 0:=hA.old 0 (fun o ho=>by simp at ho;subst ho;simp)
   refine ⟨rfl,⟨V3,X3,Y3,hA.wh.only (fun n hn=>?_),by rw [hold];exact hH2.hear.but hA.but (fun g c hg=>hH2.wh.notPkt g c hg)⟩,hA.wh.cell0,heardK hA.wh.hall.line.line hg1 hl2⟩
   rcases hn with hn | ⟨o,ho,e⟩
   · exact Or.inl hn
   · simp at ho
     subst ho
     have:(1:Int)=(n:Int):=e
     omega
 · rintro e w3 ⟨w2,rfl,⟨V3,X3,Y3,hW2,hH0⟩,rfl⟩
   have hset:But (fun g=>g=lb) w2 (w2.setCell ⟨lb,2,none⟩ (.slice none 0 0)):=But.set (F:=fun g=>g=lb) _ _ _ rfl
   exact ⟨rfl,_,X3,Y3,(hW2.seen 1 (by omega)).only (G':=fun n=>n=0) (fun n hn=>hn.1.elim id (fun e=>(hn.2 e).elim)),hH0.but hset (fun g c hg e=>hW2.notPkt g c hg (Or.inl e))⟩
def HalfD (N0:Nat) (ash aw:Addr) (w0:World) (b lb B:Nat) (q:Int) (W Qn:Nat) (px:Pkt) (VS:StgV) (T:List Int) (O:List Pkt) (Sn:List Int) (L:Led) (v':Value) (w:World):Prop:=
 ∃ BV py V2 X2 Y2,Half N0 ash aw w0 b lb B q W Qn BV px py VS v' T O Sn L V2 X2 Y2 w∧HelloOf py [100]∧∀ j,2≤j→BV.cv j=.pointer none
theorem twice_on {N0:Nat} {ash aw:Addr} {w0 w:World} {b lb B:Nat} {q:Int} {W Qn:Nat} {V:LineV} {BV:BrV} {px py:Pkt} {X Y:SideV} {VS:StgV} {T:List Int} {O:List Pkt} {Sn:List Int} {L:Led} (five:Bool) (mk mq mn:Int) (hmk:pickN mk 6=(if five then 5 else 3)) (hk1:-9223372036854775808≤mk) (hk2:mk≤9223372036854775807) (h30:L.n < 30000) (h:StM N0 ash aw w0 b lb B q W Qn [] V BV px py X Y VS T O Sn L w) (Qa:Value→Value→World→Prop) (Qb:Value→World→Prop)
 (h5:Five five true→∀ v,Again1 b lb B (HalfD N0 ash aw w0 b lb B q W Qn px VS T O Sn L v) (HalfD N0 ash aw w0 b lb B q W Qn px VS T O Sn L v) (Qa v) (Qb v)) :
 Calls Tryz.prog 26 #[.pointer (some ⟨b,0,none⟩),.agg #[.int .i64 mk,.int .i64 mq,.int .i64 mn]] w fun e w'=>e=.returned (.bool true)∧∃ BV' py',Moved N0 ash aw w0 b lb B q W Qn BV' px py' (Sn ++ [2]) (add (preP q W Qn 2 L) (pubO q W 2 L)) w':=by
 refine stpT five mk mq mn b lb B L.n VS T Sn O w (HalfD N0 ash aw w0 b lb B q W Qn px VS T O Sn L) (HalfD N0 ash aw w0 b lb B q W Qn px VS T O Sn L) Qa Qb _ h.wh.stg h.rel.id (by omega) h.ok.len hmk hk1 hk2 ?_ ?_ (fun _ v w1 hq=>hq) h5 ?_ ?_ ?_
 · intro w1 v' hM
   refine (half_on h30 h w1 v' hM).mono ?_
   rintro e w2 ⟨rfl,⟨V2,X2,Y2,hH⟩,c4,c5,c0,hkp⟩
   exact ⟨rfl,⟨BV,py,V2,X2,Y2,hH,h.hy,h.cv⟩,c4,c5,c0,hkp⟩
 · rintro v w1 w2 ⟨BV2,py2,V2,X2,Y2,hH,k1,k2⟩ hb
   exact ⟨BV2,py2,V2,X2,Y2,hH.below hb,k1,k2⟩
 · rintro v w1 ⟨BV2,py2,V2,X2,Y2,hH,k1,k2⟩
   exact ⟨blk_cell hH.wh.stg.blk rfl,blk_cell hH.wh.stg.blk rfl,hH.wh.cell0⟩
 · rintro v w1 w2 ⟨BV2,py2,V2,X2,Y2,hH,k1,k2⟩ hb
   exact ⟨BV2,py2,V2,X2,Y2,hH.below hb,k1,k2⟩
 · rintro v w1 ⟨BV2,py2,V2,X2,Y2,hH,k1,k2⟩
   refine (half_again h30 hH).mono ?_
   rintro e w2 ⟨rfl,V3,X3,Y3,hH3⟩
   refine ⟨rfl,⟨blk_cell hH3.wh.stg.blk rfl,blk_cell hH3.wh.stg.blk rfl,hH3.wh.cell0⟩,fun w3 hb3=>(rel_on h30 h h.hx k1 k2 (hH3.below hb3)).mono ?_⟩
   rintro e w4 ⟨rfl,d0,d5,g,cap,V4,hHd,qa,n,c,V',hS⟩
   exact ⟨rfl,d0,d5,g,cap,V4,hHd,qa,n,c,V',hS.line,hS.cell,hS.ne,hS.got,fun w7 hb7=>(hS.see w7 hb7).mono (fun e w8 k=>⟨k.1,⟨BV2,py2,k.2.1⟩,k.2.2⟩)⟩
end on
namespace on
open Go.RowKit topPlain topWalks decPlain rd ew encPlain rf br
structure Gone (N0:Nat) (ash aw:Addr) (w:World) (lb B kx ky:Nat) (V:LineV) (BV:BrV) (D:DataW Unit) (py:Pkt) (X Y:SideV) (SX SY:Ses) (G:Nat→Prop):Prop where
 room:Room N0 ash aw w B BV 2 D
 line:LineAt w lb V
 lb0:N0≤lb
 lbb:V.b=B
 bad:V.bad=false
 off:∀ n,n≠kx→V.off n=false
 got:∀ n,¬ G n→V.got n=.slice none 0 0
 ses:SesAt w X.cv.sp { X.sv with snd:=none } SX
 sy:Side w B ky Y py SY
 x0:∀ g,X.sv.has X.cv.sp g→N0≤g
 y0:∀ g,Y.has g→N0≤g
 xm:X.sv.kb≠BV.mb
 ym:Y.sv.kb≠BV.mb
 dis:∀ g,X.sv.has X.cv.sp g→¬ Y.has g
 vx:BV.cv kx=.pointer none
 vy:BV.cv ky=.pointer (some ⟨Y.cv.cb,0,none⟩)
def InGone (lb B mb:Nat) (X Y:SideV) (g:Nat):Prop:=g=lb∨g=B∨g=mb∨X.sv.has X.cv.sp g∨Y.has g
theorem Gone.lt {N0:Nat} {ash aw:Addr} {w:World} {lb B kx ky:Nat} {V:LineV} {BV:BrV} {D:DataW Unit} {py:Pkt} {X Y:SideV} {SX SY:Ses} {G:Nat→Prop} (h:Gone N0 ash aw w lb B kx ky V BV D py X Y SX SY G) {g:Nat} (hg:InGone lb B BV.mb X Y g):g < w.heap.size:=by
 rcases hg with rfl | rfl | rfl | hg | hg
 · have:w.heap[g]?=some (.cells (lineC V) 60):=h.line
   exact blk_lt this
 · exact blk_lt h.room.blk.blk
 · obtain ⟨es,cl,hm⟩:=map_blk h.room.map;exact blk_lt hm
 · exact h.ses.lt hg
 · exact h.sy.lt hg
theorem Gone.old {N0:Nat} {ash aw:Addr} {w:World} {lb B kx ky:Nat} {V:LineV} {BV:BrV} {D:DataW Unit} {py:Pkt} {X Y:SideV} {SX SY:Ses} {G:Nat→Prop} (h:Gone N0 ash aw w lb B kx ky V BV D py X Y SX SY G) (g:Nat) (hg:InGone lb B BV.mb X Y g):N0≤g:=by
 rcases hg with rfl | rfl | rfl | hg | hg
 · exact h.lb0
 · exact h.room.B0
 · exact h.room.mb0
 · exact h.x0 g hg
 · exact h.y0 g hg
theorem Gone.apart {N0:Nat} {ash aw:Addr} {w:World} {lb B kx ky:Nat} {V:LineV} {BV:BrV} {D:DataW Unit} {py:Pkt} {X Y:SideV} {SX SY:Ses} {G:Nat→Prop} (h:Gone N0 ash aw w lb B kx ky V BV D py X Y SX SY G):B≠lb∧BV.mb≠lb∧BV.mb≠B∧¬ X.sv.has X.cv.sp lb∧¬ Y.has lb∧¬ X.sv.has X.cv.sp B∧¬ Y.has B∧¬ X.sv.has X.cv.sp BV.mb∧¬ Y.has BV.mb:=by
 have hl:w.heap[lb]?=some (.cells (lineC V) 60):=h.line
 obtain ⟨nB,nM,nMB⟩:=h.room.lb_ne h.line
 obtain ⟨es,cl,hmb⟩:=map_blk h.room.map
 exact ⟨nB,nM,nMB,h.ses.not hl (by decide),h.sy.not hl (by decide) (by decide),h.ses.not h.room.blk.blk (by decide),h.sy.notB h.room.blk.blk,h.ses.notMap hmb (fun e=>h.xm e.symm),h.sy.notMap hmb (fun e=>h.ym e.symm)⟩
theorem Gone.but {F:Nat→Prop} {N0:Nat} {ash aw:Addr} {w w':World} {lb B kx ky:Nat} {V V':LineV} {BV:BrV} {D:DataW Unit} {py:Pkt} {X Y:SideV} {SX SY:Ses} {G G':Nat→Prop} (h:Gone N0 ash aw w lb B kx ky V BV D py X Y SX SY G) (hb:But F w w') (hF:∀ g,F g→N0≤g∧(g=lb∨¬ InGone lb B BV.mb X Y g)) (hl:LineAt w' lb V') (h1:V'.b=V.b) (h2:V'.bad=false) (h3:∀ n,n≠kx→V'.off n=false) (h4:∀ n,¬ G' n→V'.got n=.slice none 0 0):Gone N0 ash aw w' lb B kx ky V' BV D py X Y SX SY G':=by
 obtain ⟨nB,nM,nMB,nX,nY,_⟩:=h.apart
 have hn:∀ g,InGone lb B BV.mb X Y g→g≠lb→¬ F g:=fun g hg hne e=>by
  rcases (hF g e).2 with e1 | e1
  · exact hne e1
  · exact e1 hg
 refine ⟨h.room.but hb (hn B (Or.inr (Or.inl rfl)) nB) (hn BV.mb (Or.inr (Or.inr (Or.inl rfl))) nM) (fun g e=>(hF g e).1),hl,h.lb0,h1.trans h.lbb,h2,h3,h4,h.ses.but hb (fun g hg=>hn g (Or.inr (Or.inr (Or.inr (Or.inl hg)))) (fun e=>nX (e ▸ hg))),h.sy.but hb (fun g hg=>hn g (Or.inr (Or.inr (Or.inr (Or.inr hg)))) (fun e=>nY (e ▸ hg))),h.x0,h.y0,h.xm,h.ym,h.dis,h.vx,h.vy⟩
theorem gone_close {N0:Nat} {ash aw:Addr} {w:World} {lb B kx ky:Nat} {V:LineV} {BV:BrV} {D:DataW Unit} {px py:Pkt} {X Y:SideV} {SX SY:Ses} {G:Nat→Prop} (H:Hall2 N0 ash aw w lb B kx ky V BV 2 D px py X Y SX SY G) (hk:kx < 8) (hxy:ky≠kx) (hcl:px.clean=false) (hwl:px.will=false) :
 Calls Tryz.prog 52 #[.pointer (some ⟨B,0,none⟩),.int .i64 (kx:Int)] w fun e w1=>∃ ov,e=.returned (.tuple #[ov,.int .i64 0])∧OutsAt w1 ov [(⟨(kx:Int),[],true⟩,.slice none 0 0)]∧Gone N0 ash aw w1 lb B kx ky V (BV.setCon kx (.pointer none)) D py X Y SX SY G∧But (fun g=>g=X.cv.sp∨g=B) w w1:=by
 have hl:w.heap[lb]?=some (.cells (lineC V) 60):=H.line.line
 obtain ⟨nB,nM,nMB⟩:=H.room.lb_ne H.line.line
 obtain ⟨es,cl,hmb⟩:=map_blk H.room.map
 have hsp:X.has X.cv.sp:=Or.inr (Or.inl (Or.inl rfl))
 have nlS:lb≠X.cv.sp:=fun e=>H.sx.not hl (by decide) (by decide) (e ▸ hsp)
 have nmS:BV.mb≠X.cv.sp:=fun e=>H.sx.notMap hmb (fun e=>H.xm e.symm) (e ▸ hsp)
 refine (close_stays B kx px X.sv SX BV X.cv ⟨[],0,some px⟩ w H.room.blk H.sx.con rfl hcl hwl H.sx.ses hk H.vx).mono ?_
 rintro e w1 ⟨ov,rfl,hO,hb,hs,hbut,hov⟩
 have hF0:∀ g,(g=X.cv.sp∨g=B)→N0≤g:=fun g e=>by
  rcases e with rfl | rfl
  · exact H.x0 _ hsp
  · exact H.room.B0
 refine ⟨ov,rfl,hO,⟨⟨H.room.gd.below (hbut.below hF0 H.room.gd.env.size),hb,H.room.B0,H.room.mb0,H.room.clk,H.room.win,H.room.que,H.room.rv,map_keep H.room.map (hbut.keep _ (blk_lt hmb) (fun e=>e.elim nmS nMB))⟩,hbut.blk (fun e=>e.elim nlS (fun e=>nB e.symm)) hl,H.line.lb0,H.line.b,H.line.bad,fun n _=>H.line.off n,H.line.got,hs,H.sy.but hbut (fun g hg e=>?_),fun g hg=>H.x0 g (Or.inr (Or.inl hg)),H.y0,H.xm,H.ym,fun g hg=>H.dis g (Or.inr (Or.inl hg)),setCon_same _ _ _,(setCon_ne _ hxy _).trans H.vy⟩,hbut⟩
 rcases e with rfl | rfl
 · exact H.dis _ hsp hg
 · exact H.sy.notB H.room.blk.blk hg
theorem gone_takes {N0:Nat} {ash aw:Addr} {w:World} {lb B kx ky:Nat} {V:LineV} {BV:BrV} {D:DataW Unit} {py:Pkt} {X Y:SideV} {SX SY:Ses} {G:Nat→Prop} (h:Gone N0 ash aw w lb B kx ky V BV D py X Y SX SY G) (hk:kx < 2) (ov:Value) (hO:OutsAt w ov [(⟨(kx:Int),[],true⟩,.slice none 0 0)]) (hoff:V.off kx=false) :
 Calls Tryz.prog 65 #[.pointer (some ⟨lb,0,none⟩),ov,.int .i64 0] w fun e w2=>e=.returned (.tuple #[])∧Gone N0 ash aw w2 lb B kx ky (V.setOff kx true) BV D py X Y SX SY G∧But (fun g=>g=lb) w w2:=by
 refine (takes_shut lb kx hk ov V w hO h.line h.bad hoff).mono ?_
 rintro e w2 ⟨rfl,hl,hb⟩
 exact ⟨rfl,h.but hb (fun g e=>⟨by subst e;exact h.lb0,Or.inl e⟩) hl rfl h.bad (fun n hn=>(if_neg hn).trans (h.off n hn)) h.got,hb⟩
theorem send_via {N0:Nat} {ash aw:Addr} (lb B k:Nat) (p:Pkt) (l:List UInt8) (V:LineV) (w:World) (FP:World→World→Value→List (OutS×Value)→Prop) (RT:World→World→Value→List (OutS×Value)→World→Prop)
 (hG:Gd N0 ash aw w) (h:LineAt w lb V) (hb:V.b=B) (hpf:p.fv=.slice none 0 0) (hpc:p.cv=.slice none 0 0) (hl:encL (fwW p) (cbW p) p [] []=some l) (hl0:0 < l.length)
 (hF:∀ w' g c,Below w.heap.size w w'→(∀ j x,l[j]?=some x→w'.cell? ⟨g,0+j,none⟩=some (.int .u8 (x.toNat:Int)))→Calls Tryz.prog 24 #[.pointer (some ⟨B,0,none⟩),.int .i64 (k:Int),.slice (some ⟨g,0,none⟩) l.length c] w' fun e w''=>∃ ov L,e=.returned (.tuple #[ov,.int .i64 0])∧FP w' w'' ov L)
 (hT:∀ w' w'' ov L,Below w.heap.size w w'→FP w' w'' ov L→Calls Tryz.prog 65 #[.pointer (some ⟨lb,0,none⟩),ov,.int .i64 0] w'' fun e w3=>e=.returned (.tuple #[])∧RT w' w'' ov L w3) :
 Calls Tryz.prog 50 #[.pointer (some ⟨lb,0,none⟩),.int .i64 (k:Int),.agg (pkK p)] w fun e w'=>e=.returned (.tuple #[])∧∃ w1 w2 ov L,Below w.heap.size w w1∧FP w1 w2 ov L∧RT w1 w2 ov L w':=by
 have hblk:w.heap[lb]?=some (.cells (lineC V) 60):=h
 refine sends_any lb B (k:Int) p w (fun w' v=>∃ g c,v=.slice (some ⟨g,0,none⟩) l.length c∧Below w.heap.size w w'∧w'.ownsRow 0 5 1 v l.length (u8s l)) (fun w'' ov=>∃ w1 L,Below w.heap.size w w1∧FP w1 w'' ov L) _ ⟨_,_,_,hpf⟩ ⟨_,_,_,hpc⟩ ?_ ?_ ?_ ?_ ?_
 · intro w' hb'
   have hG':Gd N0 ash aw w':=hG.below (hb'.mono hG.env.size)
   refine (cEncode_any ash aw p [] [] w' (by rw [hpf];exact filV_nil _) (by rw [hpc];exact intV_nil _) hG'.errs hG'.env').mono ?_
   rintro e w'' ⟨hB,hR⟩
   rw [hl] at hR
   obtain ⟨v,rfl,ho⟩:=hR
   obtain ⟨q,cap,rfl⟩:=br.own_form ho
   obtain ⟨g,rfl,_⟩:=br.own_at ho hl0
   exact ⟨_,_,_,rfl,g,cap,rfl,hb'.trans (hB.mono hb'.size),own_lower ho (Nat.zero_le _)⟩
 · rintro w' v ⟨g,c,rfl,hb',ho⟩
   rw [← hb]
   exact blk_cell ((hb'.block _ (blk_lt hblk)).trans hblk) rfl
 · rintro w' v ⟨g,c,rfl,hb',ho⟩
   exact ⟨g,c,rfl,hb'.trans (below_drew _ _),br.own_keep ho (fun _ _=>rfl)⟩
 · rintro w' q n c ⟨g,c',e,hb',ho⟩
   cases e
   refine (hF w' g c hb' ?_).mono ?_
   · intro j x hx
     obtain ⟨b,off,cap,e1,_,_,_,h5⟩:=bytesV_own ho
     cases e1
     exact h5 j x hx
   · rintro e w'' ⟨ov,L,rfl,hP⟩
     exact ⟨ov,rfl,w',L,hb',hP⟩
 · rintro w' ov ⟨w1,L,hb1,hP⟩
   refine (hT w1 w' ov L hb1 hP).mono ?_
   rintro e w'' ⟨rfl,hT⟩
   exact ⟨rfl,rfl,w1,w',ov,L,hb1,hP,hT⟩
structure TakenV (lb k:Nat) (V V3:LineV) (w2 w3:World):Prop where
 line:LineAt w3 lb V3
 b:V3.b=V.b
 bad:V3.bad=false
 off:∀ n,V3.off n=V.off n
 got:∀ n,n≠k→V3.got n=V.got n
 but:But (fun g=>g=lb) w2 w3
structure BackAt (N0:Nat) (ash aw:Addr) (w:World) (lb B k ky:Nat) (V V3:LineV) (BV:BrV) (D:DataW Unit) (pd py:Pkt) (X X' Y:SideV) (SX SY:Ses) (G:Nat→Prop) (fv cv:Value) (w3:World):Prop where
 hall:Hall2 N0 ash aw w3 lb B k ky V3 (BV.setCon k (.pointer (some ⟨X'.cv.cb,0,none⟩))) 2 D { pd with fv:=fv,cv:=cv } py X' Y SX SY (fun n=>G n∨n=k)
 sp:X'.cv.sp=X.cv.sp
 got:∀ n,n≠k→V3.got n=V.got n
 but:But (fun g=>g=lb∨g=B∨X.sv.has X.cv.sp g) w w3
 grow:∀ g,X'.has g→X.sv.has X.cv.sp g∨w.heap.size≤g
def outsB (k:Nat) (d:List UInt8) (S:Ses):List OutS:=⟨(k:Int),d,false⟩ :: S.under.map (fun u=>⟨(k:Int),encD (againS u) [] [],false⟩)
theorem gone_joins {N0:Nat} {ash aw:Addr} {w:World} {lb B k ky:Nat} {V:LineV} {BV:BrV} {D:DataW Unit} {py:Pkt} {X Y:SideV} {SX SY:Ses} {G:Nat→Prop} (client l d:List UInt8) (pd:Pkt) (RT:Nat→Nat→World→LineV→World→Prop) (hG:Gone N0 ash aw w lb B k ky V BV D py X Y SX SY G) (hk:k < 2) (hky:ky < 2) (hkk:ky≠k) (hoth:∀ j,2≤j→BV.cv j=.pointer none) (hpy:py.client≠client)
 (henc:encL (fwW (helloS client false)) (cbW (helloS client false)) (helloS client false) [] []=some l) (hl0:0 < l.length) (hl:l.length≤1000000) (hdec:decL l=.inr ((pd,[],[]),l.length)) (hpk:pd.kind=1) (hpc:pd.client=client) (hpn:pd.clean=false) (hne:client≠[]) (hcl:client.length≤1000)
 (hD:D.atKey (.string client) .nil=.lit (.int .i64 (X.cv.sp:Int))) (hH:Maps.has D (.string client)=true) (hr:∀ u,u∈SX.under→u.rel=false) (hgo:goM true SX=none) (h0:0≤SX.last) (hul:SX.under.length < 65000) (hdd:encD (ackS true 0) [] []=d)
 (hT:∀ w2 ov L V',Gd N0 ash aw w2→w.heap.size≤w2.heap.size→LineAt w2 lb V'→V'.b=B→V'.bad=false→(∀ n,V'.off n=false)→(∀ n,¬ G n→V'.got n=.slice none 0 0)→(∀ n,V'.got n=V.got n)→OutsAt w2 ov L→L.map Prod.fst=outsB k d SX→Calls Tryz.prog 65 #[.pointer (some ⟨lb,0,none⟩),ov,.int .i64 0] w2 fun e w3=>e=.returned (.tuple #[])∧∃ V3 g cap n,TakenV lb k V' V3 w2 w3∧HeardN w3 lb k g cap n V3 2 0∧RT g n w2 V3 w3) :
 Calls Tryz.prog 48 #[.pointer (some ⟨lb,0,none⟩),.int .i64 (k:Int),.string (bs client),.bool false] w fun e w'=>∃ g n q c,e=.returned (.tuple #[.slice q n c,.bool true])∧(0 < n→q=some ⟨g,15,none⟩)∧∃ w2 w3 V3 X' fv cv,w'=w3.setCell ⟨lb,1+k,none⟩ (.slice none 0 0)∧w.heap.size≤w2.heap.size∧RT g n w2 V3 w3∧BackAt N0 ash aw w lb B k ky V V3 BV D pd py X X' Y SX SY G fv cv w3:=by
 have hk8:k < 8:=by omega
 have hlb:w.heap[lb]?=some (.cells (lineC V) 60):=hG.line
 obtain ⟨nB,nM,nMB,nX,nY,nXB,nYB,nXm,nYm⟩:=hG.apart
 obtain ⟨es,cl,hmb⟩:=map_blk hG.room.map
 have hltB:=blk_lt hG.room.blk.blk
 have hltm:=blk_lt hmb
 have hltl:=blk_lt hlb
 have hYlt:∀ g,Y.has g→g < w.heap.size:=fun g hg=>hG.sy.lt hg
 refine (joins_more lb k client false V w (fun w'=>∃ CV:ConV,BlkAt w' B (BV.setCon k (.pointer (some ⟨CV.cb,0,none⟩))) (.slice none 0 0) []∧ConAt w' B (k:Int) CV ⟨[],0,none⟩∧(∀ b,CV.has b→w.heap.size≤b)∧CV.wv=.slice none 0 0∧But (fun b=>b=B) w w') (fun g n w3=>∃ w2 V3 X' fv cv,w.heap.size≤w2.heap.size∧RT g n w2 V3 w3∧BackAt N0 ash aw w lb B k ky V V3 BV D pd py X X' Y SX SY G fv cv w3) hG.line hk8 ?_ ?_ ?_).mono ?_
 · rw [hG.lbb]
   exact open_any B k BV (.slice none 0 0) [] w hG.room.blk hk8 hG.vx
 · rintro w' ⟨CV,b1,b2,b3,b4,hb⟩
   exact line_but hG.line hb (fun e=>nB e.symm)
 · rintro w' ⟨CV,b1,b2,b3,b4,hb⟩
   obtain ⟨w9,hw9⟩:∃ w9,w9=w'.setCell ⟨lb,9+k,none⟩ (.bool false):=⟨_,rfl⟩
   rw [← hw9]
   have hlb':w'.heap[lb]?=some (.cells (lineC V) 60):=hb.blk (fun e=>nB e.symm) hlb
   have hs9:But (fun g=>g=lb) w' w9:=by rw [hw9];exact But.set _ _ _ rfl
   have hl9:LineAt w9 lb (V.setOff k false):=by
    show w9.heap[lb]?=_
    rw [hw9,blk_set _ hlb',lineC_setOff V hk8]
   have hoff9:∀ n,(V.setOff k false).off n=false:=fun n=>by
    show (if n=k then false else V.off n)=false
    by_cases hn:n=k
    · rw [if_pos hn]
    · rw [if_neg hn];exact hG.off n hn
   have t9:But (fun g=>g=lb∨g=B) w w9:=(hb.wide (fun _ _ e=>Or.inr e)).trans hs9 (fun _ _ e=>Or.inl e)
   have hF0:∀ g,(g=lb∨g=B)→N0≤g:=by
    rintro g (rfl | rfl)
    · exact hG.lb0
    · exact hG.room.B0
   have hG9:Gd N0 ash aw w9:=hG.room.gd.below (t9.below hF0 hG.room.gd.env.size)
   have hB9:BlkAt w9 B (BV.setCon k (.pointer (some ⟨CV.cb,0,none⟩))) (.slice none 0 0) []:=⟨hs9.blk (fun e=>nB e) b1.blk,OutsAt.nil _⟩
   have hC9:ConAt w9 B (k:Int) CV ⟨[],0,none⟩:=b2.but hs9 (fun b hb' e=>by have:=b3 b hb';omega)
   have hm9:w9.heap[BV.mb]?=w.heap[BV.mb]?:=t9.keep _ hltm (fun e=>e.elim nM nMB)
   have hM9:w9.ownsMap Tryz.prog 9 ptrElem BV.mb 2 D:=map_keep hG.room.map hm9
   have hY9:Side w9 B ky Y py SY:=hG.sy.but t9 (fun g hg e=>by
    rcases e with rfl | rfl
    · exact nY hg
    · exact nYB hg)
   have hS9:SesAt w9 X.cv.sp { X.sv with snd:=none } SX:=hG.ses.but t9 (fun g hg e=>by
    rcases e with rfl | rfl
    · exact nX hg
    · exact nXB hg)
   have s9:=t9.size
   have hcb0:=b3 CV.cb (Or.inl rfl)
   have hN0:=hG.room.gd.env.size
   refine (send_via lb B k (helloS client false) l (V.setOff k false) w9 (fun w1 w2 ov L=>Below w9.heap.size w9 w1∧FdA B k 2 X.cv.sp pd d D (BV.setCon k (.pointer (some ⟨CV.cb,0,none⟩))) CV { X.sv with snd:=none } SX w1 w2 ov L) (fun w1 w2 ov L w3=>∃ V3 g cap n,TakenV lb k (V.setOff k false) V3 w2 w3∧HeardN w3 lb k g cap n V3 2 0∧RT g n w2 V3 w3) hG9 hl9 hG.lbb rfl rfl henc hl0 ?_ ?_).mono ?_
   · intro w1 g c hb1 hby
     refine (feed_again (N0:=N0) (ash:=ash) (aw:=aw) B k 2 X.cv.sp pd l d D (BV.setCon k (.pointer (some ⟨CV.cb,0,none⟩))) CV { X.sv with snd:=none } SX (fun j=>if j=ky then some (Y.cv,⟨[],0,some py⟩) else none) g c w1 (hG9.below (hb1.mono hG9.env.size)) (hB9.below hb1) (hC9.below hb1) ⟨_,b4⟩ hk8 (setCon_same _ _ _) hG.room.clk hl0 hl hby hdec hpk (fun g hg=>Nat.le_trans hN0 (b3 g hg)) hG.room.mb0 hG.room.B0 (fun j hj hjk=>⟨?_,?_⟩) (fun j hj hjk=>?_) (by rw [hpc];exact hne) (map_keep hM9 (hb1.block _ (by rw [← hm9] at hmb;exact blk_lt hmb))) (by rw [hpc];exact hD) (by rw [hpc];exact hH) (by rw [hpc];exact hcl) hpn (hS9.below hb1) hG.x0 hG.xm hr hgo h0 hul hdd).mono ?_
     · show ConO w1 B (BV.setCon k (.pointer (some ⟨CV.cb,0,none⟩))) j (if j=ky then some (Y.cv,⟨[],0,some py⟩) else none)
       by_cases hjy:j=ky
       · subst hjy
         rw [if_pos rfl]
         exact ⟨(setCon_ne _ hjk _).trans hG.vy,(hY9.below hb1).con⟩
       · rw [if_neg hjy]
         exact (setCon_ne _ hjk _).trans (hoth j (by omega))
     · intro CVj Cj e hh
       by_cases hjy:j=ky
       · rw [if_pos hjy] at e
         cases e
         have:=hYlt _ (Or.inl hh)
         omega
       · rw [if_neg hjy] at e
         cases e
     · show notFor pd.client (if j=ky then some (Y.cv,(⟨[],0,some py⟩:Con)) else none)
       by_cases hjy:j=ky
       · rw [if_pos hjy,hpc];intro q hq;cases hq;exact hpy
       · rw [if_neg hjy];trivial
     · rintro e w2 ⟨ov,L,rfl,hF⟩
       exact ⟨ov,L,rfl,hb1,hF⟩
   · rintro w1 w2 ov L hb1 ⟨_,hL,ho,hblk,X',fv,cv,hS,hcb,hsp,hkb,hX,hMp,hBut⟩
     have hG1:=hG9.below (hb1.mono hG9.env.size)
     have s1:=hb1.size
     have s2:=hBut.size
     have hG2:Gd N0 ash aw w2:=hG1.below (hBut.below (fun b e=>by
      rcases e with rfl | rfl | e
      · exact hG.room.B0
      · omega
      · exact hG.x0 b e) hG1.env.size)
     exact hT w2 ov L (V.setOff k false) hG2 (by omega) (line_but (V:=V.setOff k false) ((hb1.block _ (blk_lt hl9)).trans hl9) hBut (fun e=>by
      rcases e with e | e | e
      · exact nB e.symm
      · omega
      · exact nX e)) hG.lbb hG.bad hoff9 hG.got (fun _=>rfl) ho hL
   · rintro e w3 ⟨rfl,w1,w2,ov,L,hb1,⟨_,hL,ho,hblk,X',fv,cv,hS,hcb,hsp,hkb,hX,hMp,hBut⟩,V3,g,cap,n,hTk,hHd,hRT⟩
     have hG1:=hG9.below (hb1.mono hG9.env.size)
     have s1:=hb1.size
     have s2:=hBut.size
     have hG2:Gd N0 ash aw w2:=hG1.below (hBut.below (fun b e=>by
      rcases e with rfl | rfl | e
      · exact hG.room.B0
      · omega
      · exact hG.x0 b e) hG1.env.size)
     have t1:But (fun g=>g=lb∨g=B∨X.sv.has X.cv.sp g) w w1:=(t9.wide (fun _ _ e=>e.elim Or.inl (fun e=>Or.inr (Or.inl e)))).trans (But.of_below (F:=fun _=>False) hb1) (fun _ _ f=>f.elim)
     have t2:But (fun g=>g=lb∨g=B∨X.sv.has X.cv.sp g) w w2:=t1.trans hBut (fun x hx e=>by
      rcases e with e | e | e
      · exact Or.inr (Or.inl e)
      · omega
      · exact Or.inr (Or.inr e))
     have t3:But (fun g=>g=lb∨g=B∨X.sv.has X.cv.sp g) w w3:=t2.trans hTk.but (fun _ _ e=>Or.inl e)
     have hl2:w2.heap[lb]?=some (.cells (lineC (V.setOff k false)) 60):=hBut.blk (fun e=>by
      rcases e with e | e | e
      · exact nB e.symm
      · omega
      · exact nX e) ((hb1.block _ (blk_lt hl9)).trans hl9)
     have hYn:∀ g,Y.has g→¬ (g=lb∨g=B∨X.sv.has X.cv.sp g):=fun g hg e=>by
      rcases e with rfl | rfl | e
      · exact nY hg
      · exact nYB hg
      · exact hG.dis g e hg
     have hm2:¬ (BV.mb=lb∨BV.mb=B∨X.sv.has X.cv.sp BV.mb):=fun e=>by
      rcases e with e | e | e
      · exact nM e
      · exact nMB e
      · exact nXm e
     have hgr:∀ g,X'.has g→X.sv.has X.cv.sp g∨w.heap.size≤g:=fun g hg=>by
      rcases hX g hg with rfl | h1 | h1
      · exact Or.inr hcb0
      · exact Or.inl h1
      · exact Or.inr (by omega)
     have hS':Side w2 B k X' { pd with fv:=fv,cv:=cv } SX:=hS
     have hS3:Side w3 B k X' { pd with fv:=fv,cv:=cv } SX:=hS'.but hTk.but (fun b hb' e=>by subst e;exact hS'.not hl2 (by decide) (by decide) hb')
     have hR3:Room N0 ash aw w3 B (BV.setCon k (.pointer (some ⟨X'.cv.cb,0,none⟩))) 2 D:=⟨hG2.below (hTk.but.below (fun b e=>by subst e;exact hG.lb0) hG2.env.size),by rw [hcb];exact ⟨hTk.but.blk (fun e=>nB e) hblk.blk,OutsAt.nil _⟩,hG.room.B0,hG.room.mb0,hG.room.clk,hG.room.win,hG.room.que,hG.room.rv,map_keep hG.room.map (t3.keep _ hltm hm2)⟩
     refine ⟨rfl,g,cap,n,V3,⟨w2,V3,X',fv,cv,by omega,hRT,⟨⟨hR3,⟨hTk.line,hG.lb0,hTk.b.trans hG.lbb,hTk.bad,fun j=>(hTk.off j).trans (hoff9 j),fun j hj=>?_⟩,hS3,hG.sy.but t3 hYn,fun g hg=>(hgr g hg).elim (hG.x0 g) (fun e=>by omega),hG.y0,by rw [hkb];exact hG.xm,hG.ym,fun g hg hy=>(hgr g hg).elim (fun e=>hG.dis g e hy) (fun e=>by have:=hYlt g hy;omega),setCon_same _ _ _,(setCon_ne _ hkk _).trans hG.vy⟩,hsp,hTk.got,t3,hgr⟩⟩,hHd⟩
     have hjk:j≠k:=fun e=>hj (Or.inr e)
     exact (hTk.got j hjk).trans (hG.got j (fun f=>hj (Or.inl f)))
 · rintro e w' ⟨g,n,q,c,w1,rfl,hq,⟨w2,V3,X',fv,cv,h1,h2,h3⟩,hw⟩
   exact ⟨g,n,q,c,rfl,hq,w2,w1,V3,X',fv,cv,hw,h1,h2,h3⟩
end on
namespace on
open Go.RowKit topPlain topWalks decPlain rd ew encPlain rf br kp kw
structure StgF (N0:Nat) (w0:World) (b lb:Nat) (VS:StgV) (T:List Int) (O:List Pkt) (Sn:List Int) (In:Nat→Prop) (w:World):Prop where
 stg:StgAt w b VS T O Sn
 vlb:VS.lb=lb
 s0:∀ g,VS.has b g→N0≤g
 apart:∀ g,VS.has b g→¬ In g
 bel:Below N0 w0 w
theorem StgF.but {F:Nat→Prop} {N0:Nat} {w0:World} {b lb:Nat} {VS:StgV} {T:List Int} {O:List Pkt} {Sn:List Int} {In:Nat→Prop} {w w':World} (h:StgF N0 w0 b lb VS T O Sn In w) (hb:But F w w') (hF:∀ g,F g→In g) (hN:∀ g,In g→N0≤g) (hs:N0≤w.heap.size):StgF N0 w0 b lb VS T O Sn In w':=
 ⟨h.stg.but hb (fun g hg e=>h.apart g hg (hF g e)),h.vlb,h.s0,h.apart,h.bel.trans (hb.below (fun g e=>hN g (hF g e)) hs)⟩
theorem StgF.grow {N0:Nat} {w0:World} {b lb:Nat} {VS:StgV} {T:List Int} {O:List Pkt} {Sn:List Int} {In In':Nat→Prop} {w:World} (n:Nat) (h:StgF N0 w0 b lb VS T O Sn In w) (hn:∀ g,VS.has b g→g < n) (hi:∀ g,In' g→In g∨n≤g):StgF N0 w0 b lb VS T O Sn In' w:=
 ⟨h.stg,h.vlb,h.s0,fun g hg e=>(hi g e).elim (h.apart g hg) (fun e=>by have:=hn g hg;omega),h.bel⟩
theorem Wh.stgF {N0:Nat} {ash aw:Addr} {w0 w:World} {b lb B:Nat} {V:LineV} {BV:BrV} {px py:Pkt} {X Y:SideV} {SX SY:Ses} {G:Nat→Prop} {VS:StgV} {T:List Int} {O:List Pkt} {Sn:List Int} (h:Wh N0 ash aw w0 w b lb B V BV px py X Y SX SY G VS T O Sn):StgF N0 w0 b lb VS T O Sn (InHall lb B BV.mb X Y) w:=⟨h.stg,h.vlb,h.s0,h.apart,h.bel⟩
structure Pause (N0:Nat) (ash aw:Addr) (w0:World) (b lb B kx ky:Nat) (V:LineV) (BV:BrV) (D:DataW Unit) (py:Pkt) (X Y:SideV) (SX SY:Ses) (G:Nat→Prop) (VS:StgV) (T:List Int) (O:List Pkt) (Sn:List Int) (w:World):Prop where
 gone:Gone N0 ash aw w lb B kx ky V BV D py X Y SX SY G
 stg:StgF N0 w0 b lb VS T O Sn (InGone lb B BV.mb X Y) w
theorem pause_close {N0:Nat} {ash aw:Addr} {w0 w:World} {b lb B kx ky:Nat} {V:LineV} {BV:BrV} {D:DataW Unit} {px py:Pkt} {X Y:SideV} {SX SY:Ses} {G:Nat→Prop} {VS:StgV} {T:List Int} {O:List Pkt} {Sn:List Int} (H:Hall2 N0 ash aw w lb B kx ky V BV 2 D px py X Y SX SY G) (hS:StgF N0 w0 b lb VS T O Sn (InHall lb B BV.mb X Y) w) (hk:kx < 8) (hxy:ky≠kx) (hcl:px.clean=false) (hwl:px.will=false) :
 Calls Tryz.prog 52 #[.pointer (some ⟨B,0,none⟩),.int .i64 (kx:Int)] w fun e w1=>∃ q n c,e=.returned (.tuple #[.slice q n c,.int .i64 0])∧OutsAt w1 (.slice q n c) [(⟨(kx:Int),[],true⟩,.slice none 0 0)]∧Pause N0 ash aw w0 b lb B kx ky V (BV.setCon kx (.pointer none)) D py X Y SX SY G VS T O Sn w1∧But (InHall lb B BV.mb X Y) w w1:=by
 refine (gone_close H hk hxy hcl hwl).mono ?_
 rintro e w1 ⟨ov,rfl,hO,hG,hb⟩
 obtain ⟨q,c,hq⟩:=br.own_form hO.row
 subst hq
 have hF:∀ g,(g=X.cv.sp∨g=B)→InHall lb B BV.mb X Y g:=fun g e=>by
  rcases e with rfl | rfl
  · exact Or.inr (Or.inr (Or.inr (Or.inl (Or.inr (Or.inl (Or.inl rfl))))))
  · exact Or.inr (Or.inl rfl)
 have h1:=hS.but hb hF H.old H.room.gd.env.size
 exact ⟨q,_,c,rfl,hO,⟨hG,h1.grow w.heap.size (fun g hg=>hS.stg.lt hg) (fun g i=>Or.inl (by
  rcases i with i | i | i | i | i
  · exact Or.inl i
  · exact Or.inr (Or.inl i)
  · exact Or.inr (Or.inr (Or.inl i))
  · exact Or.inr (Or.inr (Or.inr (Or.inl (Or.inr (Or.inl i)))))
  · exact Or.inr (Or.inr (Or.inr (Or.inr i)))))⟩,hb.wide (fun g _ e=>hF g e)⟩
theorem pause_takes {N0:Nat} {ash aw:Addr} {w0 w:World} {b lb B kx ky:Nat} {V:LineV} {BV:BrV} {D:DataW Unit} {py:Pkt} {X Y:SideV} {SX SY:Ses} {G:Nat→Prop} {VS:StgV} {T:List Int} {O:List Pkt} {Sn:List Int} (h:Pause N0 ash aw w0 b lb B kx ky V BV D py X Y SX SY G VS T O Sn w) (hk:kx < 2) (ov:Value) (hO:OutsAt w ov [(⟨(kx:Int),[],true⟩,.slice none 0 0)]) (hoff:V.off kx=false) :
 Calls Tryz.prog 65 #[.pointer (some ⟨lb,0,none⟩),ov,.int .i64 0] w fun e w2=>e=.returned (.tuple #[])∧Pause N0 ash aw w0 b lb B kx ky (V.setOff kx true) BV D py X Y SX SY G VS T O Sn w2∧But (fun g=>g=lb) w w2:=by
 refine (gone_takes h.gone hk ov hO hoff).mono ?_
 rintro e w2 ⟨rfl,hG,hb⟩
 exact ⟨rfl,⟨hG,h.stg.but hb (fun g e=>Or.inl e) h.gone.old h.gone.room.gd.env.size⟩,hb⟩
theorem Pause.back {N0:Nat} {ash aw:Addr} {w0 w w3:World} {b lb B k ky:Nat} {V V3:LineV} {BV:BrV} {D:DataW Unit} {pd py:Pkt} {X X' Y:SideV} {SX SY:Ses} {G:Nat→Prop} {VS:StgV} {T:List Int} {O:List Pkt} {Sn:List Int} {fv cv:Value} (h:Pause N0 ash aw w0 b lb B k ky V BV D py X Y SX SY G VS T O Sn w) (hB:BackAt N0 ash aw w lb B k ky V V3 BV D pd py X X' Y SX SY G fv cv w3):StgF N0 w0 b lb VS T O Sn (InHall lb B BV.mb X' Y) w3:=by
 have h1:=h.stg.but hB.but (fun g e=>by
  rcases e with e | e | e
  · exact Or.inl e
  · exact Or.inr (Or.inl e)
  · exact Or.inr (Or.inr (Or.inr (Or.inl e)))) h.gone.old h.gone.room.gd.env.size
 refine h1.grow w.heap.size (fun g hg=>h.stg.stg.lt hg) (fun g i=>?_)
 rcases i with i | i | i | i | i
 · exact Or.inl (Or.inl i)
 · exact Or.inl (Or.inr (Or.inl i))
 · exact Or.inl (Or.inr (Or.inr (Or.inl i)))
 · exact (hB.grow g i).imp (fun e=>Or.inr (Or.inr (Or.inr (Or.inl e)))) id
 · exact Or.inl (Or.inr (Or.inr (Or.inr (Or.inr i))))
theorem take_one {N0:Nat} {ash aw:Addr} {lb k:Nat} (hk:k < 2) (V':LineV) (d:List UInt8) (pa:Pkt) (w2:World) (ov:Value) (L:List (OutS×Value)) (hG:Gd N0 ash aw w2) (hlb:N0≤lb) (hl:LineAt w2 lb V') (hbad:V'.bad=false) (hoff:∀ n,V'.off n=false) (hgot:V'.got k=.slice none 0 0) (hO:OutsAt w2 ov L) (hL:L.map Prod.fst = [⟨(k:Int),d,false⟩]) (hd0:0 < d.length) (hd1:d.length≤1000000) (hda:decL d=.inr ((pa,[],[]),d.length)) (hpa:pa.kind=2) (hpa0:pa.code=0) :
 Calls Tryz.prog 65 #[.pointer (some ⟨lb,0,none⟩),ov,.int .i64 0] w2 fun e w3=>e=.returned (.tuple #[])∧∃ V3 g cap n,TakenV lb k V' V3 w2 w3∧HeardN w3 lb k g cap n V3 2 0∧n=0:=by
 have hlt:lb < w2.heap.size:=by have h9:w2.heap[lb]?=some (.cells (lineC V') 60):=hl;exact blk_lt h9
 match L,hL with
 | [(o,dv)],hL =>
   have e:o=⟨(k:Int),d,false⟩:=by simpa using hL
   subst e
   refine (takes_all lb ov [(⟨(k:Int),d,false⟩,dv)] V' (fun _=>(pa,[],[])) w2 hG hlb hO hl hbad (fun j o hj=>?_) (fun i j o o' hi hj _=>(one_at hi).1.trans (one_at hj).1.symm)).mono ?_
   · obtain ⟨rfl,rfl⟩:=one_at hj
     exact ⟨rfl,hda,hd0,hd1,k,hk,rfl,hgot,hoff k⟩
   · rintro e w3 ⟨rfl,hT⟩
     obtain ⟨V3,l1,l2,l3,l4,l5,l6⟩:=hT.line
     obtain ⟨n,hn1,hg⟩:=l6 0 _ (by simp) rfl
     have hnk:n=k:=by have:(k:Int)=(n:Int):=hn1;omega
     subst hnk
     obtain ⟨g,cap,fv',cv',e1,e2,e3,e4,e5,_⟩:=hg.at
     refine ⟨rfl,V3,g,cap,0,⟨l1,l2,l3,fun j=>by rw [l4],fun j hj=>l5 j (fun i o hi ho' e=>?_),hT.but⟩,⟨l1,l3,e1,e3,e4,?_,?_,by omega⟩,rfl⟩
     · obtain ⟨_,rfl⟩:=one_at ho'
       have:(n:Int)=(j:Int):=e
       omega
     · rw [← hpa];exact e5 0 _ rfl
     · rw [← hpa0];exact e5 6 _ rfl
def GoneS (N0:Nat) (ash aw:Addr) (w0:World) (b lb B:Nat) (q:Int) (W Qn:Nat) (px:Pkt) (VS:StgV) (T:List Int) (O:List Pkt) (Sn:List Int) (L:Led) (off:Bool) (v':Value) (w:World):Prop:=
 ∃ BV V2 X2 Y2,Pause N0 ash aw w0 b lb B 1 0 V2 BV (D2 X2.cv.sp Y2.cv.sp) px Y2 X2 { newS (W:Int) Qn with known:=[(L.n:Int)+1] } (ses q W Qn (add (preP q W Qn 2 L) (pubO q W 2 L))) (fun n=>n=0) { VS with sv:=v',id:=(L.n:Int)+1 } T O (Sn ++ [2]) w∧V2.off 1=off∧Hear w lb (V2.got 0) (pubO q W 2 L)∧∀ j,2≤j→BV.cv j=.pointer none
theorem Gone.notPkt {N0:Nat} {ash aw:Addr} {w:World} {lb B kx ky:Nat} {V:LineV} {BV:BrV} {D:DataW Unit} {py:Pkt} {X Y:SideV} {SX SY:Ses} {G:Nat→Prop} (h:Gone N0 ash aw w lb B kx ky V BV D py X Y SX SY G) (g:Nat) (c:Array Value) (hg:w.heap[g]?=some (.cells c 36)):¬ (g=lb∨g=B∨X.sv.has X.cv.sp g):=by
 rintro (rfl | rfl | i)
 · have h:w.heap[g]?=some (.cells (lineC V) 60):=h.line
   rw [hg] at h;simp at h
 · have h:=h.room.blk.blk;rw [hg] at h;simp at h
 · exact h.ses.not hg (by decide) i
theorem again_on {N0:Nat} {ash aw:Addr} {w0:World} {b lb B:Nat} {q:Int} {W Qn:Nat} {px:Pkt} {VS:StgV} {T:List Int} {O:List Pkt} {Sn:List Int} {L:Led} (hx:HelloOf px [99]) (v:Value) :
 Again1 b lb B (HalfD N0 ash aw w0 b lb B q W Qn px VS T O Sn L v) (HalfD N0 ash aw w0 b lb B q W Qn px VS T O Sn L v) (fun ov w=>OutsAt w ov [(⟨((1:Nat):Int),[],true⟩,.slice none 0 0)]∧GoneS N0 ash aw w0 b lb B q W Qn px VS T O Sn L false v w) (GoneS N0 ash aw w0 b lb B q W Qn px VS T O Sn L true v):=by
 refine ⟨?_,?_,?_,?_⟩
 · rintro w ⟨BV,py,V2,X2,Y2,hH,k1,k2⟩
   have:w.cell? ⟨lb,0,none⟩=some (.pointer (some ⟨V2.b,0,none⟩)):=blk_cell hH.wh.hall.line.line rfl
   rw [hH.wh.hall.line.b] at this
   exact this
 · rintro w ⟨BV,py,V2,X2,Y2,hH,k1,k2⟩
   have hS:StgF N0 w0 b lb { VS with sv:=v,id:=(L.n:Int)+1 } T O (Sn ++ [2]) (InHall lb B BV.mb Y2 X2) w:=(Wh.stgF hH.wh).grow w.heap.size (fun g hg=>hH.wh.stg.lt hg) (fun g i=>Or.inl (by
    rcases i with i | i | i | i | i
    · exact Or.inl i
    · exact Or.inr (Or.inl i)
    · exact Or.inr (Or.inr (Or.inl i))
    · exact Or.inr (Or.inr (Or.inr (Or.inr i)))
    · exact Or.inr (Or.inr (Or.inr (Or.inl i)))))
   refine (pause_close hH.wh.hall.turn hS (by omega) (by omega) k1.clean k1.will).mono ?_
   rintro e w1 ⟨q1,n1,c1,rfl,hO,hP,hb⟩
   refine ⟨q1,n1,c1,rfl,⟨hO,_,V2,X2,Y2,hP,hH.wh.hall.line.off 1,hH.hear.but hb (fun g c hg e=>hH.wh.notPkt g c hg (by
    rcases e with i | i | i | i | i
    · exact Or.inl i
    · exact Or.inr (Or.inl i)
    · exact Or.inr (Or.inr (Or.inl i))
    · exact Or.inr (Or.inr (Or.inr (Or.inr i)))
    · exact Or.inr (Or.inr (Or.inr (Or.inl i))))),fun j hj=>(setCon_ne _ (by omega) _).trans (k2 j hj)⟩,?_⟩
   have:=blk_cell hP.stg.stg.blk (i:=0) (v:=.pointer (some ⟨VS.lb,0,none⟩)) rfl
   rw [show VS.lb=lb from hP.stg.vlb] at this
   exact this
 · rintro ov w ⟨hO,BV,V2,X2,Y2,hP,hoff,hH,k2⟩
   refine (pause_takes hP (by omega) ov hO hoff).mono ?_
   rintro e w2 ⟨rfl,hP2,hb⟩
   refine ⟨rfl,⟨BV,V2.setOff 1 true,X2,Y2,hP2,by simp [LineV.setOff],hH.but hb (fun g c hg e=>hP.gone.notPkt g c hg (Or.inl e)),k2⟩,?_⟩
   have:=blk_cell hP2.stg.stg.blk (i:=0) (v:=.pointer (some ⟨VS.lb,0,none⟩)) rfl
   rw [show VS.lb=lb from hP2.stg.vlb] at this
   exact this
 · rintro w ⟨BV,V2,X2,Y2,hP,hoff,hH,k2⟩
   refine (gone_joins (k:=1) (ky:=0) [100] [16,13,0,4,77,81,84,84,4,0,0,0,0,1,100] [32,2,1,0] (helloD [100] false) (fun g n w2 V3 w3=>n=0) hP.gone (by omega) (by omega) (by omega) k2 (by rw [hx.client];decide) (by kernel_rfl) (by decide) (by decide) (by kernel_rfl) rfl rfl rfl (by decide) (by decide) rfl rfl (by intro u hu;cases hu) rfl (by show (0:Int)≤0;decide) (by show (0:Nat) < 65000;decide) (by kernel_rfl) (fun w2 ov Lo V' hg2 _ hl2 hb2 hbad2 hoff2 hgot2 _ hO2 hL2=>take_one (by omega) V' [32,2,1,0] { zP with kind:=2,present:=true } w2 ov Lo hg2 hP.gone.lb0 hl2 hbad2 hoff2 (hgot2 1 (by omega)) hO2 hL2 (by decide) (by decide) (by kernel_rfl) rfl rfl)).mono ?_
   rintro e w' ⟨g,n,q1,c1,rfl,_,w2,w3,V3,X',fv,cv,rfl,_,rfl,hB⟩
   refine ⟨q1,c1,rfl,BV.setCon 1 (.pointer (some ⟨X'.cv.cb,0,none⟩)),{ helloD [100] false with fv:=fv,cv:=cv },V3.setGot 1 (.slice none 0 0),X2,X',⟨?_,?_⟩,⟨rfl,rfl,rfl⟩,fun j hj=>(setCon_ne _ (by omega) _).trans (k2 j hj)⟩
   · have hS3:=hP.back hB
     have hw:Wh N0 ash aw w0 w3 b lb B V3 (BV.setCon 1 (.pointer (some ⟨X'.cv.cb,0,none⟩))) px { helloD [100] false with fv:=fv,cv:=cv } X2 X' (ses q W Qn (add (preP q W Qn 2 L) (pubO q W 2 L))) { newS (W:Int) Qn with known:=[(L.n:Int)+1] } (fun n=>n=0∨n=1) { VS with sv:=v,id:=(L.n:Int)+1 } T O (Sn ++ [2]):=by
      refine ⟨?_,hS3.stg,hS3.vlb,hS3.s0,fun g hg i=>hS3.apart g hg ?_,hS3.bel⟩
      · rw [hB.sp];exact hB.hall.turn
      · rcases i with i | i | i | i | i
        · exact Or.inl i
        · exact Or.inr (Or.inl i)
        · exact Or.inr (Or.inr (Or.inl i))
        · exact Or.inr (Or.inr (Or.inr (Or.inr i)))
        · exact Or.inr (Or.inr (Or.inr (Or.inl i)))
     exact (hw.seen 1 (by omega)).only (fun n hn=>hn.1.elim id (fun e=>(hn.2 e).elim))
   · have hset:But (fun g=>g=lb) w3 (w3.setCell ⟨lb,2,none⟩ (.slice none 0 0)):=But.set (F:=fun g=>g=lb) _ _ _ rfl
     have h1:Hear w3 lb (V3.got 0) (pubO q W 2 L):=by
      rw [hB.got 0 (by omega)]
      exact hH.but hB.but (fun g c hg=>hP.gone.notPkt g c hg)
     exact h1.but hset (fun g c hg e=>by
      have h9:w3.heap[g]?=some (.cells (lineC V3) 60):=by rw [e];exact hB.hall.line.line
      rw [hg] at h9;simp at h9)
def dupE (u:Nat×Nat×Int):Pkt:=msgD true u.2.2 (u.1:Int) u.2.1
def RB (L:Led) (j:Nat):Pkt:=if j=0 then { zP with kind:=2,present:=true } else dupE ((L.U[j - 1]?).getD (1,0,1))
structure RowB (lb:Nat) (L:Led) (g n:Nat) (w2:World) (V3:LineV) (w3:World) (Ps:List Pkt):Prop where
 num:n=L.U.length
 row:w3.ownsRow w2.heap.size 36 15 (V3.got 0) (n+1) (Ps.flatMap pkL)
 got:∃ cap,V3.got 0=.slice (some ⟨g,0,none⟩) (n+1) cap
 len:Ps.length=n+1
 all:∀ (j:Nat) p,Ps[j]?=some p→ReadAs (RB L j) p
 llt:lb < w2.heap.size
theorem take_back {N0:Nat} {ash aw:Addr} {lb:Nat} {q:Int} {W Qn:Nat} {Sn:List Int} {L:Led} (hk:Ok q W Qn Sn L) (V':LineV) (w2:World) (ov:Value) (Lo:List (OutS×Value)) (hG:Gd N0 ash aw w2) (hlb:N0≤lb) (hl:LineAt w2 lb V') (hbad:V'.bad=false) (hoff:∀ n,V'.off n=false) (hgot:V'.got 0=.slice none 0 0) (hO:OutsAt w2 ov Lo) (hL:Lo.map Prod.fst=outsB 0 [32,2,1,0] (ses q W Qn L)) :
 Calls Tryz.prog 65 #[.pointer (some ⟨lb,0,none⟩),ov,.int .i64 0] w2 fun e w3=>e=.returned (.tuple #[])∧∃ V3 g cap n,TakenV lb 0 V' V3 w2 w3∧HeardN w3 lb 0 g cap n V3 2 0∧∃ Ps,RowB lb L g n w2 V3 w3 Ps:=by
 have hlt:lb < w2.heap.size:=by have h9:w2.heap[lb]?=some (.cells (lineC V') 60):=hl;exact blk_lt h9
 have hw:=hk.win
 have h8:=hk.w8
 have hlen:Lo.length=L.U.length+1:=by
  have:=congrArg List.length hL
  simpa [outsB,ses] using this
 refine (take_row lb ov Lo V' (RB L) w2 hG hlb hO hl hbad (hoff 0) hgot (by omega) (fun j o hj=>?_)).mono ?_
 · have hj':(Lo.map Prod.fst)[j]?=some o.1:=by rw [List.getElem?_map,hj];rfl
   rw [hL] at hj'
   cases j with
   | zero =>
     have e:o.1=⟨((0:Nat):Int),[32,2,1,0],false⟩:=by simpa [outsB] using hj'.symm
     rw [e]
     exact ⟨rfl,by kernel_rfl,by decide,by decide,rfl⟩
   | succ j =>
     have hj2:((ses q W Qn L).under.map (fun u=>(⟨((0:Nat):Int),encD (againS u) [] [],false⟩:OutS)))[j]?=some o.1:=by simpa [outsB] using hj'
     rw [List.getElem?_map] at hj2
     obtain ⟨u',hu',e⟩:=Option.map_eq_some_iff.1 hj2
     have hu2:(L.U.map uwE)[j]?=some u':=hu'
     rw [List.getElem?_map] at hu2
     obtain ⟨u,hu,rfl⟩:=Option.map_eq_some_iff.1 hu2
     obtain ⟨i1,i2,i3,i4⟩:=hk.idr u (List.mem_of_getElem? hu)
     have h30:=hk.n30
     have hl30:=hk.last
     have hg:Goes (dupE u):=on.goes_msg true u.2.2 i4 (u.1:Int) (by omega) (by omega) u.2.1
     rw [← e]
     have er:RB L (j+1)=dupE u:=by
      show dupE ((L.U[j]?).getD (1,0,1))=_
      rw [hu]
      rfl
     rw [er]
     exact ⟨rfl,hg.dec,hg.pos,hg.max,rfl⟩
 · rintro e w3 ⟨rfl,v0,Ps,hT⟩
   have hrow:=hT.row
   obtain ⟨q0,c0,rfl⟩:=br.own_form hrow
   obtain ⟨g,rfl,hg,hc1,hcm,hcell⟩:=br.own_at hrow (by omega)
   have hge:=own_ge hrow rfl
   obtain ⟨p0,hp0⟩:∃ p0,Ps[0]?=some p0:=⟨_,List.getElem?_eq_getElem (by have:=hT.len;omega)⟩
   obtain ⟨fv,cv,hp,_⟩:=hT.all 0 p0 hp0
   have c00:w3.cell? ⟨g,0,none⟩=some (.int .i64 p0.kind):=by
    have:=pk_cell (wr:=w3) hrow hp0 hT.len rfl 0 (by omega) (x:=.int .i64 p0.kind) rfl
    simpa using this
   have c06:w3.cell? ⟨g,6,none⟩=some (.int .i64 p0.code):=by
    have:=pk_cell (wr:=w3) hrow hp0 hT.len rfl 6 (by omega) (x:=.int .i64 p0.code) rfl
    simpa using this
   have k2:p0.kind=2:=by rw [hp];rfl
   have k0:p0.code=0:=by rw [hp];rfl
   rw [k2] at c00
   rw [k0] at c06
   rw [hlen] at hT hrow
   have eg:(({ V' with bad:=false }:LineV).setGot 0 (.slice (some ⟨g,0,none⟩) (L.U.length+1) c0)).got 0=.slice (some ⟨g,0,none⟩) (L.U.length+1) c0:=by simp [LineV.setGot]
   exact ⟨rfl,_,g,c0,L.U.length,⟨hT.line,rfl,rfl,fun _=>rfl,fun n hn=>if_neg hn,hT.but⟩,⟨hT.line,rfl,eg,by omega,hcm,c00,c06,fun e=>by have hge':w2.heap.size≤g:=hge;omega⟩,Ps,⟨rfl,by rw [eg];exact hrow,⟨c0,eg⟩,hT.len,hT.all,hlt⟩⟩
theorem Pause.again {N0:Nat} {ash aw:Addr} {w0 w:World} {b lb B kx ky:Nat} {V:LineV} {BV:BrV} {D:DataW Unit} {py:Pkt} {X Y:SideV} {SX SY:Ses} {G:Nat→Prop} {VS:StgV} {T:List Int} {O:List Pkt} {Sn:List Int} (h:Pause N0 ash aw w0 b lb B kx ky V BV D py X Y SX SY G VS T O Sn w) (x:Int):Pause N0 ash aw w0 b lb B kx ky V BV D py X Y SX SY G { VS with again:=x } T O Sn (w.setCell ⟨b,2,none⟩ (.int .i64 x)):=by
 have hset:But (fun g=>g=b) w (w.setCell ⟨b,2,none⟩ (.int .i64 x)):=But.set (F:=fun g=>g=b) _ _ _ rfl
 have hb0:N0≤b:=h.stg.s0 b (Or.inl rfl)
 have hnb:¬ InGone lb B BV.mb X Y b:=h.stg.apart b (Or.inl rfl)
 have hl:w.heap[lb]?=some (.cells (lineC V) 60):=h.gone.line
 refine ⟨h.gone.but hset (fun g e=>by subst e;exact ⟨hb0,Or.inr hnb⟩) (hset.blk (fun e=>hnb (Or.inl e.symm)) hl) rfl h.gone.bad h.gone.off h.gone.got,h.stg.stg.setAgain x,h.stg.vlb,h.stg.s0,h.stg.apart,h.stg.bel.trans (hset.below (fun g e=>by subst e;exact hb0) h.gone.room.gd.env.size)⟩
theorem come_on {N0:Nat} {ash aw:Addr} {w0 w:World} {b lb B:Nat} {q:Int} {W Qn:Nat} {V:LineV} {BV:BrV} {px py:Pkt} {X Y:SideV} {VS:StgV} {T:List Int} {O:List Pkt} {Sn:List Int} {L:Led} (h:StM N0 ash aw w0 b lb B q W Qn [] V BV px py X Y VS T O Sn L w) :
 Calls Tryz.prog 64 #[.pointer (some ⟨b,0,none⟩)] w fun e w'=>e=.returned (.bool true)∧∃ BV' px',Moved N0 ash aw w0 b lb B q W Qn BV' px' py Sn L w':=by
 have hl:=h.rel.len
 have h8:=h.ok.win
 have h88:=h.ok.w8
 have h30:=h.ok.n30
 have cB:w.cell? ⟨lb,0,none⟩=some (.pointer (some ⟨B,0,none⟩)):=by
  have:w.cell? ⟨lb,0,none⟩=some (.pointer (some ⟨V.b,0,none⟩)):=blk_cell h.wh.hall.line.line rfl
  rw [h.wh.hall.line.b] at this
  exact this
 refine comes_any b lb B VS T Sn O w (fun ov w1=>OutsAt w1 ov [(⟨((0:Nat):Int),[],true⟩,.slice none 0 0)]∧Pause N0 ash aw w0 b lb B 0 1 V (BV.setCon 0 (.pointer none)) (D2 X.cv.sp Y.cv.sp) py X Y (ses q W Qn L) { newS (W:Int) Qn with known:=[] } (fun _=>False) VS T O Sn w1) (fun w2=>Pause N0 ash aw w0 b lb B 0 1 (V.setOff 0 true) (BV.setCon 0 (.pointer none)) (D2 X.cv.sp Y.cv.sp) py X Y (ses q W Qn L) { newS (W:Int) Qn with known:=[] } (fun _=>False) VS T O Sn w2) (fun g w3=>∃ BV' px' V' X',Wh N0 ash aw w0 w3 b lb B V' BV' px' py X' Y (ses q W Qn L) { newS (W:Int) Qn with known:=[] } (fun _=>False) { VS with again:=0 } T O Sn∧HelloOf px' [99]∧∀ j,2≤j→BV'.cv j=.pointer none) _ h.wh.stg h.wh.vlb cB ?_ ?_ ?_ ?_
 · refine (pause_close h.wh.hall (Wh.stgF h.wh) (by omega) (by omega) h.hx.clean h.hx.will).mono ?_
   rintro e w1 ⟨q1,n1,c1,rfl,hO,hP,_⟩
   refine ⟨q1,n1,c1,rfl,⟨hO,hP⟩,?_⟩
   have:=blk_cell hP.stg.stg.blk (i:=0) (v:=.pointer (some ⟨VS.lb,0,none⟩)) rfl
   rw [hP.stg.vlb] at this
   exact this
 · rintro ov w1 ⟨hO,hP⟩
   refine (pause_takes hP (by omega) ov hO (h.wh.hall.line.off 0)).mono ?_
   rintro e w2 ⟨rfl,hP2,_⟩
   exact ⟨rfl,hP2,hP2.stg.stg⟩
 · rintro w2 hP2 _
   have hP:=hP2.again 0
   have hgo:=(go_none h.ok).1
   refine (gone_joins (k:=0) (ky:=1) [99] [16,13,0,4,77,81,84,84,4,0,0,0,0,1,99] [32,2,1,0] (helloD [99] false) (fun g n w4 V3 w3=>∃ Ps,RowB lb L g n w4 V3 w3 Ps) hP.gone (by omega) (by omega) (by omega) (fun j hj=>(setCon_ne _ (by omega) _).trans (h.cv j hj)) (by rw [h.hy.client];decide) (by kernel_rfl) (by decide) (by decide) (by kernel_rfl) rfl rfl rfl (by decide) (by decide) rfl rfl (fun u hu=>by
    have hu':u∈L.U.map uwE:=hu
    obtain ⟨v,_,rfl⟩:=List.mem_map.1 hu'
    rfl) hgo (by show (0:Int)≤(L.last:Int);omega) (by simp [ses];omega) (by kernel_rfl) (fun w4 ov Lo V' hg4 _ hl4 hb4 hbad4 hoff4 hgot4 _ hO4 hL4=>take_back h.ok V' w4 ov Lo hg4 hP.gone.lb0 hl4 hbad4 hoff4 (hgot4 0 (fun f=>f)) hO4 hL4)).mono ?_
   rintro e w' ⟨g,n,q1,c1,rfl,hq1,w4,w3,V3,X',fv,cv,rfl,hs4,⟨Ps,hR⟩,hB⟩
   have hS3:=hP.back hB
   obtain ⟨cap,hgot⟩:=hR.got
   have hrow:=hR.row
   rw [hgot] at hrow
   have hge:w4.heap.size≤g:=own_ge hrow rfl
   have hlb4:=hR.llt
   have hgl:g≠lb:=by omega
   have hsz2:(w2.setCell ⟨b,2,none⟩ (.int .i64 0)).heap.size=w2.heap.size:=by simp
   have hb4:b < w4.heap.size:=by have:=hP2.stg.stg.lt (Or.inl rfl);omega
   have hw:Wh N0 ash aw w0 w3 b lb B V3 ((BV.setCon 0 (.pointer none)).setCon 0 (.pointer (some ⟨X'.cv.cb,0,none⟩))) { helloD [99] false with fv:=fv,cv:=cv } py X' Y (ses q W Qn L) { newS (W:Int) Qn with known:=[] } (fun n=>False∨n=0) { VS with again:=0 } T O Sn:=by
    refine ⟨?_,hS3.stg,hS3.vlb,hS3.s0,hS3.apart,hS3.bel⟩
    rw [hB.sp]
    exact hB.hall
   have hw':=(hw.seen 0 (by omega)).only (G':=fun _=>False) (fun n hn=>hn.1.elim id (fun e=>hn.2 e))
   have hdat:∀ (k:Nat) p,(Ps.drop 1)[k]?=some p→∃ u,L.U[k]?=some u∧ReadAs (dupE u) p:=fun k p hp=>by
    rw [List.getElem?_drop] at hp
    have hk2:k < L.U.length:=by have:=(List.getElem?_eq_some_iff.1 hp).1;have:=hR.len;have:=hR.num;omega
    obtain ⟨u,hu⟩:∃ u,L.U[k]?=some u:=⟨_,List.getElem?_eq_getElem hk2⟩
    refine ⟨u,hu,?_⟩
    have:=hR.all (1+k) p hp
    have er:RB L (1+k)=dupE u:=by
     unfold RB
     rw [if_neg (by omega),show 1+k - 1=k by omega,hu]
     rfl
    rw [er] at this
    exact this
   have hnO:n=O.length:=by have:=hR.num;omega
   subst hnO
   refine ⟨g,q1,c1,Ps.drop 1,rfl,hq1,⟨_,_,_,X',hw',⟨rfl,rfl,rfl⟩,fun j hj=>(setCon_ne _ (by omega) _).trans ((setCon_ne _ (by omega) _).trans (h.cv j hj))⟩,⟨hw'.stg,rfl,?_,by omega,by rw [List.length_drop,hR.len];omega,by omega,?_,?_⟩⟩
   · intro k p j u hp hu
     rw [List.getElem?_drop] at hp
     have hj:j < 15:=by
      have:=(Array.getElem?_eq_some_iff.1 hu).1
      simpa [pkK] using this
     have hc:=pk_cell (wr:=w3) hrow hp hR.len rfl j hj (x:=u) (by show (pkK p).toList[j]?=some u;rw [Array.getElem?_toList];exact hu)
     rw [World.cell?_of_block (w:=w3) (Below.heap_setCell _ _ _ _ (fun e=>hgl e)),show 15+k*15+j=(1+k)*15+j by omega]
     exact hc
   · intro k p o hp ho
     obtain ⟨u,hu,fv,cv,e,_⟩:=hdat k p hp
     obtain ⟨u',hu',e1,_,_⟩:=h.rel.at ho
     rw [hu] at hu'
     cases hu'
     rw [e,e1]
     rfl
   · intro k p hp
     obtain ⟨u,hu,fv,cv,e,hsh⟩:=hdat k p hp
     have hk2:k < O.length:=by have:=(List.getElem?_eq_some_iff.1 hu).1;omega
     obtain ⟨o,ho⟩:∃ o,O[k]?=some o:=⟨_,List.getElem?_eq_getElem hk2⟩
     obtain ⟨u',hu',e1,e2,e3⟩:=h.rel.at ho
     rw [hu] at hu'
     cases hu'
     have hid:p.id=o.id:=by rw [e,e1];rfl
     have hun:=(h.ok.idr u (List.mem_of_getElem? hu)).2.2.1
     refine ⟨by rw [e];rfl,by rw [e];rfl,by rw [e];rfl,⟨u.2.1,by omega,by rw [e];rfl⟩,⟨k,o,?_,ho,?_⟩,hsh⟩
     · rw [hid];exact h.rel.idx_at h.ok k o ho
     · rw [e3,e];rfl
 · rintro g w3 w4 ⟨BV',px',V',X',hw,hx',hcv⟩ hb hs
   refine ⟨BV',px',V',X',Y,_,T,O,hw.stage (hb.wide (fun g _ e=>Or.inl e)) hs rfl (fun g hg=>Or.inl hg),⟨h.rel.told,h.rel.opn,h.rel.id,h.rel.win,h.rel.que⟩,h.ok,hx',h.hy,hcv⟩
theorem StM.below {N0:Nat} {ash aw:Addr} {w0 w w':World} {b lb B:Nat} {q:Int} {W Qn:Nat} {kn:List Int} {V:LineV} {BV:BrV} {px py:Pkt} {X Y:SideV} {VS:StgV} {T:List Int} {O:List Pkt} {Sn:List Int} {L:Led} (h:StM N0 ash aw w0 b lb B q W Qn kn V BV px py X Y VS T O Sn L w) (hb:Below w.heap.size w w'):StM N0 ash aw w0 b lb B q W Qn kn V BV px py X Y VS T O Sn L w':=⟨h.wh.below hb,h.rel,h.ok,h.hx,h.hy,h.cv⟩
theorem miss_any {q:Int} {W Qn:Nat} {L:Led} (id:Int) (hi:∀ u∈L.U,(u.1:Int)≠id):endS (isDone id) (ses q W Qn L)=ses q W Qn L∧endS (br.isComp id) (ses q W Qn L)=ses q W Qn L∧idx (fun u=>u.id == id) (ses q W Qn L).under=-1:=by
 have hf:∀ p:Uw→Bool,(∀ u∈L.U,p (uwE u)=false)→(L.U.map uwE).filter (fun u=>!p u)=L.U.map uwE:=fun p hp=>by
  rw [List.filter_eq_self]
  intro x hx
  obtain ⟨u,hu,rfl⟩:=List.mem_map.1 hx
  rw [hp u hu]
  rfl
 refine ⟨?_,?_,?_⟩
 · unfold endS ses
   simp only
   rw [hf (isDone id) (fun u hu=>by simp [isDone,uwE];exact fun e=>(hi u hu e).elim)]
 · unfold endS ses
   simp only
   rw [hf (br.isComp id) (fun u hu=>by simp [br.isComp,uwE])]
 · refine idx_none (fun j x hx=>?_)
   have hx':(L.U.map uwE)[j]?=some x:=hx
   rw [List.getElem?_map] at hx'
   obtain ⟨u,hu,rfl⟩:=Option.map_eq_some_iff.1 hx'
   show ((u.1:Int) == id)=false
   rw [beq_eq_false_iff_ne]
   exact hi u (List.mem_of_getElem? hu)
theorem miss_send {N0:Nat} {ash aw:Addr} {w0 w:World} {b lb B:Nat} {q:Int} {W Qn:Nat} {V:LineV} {BV:BrV} {px py:Pkt} {X Y:SideV} {VS:StgV} {T:List Int} {O:List Pkt} {Sn:List Int} {L:Led} (k id:Int) (hk:k=4∨k=5∨k=7) (h0:1≤id) (h1:id≤65535) (hi:∀ u∈L.U,(u.1:Int)≠id) (h:StM N0 ash aw w0 b lb B q W Qn [] V BV px py X Y VS T O Sn L w) :
 Calls Tryz.prog 50 #[.pointer (some ⟨lb,0,none⟩),.int .i64 0,.agg (pkK (ackK k id))] w fun e w'=>e=.returned (.tuple #[])∧∃ V' X' Y',StM N0 ash aw w0 b lb B q W Qn [] V' BV px py X' Y' VS T O Sn L w':=by
 have hg:Goes (ackK k id):=on.goes_ack k (by omega) id h0 h1
 have hw:=h.ok.win
 have h8:=h.ok.w8
 obtain ⟨m1,m2,m3⟩:=miss_any (q:=q) (W:=W) (Qn:=Qn) id hi
 obtain ⟨n1,n2⟩:=go_none h.ok
 have hone:(ses q W Qn L).waiting = []∨mayS true (ses q W Qn L)=false:=by
  by_cases e:L.Wt = []
  · exact Or.inl (by show L.Wt.map msgE = [];rw [e];rfl)
  · exact Or.inr (by have:=h.ok.full e;simp [mayS,ses];omega)
 refine (send_zero (ackK k id) [] (fun _=>(zP,[],[])) w h.wh rfl rfl hg (outs_nil _ _) (SX':=ses q W Qn L) (SY':={ newS (W:Int) Qn with known:=[] }) (fun w1 g c hh hx=>?_)).mono ?_
 · have hul:(ses q W Qn L).under.length < 65000:=by simp [ses];omega
   rcases hk with rfl | rfl | rfl
   · have hfd:=feed_ack (N0:=N0) (ash:=ash) (aw:=aw) B 0 1 (ackK 4 id) px py (encD (ackK 4 id) [] []) [] BV X Y (ses q W Qn L) { newS (W:Int) Qn with known:=[] } g c w1 hh.room.gd hh.room.blk hh.sx hh.sy hh.x0 hh.y0 hh.room.B0 hh.dis (by omega) hh.vx hh.room.clk hg.pos hg.max hx hg.dec rfl
     rw [show (ackK 4 id).id=id from rfl,m1,n1,n2] at hfd
     exact hfd (fun m hm=>by cases hm) (by show (0:Int)≤(L.last:Int);omega) hul hone
   · exact feed_rec_miss (N0:=N0) (ash:=ash) (aw:=aw) B 0 1 (ackK 5 id) px py (encD (ackK 5 id) [] []) BV X Y (ses q W Qn L) { newS (W:Int) Qn with known:=[] } g c w1 hh.room.gd hh.room.blk hh.sx hh.sy hh.x0 hh.y0 hh.room.B0 hh.dis (by omega) hh.vx hh.room.clk hg.pos hg.max hx hg.dec rfl m3
   · have hfd:=feed_comp (N0:=N0) (ash:=ash) (aw:=aw) B 0 1 (ackK 7 id) px py (encD (ackK 7 id) [] []) [] BV X Y (ses q W Qn L) { newS (W:Int) Qn with known:=[] } g c w1 hh.room.gd hh.room.blk hh.sx hh.sy hh.x0 hh.y0 hh.room.B0 hh.dis (by omega) hh.vx hh.room.clk hg.pos hg.max hx hg.dec rfl
     rw [show (ackK 7 id).id=id from rfl,m2,n1,n2] at hfd
     exact hfd (fun m hm=>by cases hm) (by show (0:Int)≤(L.last:Int);omega) hul hone
 · rintro e w2 ⟨rfl,V2,X2,Y2,hA⟩
   exact ⟨rfl,V2,X2,Y2,hA.wh.only (fun n hn=>hn.elim (fun f=>f) (fun ⟨o,ho,_⟩=>by cases ho)),h.rel,h.ok,h.hx,h.hy,h.cv⟩
def Next (N0:Nat) (ash aw:Addr) (w0:World) (b lb B:Nat) (q:Int) (W Qn n:Nat) (w':World):Prop:=
 ∃ V BV px py X Y VS T O Sn L,StM N0 ash aw w0 b lb B q W Qn [] V BV px py X Y VS T O Sn L w'∧L.n≤n
theorem Next.of {N0:Nat} {ash aw:Addr} {w0:World} {b lb B:Nat} {q:Int} {W Qn n:Nat} {BV:BrV} {px py:Pkt} {Sn:List Int} {L:Led} {w':World} (h:Moved N0 ash aw w0 b lb B q W Qn BV px py Sn L w') (hn:L.n≤n):Next N0 ash aw w0 b lb B q W Qn n w':=by
 obtain ⟨V',X',Y',VS',T',O',k⟩:=h
 exact ⟨V',BV,px,py,X',Y',VS',T',O',Sn,L,k,hn⟩
theorem add_n (L:Led) (o:Option (Nat×Nat×Int)):(add L o).n=L.n:=by
 cases o with
 | none=>rfl
 | some x =>
   obtain ⟨id,k,e⟩:=x
   by_cases he:e=0
   · subst he;rfl
   · rw [add_some he]
theorem wrong_on {N0:Nat} {ash aw:Addr} {w0 w:World} {b lb B:Nat} {q:Int} {W Qn:Nat} {V:LineV} {BV:BrV} {px py:Pkt} {X Y:SideV} {VS:StgV} {T:List Int} {O:List Pkt} {Sn:List Int} {L:Led} (mk mq mn:Int) (hmk:pickN mk 6=4) (hk1:-9223372036854775808≤mk) (hk2:mk≤9223372036854775807) (hn1:-9223372036854775808≤mn) (hn2:mn≤9223372036854775807) (h:StM N0 ash aw w0 b lb B q W Qn [] V BV px py X Y VS T O Sn L w) :
 Calls Tryz.prog 26 #[.pointer (some ⟨b,0,none⟩),.agg #[.int .i64 mk,.int .i64 mq,.int .i64 mn]] w fun e w'=>e=.returned (.bool true)∧Moved N0 ash aw w0 b lb B q W Qn BV px py Sn L w':=by
 have hp:pickN mn 65535 < 65535:=pickN_lt mn (by omega)
 have hI:∀ w',(∃ V' X' Y',StM N0 ash aw w0 b lb B q W Qn [] V' BV px py X' Y' VS T O Sn L w')→w'.cell? ⟨b,0,none⟩=some (.pointer (some ⟨lb,0,none⟩)):=fun w' ⟨V',X',Y',k⟩=>k.wh.cell0
 by_cases hidx:idx (fun q=>q.id == 1+(pickN mn 65535:Int)) O < 0
 · have hi:∀ u∈L.U,(u.1:Int)≠1+(pickN mn 65535:Int):=fun u hu e=>by
    obtain ⟨r,hr⟩:=List.getElem?_of_mem hu
    have hrl:r < O.length:=by have:=(List.getElem?_eq_some_iff.1 hr).1;have:=h.rel.len;omega
    obtain ⟨p,hp⟩:∃ p,O[r]?=some p:=⟨_,List.getElem?_eq_getElem hrl⟩
    obtain ⟨u',hu',e1,_⟩:=h.rel.at hp
    rw [hr] at hu'
    cases hu'
    have e2:p.id=1+(pickN mn 65535:Int):=e1.trans e
    have:=h.rel.idx_at h.ok r p hp
    rw [e2] at this
    omega
   refine stpW mk mq mn (1+(pickN mn 65535:Int)) b lb VS T Sn O w (fun w'=>∃ V' X' Y',StM N0 ash aw w0 b lb B q W Qn [] V' BV px py X' Y' VS T O Sn L w') (fun w'=>∃ V' X' Y',StM N0 ash aw w0 b lb B q W Qn [] V' BV px py X' Y' VS T O Sn L w') _ h.wh.stg h.wh.vlb hmk rfl hk1 hk2 hn1 hn2 (fun h0=>by omega) (fun _ w' hb=>?_) ?_ ?_
   · refine (miss_send 4 _ (by omega) (by omega) (by omega) hi (h.below hb)).mono ?_
     rintro e w2 ⟨rfl,hk⟩
     exact ⟨rfl,hk,hI _ hk⟩
   · rintro w' ⟨V',X',Y',k⟩
     refine (miss_send 5 _ (by omega) (by omega) (by omega) hi k).mono ?_
     rintro e w2 ⟨rfl,hk⟩
     exact ⟨rfl,hk,hI _ hk⟩
   · rintro w' ⟨V',X',Y',k⟩
     refine (miss_send 7 _ (by omega) (by omega) (by omega) hi k).mono ?_
     rintro e w2 ⟨rfl,V2,X2,Y2,hk⟩
     exact ⟨rfl,hk.wh.cell0,V2,hk.wh.hall.line.line,hk.wh.hall.line.got 0 (fun f=>f),_,X2,Y2,VS,T,O,(hk.wh.seen 0 (by omega)).only (fun n hn=>hn.1),h.rel,h.ok,h.hx,h.hy,h.cv⟩
 · refine stpW mk mq mn (1+(pickN mn 65535:Int)) b lb VS T Sn O w (fun _=>False) (fun _=>False) _ h.wh.stg h.wh.vlb hmk rfl hk1 hk2 hn1 hn2 (fun _ w' hb=>⟨V,X,Y,VS,T,O,h.below hb⟩) (fun h0=>(hidx h0).elim) (fun _ f=>f.elim) (fun _ f=>f.elim)
theorem preA_n (r:Nat) (L:Led):(add (preA r L) (ackO L)).n=L.n:=add_n _ _
theorem preP_n (q:Int) (W Qn:Nat) (s:Int) (L:Led) (o:Option (Nat×Nat×Int)):(add (preP q W Qn s L) o).n=L.n+1:=add_n _ _
theorem step_on {N0:Nat} {ash aw:Addr} {w0 w:World} {b lb B:Nat} {q:Int} {W Qn:Nat} {V:LineV} {BV:BrV} {px py:Pkt} {X Y:SideV} {VS:StgV} {T:List Int} {O:List Pkt} {Sn:List Int} {L:Led} (mk mq mn:Int) (n:Nat) (hk1:-9223372036854775808≤mk) (hk2:mk≤9223372036854775807) (hq1:-9223372036854775808≤mq) (hq2:mq≤9223372036854775807) (hn1:-9223372036854775808≤mn) (hn2:mn≤9223372036854775807) (hn:L.n≤n) (h30:n < 30000) (h:StM N0 ash aw w0 b lb B q W Qn [] V BV px py X Y VS T O Sn L w) :
 Calls Tryz.prog 26 #[.pointer (some ⟨b,0,none⟩),.agg #[.int .i64 mk,.int .i64 mq,.int .i64 mn]] w fun e w'=>e=.returned (.bool true)∧Next N0 ash aw w0 b lb B q W Qn (n+1) w':=by
 have hp6:pickN mk 6 < 6:=pickN_lt mk (by omega)
 have hp3:pickN mq 3 < 3:=pickN_lt mq (by omega)
 have hcs:pickN mk 6=0∨pickN mk 6=1∨pickN mk 6=2∨pickN mk 6=3∨pickN mk 6=4∨pickN mk 6=5:=by omega
 rcases hcs with e | e | e | e | e | e
 · have h3:pickN mq 3=0∨pickN mq 3=1∨pickN mq 3=2:=by omega
   rcases h3 with e3 | e3 | e3
   · refine (pub_on01 mk mq mn 0 (Or.inl rfl) e (by rw [e3];rfl) hk1 hk2 hq1 hq2 (by omega) h).mono ?_
     rintro e w' ⟨rfl,k⟩
     exact ⟨rfl,Next.of k (by rw [preP_n];omega)⟩
   · refine (pub_on01 mk mq mn 1 (Or.inr rfl) e (by rw [e3];rfl) hk1 hk2 hq1 hq2 (by omega) h).mono ?_
     rintro e w' ⟨rfl,k⟩
     exact ⟨rfl,Next.of k (by rw [preP_n];omega)⟩
   · refine (pub_on2 mk mq mn e e3 hk1 hk2 hq1 hq2 (by omega) h).mono ?_
     rintro e w' ⟨rfl,k⟩
     exact ⟨rfl,Next.of k (by rw [preP_n];omega)⟩
 · refine stpA mk mq mn b w _ e hk1 hk2 (fun w' hb=>?_)
   have h':=h.below hb
   by_cases hU:L.U.length=0
   · have hO:O = []:=List.eq_nil_of_length_eq_zero (by have:=h.rel.len;omega)
     subst hO
     refine (ack_none b VS T Sn mn w' h'.wh.stg).mono ?_
     rintro e w2 ⟨rfl,hb2⟩
     exact ⟨rfl,V,BV,px,py,X,Y,VS,T,[],Sn,L,h'.below hb2,by omega⟩
   · refine (ack_on mn hn1 hn2 h' (by omega)).mono ?_
     rintro e w2 ⟨rfl,V',X',Y',VS',T',O',k⟩
     exact ⟨rfl,V',BV,px,py,X',Y',VS',T',O',Sn,_,k,by rw [preA_n];omega⟩
 · refine stpC mk mq mn b w _ e hk1 hk2 (fun w' hb=>(come_on (h.below hb)).mono ?_)
   rintro e w2 ⟨rfl,BV',px',k⟩
   exact ⟨rfl,Next.of k (by omega)⟩
 · refine (twice_on false mk mq mn e hk1 hk2 (by omega) h (fun _ _ _=>True) (fun _ _=>True) (fun e=>by cases e)).mono ?_
   rintro e w2 ⟨rfl,BV',py',k⟩
   exact ⟨rfl,Next.of k (by rw [preP_n];omega)⟩
 · refine (wrong_on mk mq mn e hk1 hk2 hn1 hn2 h).mono ?_
   rintro e w2 ⟨rfl,k⟩
   exact ⟨rfl,Next.of k (by omega)⟩
 · refine (twice_on true mk mq mn e hk1 hk2 (by omega) h _ _ (fun _ v=>again_on h.hx v)).mono ?_
   rintro e w2 ⟨rfl,BV',py',k⟩
   exact ⟨rfl,Next.of k (by rw [preP_n];omega)⟩
theorem look_on {N0:Nat} {ash aw:Addr} {w0 w:World} {b lb B:Nat} {q:Int} {W Qn:Nat} {V:LineV} {BV:BrV} {px py:Pkt} {X Y:SideV} {VS:StgV} {T:List Int} {O:List Pkt} {Sn:List Int} {L:Led} (h:StM N0 ash aw w0 b lb B q W Qn [] V BV px py X Y VS T O Sn L w) :
 Calls Tryz.prog 29 #[.pointer (some ⟨B,0,none⟩),.string ⟨#[99]⟩] w fun e w'=>e=.returned (.agg #[.bool true,.bool true,.int .i64 ((1:Nat):Int),.int .i64 (L.Wt.length:Int),.int .i64 (O.length:Int)])∧Below w.heap.size w w':=by
 have hk:=bLook_any B 2 X.cv.sp [99] (D2 X.cv.sp Y.cv.sp) BV (.slice none 0 0) [] X.sv (ses q W Qn L) (X.x,X.y) w h.wh.hall.room.blk h.wh.hall.room.map (by decide) rfl rfl h.wh.hall.sx.ses h.wh.hall.sx.snd
 have e:lookV true (ses q W Qn L)=.agg #[.bool true,.bool true,.int .i64 ((1:Nat):Int),.int .i64 (L.Wt.length:Int),.int .i64 (O.length:Int)]:=by
  rw [h.rel.len]
  simp [lookV,ses]
 rw [e] at hk
 exact hk
theorem bound_on {N0:Nat} {ash aw:Addr} {w0 w:World} {b lb B:Nat} {q:Int} {W Qn n:Nat} (h:Next N0 ash aw w0 b lb B q W Qn n w) :
 Calls Tryz.prog 27 #[.pointer (some ⟨b,0,none⟩)] w fun e w'=>e=.returned (.bool true)∧Next N0 ash aw w0 b lb B q W Qn n w':=by
 obtain ⟨V,BV,px,py,X,Y,VS,T,O,Sn,L,k,hn⟩:=h
 have hl:=k.rel.len
 have hw:=k.ok.win
 have hq:=k.ok.que
 refine (bounded_any b lb B VS V T Sn O 1 L.Wt.length w k.wh.stg k.wh.vlb k.wh.hall.line.line k.wh.hall.line.b k.wh.hall.line.bad (look_on k) rfl (by rw [k.rel.win];omega) (by rw [k.rel.que];omega) ?_).mono ?_
 · by_cases e:L.Wt = []
   · exact Or.inl (by rw [e];rfl)
   · exact Or.inr (by have:=k.ok.full e;rw [k.rel.win];omega)
 · rintro e w' ⟨rfl,hb⟩
   exact ⟨rfl,V,BV,px,py,X,Y,VS,T,O,Sn,L,k.below hb,hn⟩
set_option maxRecDepth 100000 in
theorem ask_three {N0:Nat} {ash aw:Addr} (lb B:Nat) (q Wi:Int) (Qn:Nat) (hq:q=0∨q=1∨q=2) (ph:Pkt) (V:LineV) (BV:BrV) (D:DataW Unit) (X:SideV) (w:World) (hR:Room N0 ash aw w B BV 1 D) (hL:LineOf N0 w lb B V (fun _=>False)) (hS:Side w B 0 X ph (newS Wi Qn)) (hX0:∀ g,X.has g→N0≤g) (hXm:X.sv.kb≠BV.mb) (hv:BV.cv 0=.pointer (some ⟨X.cv.cb,0,none⟩)) :
 Calls Tryz.prog 49 #[.pointer (some ⟨lb,0,none⟩),.int .i64 0,.string (bs [35]),.int .i64 q] w fun e w'=>e=.returned (.bool true)∧∃ V' X',LineOf N0 w' lb B V' (fun _=>False)∧Room N0 ash aw w' B BV 1 D∧Side w' B 0 X' ph { newS Wi Qn with filters:=[([35],q)] }∧X'.cv.cb=X.cv.cb∧X'.cv.sp=X.cv.sp∧X'.sv.kb=X.sv.kb∧(∀ g,X'.has g→X.has g∨w.heap.size≤g)∧But (fun g=>g=lb∨g=B∨X.has g) w w':=by
 rcases hq with rfl | rfl | rfl
 · exact ask_hall lb B 0 1 ([35],0) [130,6,0,1,0,1,35,0] [144,3,0,1,0] askD _ sackD V BV D X (newS Wi Qn) [([35],0)] w hR hL hS hX0 hXm (by omega) hv (fun fv=>by kernel_rfl) (by decide) (by decide) (by kernel_rfl) rfl rfl (fun cv=>by kernel_rfl) (by decide) (by decide) (by kernel_rfl) rfl
 · exact ask_hall lb B 0 1 ([35],1) [130,6,0,1,0,1,35,1] [144,3,0,1,1] askD _ sackD V BV D X (newS Wi Qn) [([35],1)] w hR hL hS hX0 hXm (by omega) hv (fun fv=>by kernel_rfl) (by decide) (by decide) (by kernel_rfl) rfl rfl (fun cv=>by kernel_rfl) (by decide) (by decide) (by kernel_rfl) rfl
 · exact ask_hall lb B 0 1 ([35],2) [130,6,0,1,0,1,35,2] [144,3,0,1,2] askD _ sackD V BV D X (newS Wi Qn) [([35],2)] w hR hL hS hX0 hXm (by omega) hv (fun fv=>by kernel_rfl) (by decide) (by decide) (by kernel_rfl) rfl rfl (fun cv=>by kernel_rfl) (by decide) (by decide) (by kernel_rfl) rfl
set_option maxRecDepth 100000 in
theorem begun_on (win que qos q:Int) (hq3:(pickN qos 3:Int)=q) (h5:-9223372036854775808≤qos) (h6:qos≤9223372036854775807) (h1:-9223372036854775808≤win) (h2:win≤9223372036854775807) (h3:-9223372036854775808≤que) (h4:que≤9223372036854775807) (w:World) (ash aw:Addr) (hG:Gd w.heap.size ash aw w) :
 Calls Tryz.prog 25 #[.int .i64 win,.int .i64 que,.int .i64 qos] w fun e w'=>∃ b lb,e=.returned (.pointer (some ⟨b,0,none⟩))∧(∃ B,Next w.heap.size ash aw w b lb B q (1+pickN win 8) (pickN que 9) 0 w'):=by
 have l1:pickN win 8 < 8:=pickN_lt _ (by omega)
 have l2:pickN que 9 < 9:=pickN_lt _ (by omega)
 have l3:=hq3
 have lq:pickN qos 3 < 3:=pickN_lt _ (by omega)
 have hq:q=0∨q=1∨q=2:=by omega
 refine (begun_any win que qos w (BgA w.heap.size ash aw w (1+(pickN win 8:Int)) (pickN que 9:Int)) (BgB w.heap.size ash aw w (1+(pickN win 8:Int)) (pickN que 9:Int) (newS (1+(pickN win 8:Int)) (pickN que 9))) (BgB w.heap.size ash aw w (1+(pickN win 8:Int)) (pickN que 9:Int) { newS (1+(pickN win 8:Int)) (pickN que 9) with filters:=[([35],q)] }) (fun b lb w'=>(∃ B,Next w.heap.size ash aw w b lb B q (1+pickN win 8) (pickN que 9) 0 w')) h1 h2 h3 h4 h5 h6 (sure_head w ash aw hG) ?_ ?_ ?_ ?_ ?_ ?_ ?_ ?_).mono ?_
 · generalize pickN win 8=W at *
   generalize pickN que 9=Q at *
   intro w1 b hb1 hle hblk
   refine (opened_any (1+(W:Int)) (Q:Int) w1 (by omega) (by omega) (by omega) (by omega)).mono ?_
   rintro e w2 ⟨lb,B,mb,rfl,hb,hB,hm,hl,n1,n2,k1,k2,k3⟩
   have hbk:=hb.block b (blk_lt hblk)
   have hblk2:=hbk.trans hblk
   have hs1:=hb1.size
   have hb02:Below w.heap.size w w2:=hb1.trans (hb.mono hs1)
   have hR:Room w.heap.size ash aw w2 B ⟨1+(W:Int),(Q:Int),fun _=>.pointer none,mb,.slice none 0 0,0⟩ 0 (.map []):=⟨hG.below hb02,k2,by omega,by show w.heap.size≤mb;omega,rfl,by show (1:Int)≤1+(W:Int);omega,by show (Q:Int)≤8;omega,rfl,k3⟩
   obtain ⟨m1,m2,m3⟩:=stage_ne hR k1 hblk2
   have hset:But (fun g=>g=b) w2 (w2.setCell ⟨b,0,none⟩ (.pointer (some ⟨lb,0,none⟩))):=But.set (F:=fun g=>g=b) _ _ _ rfl
   refine ⟨lb,rfl,hbk,⟨below_of hb02 hset (fun g e=>by subst e;exact hle) (Nat.le_refl _),hle,by rw [blk_set _ hblk2];rfl⟩,B,_,_,hR.but hset (fun e=>m2 e.symm) (fun e=>m3 e.symm) (fun g e=>by subst e;exact hle),(LineOf.mk k1 (by omega) rfl rfl (fun _=>rfl) (fun _ _=>rfl)).but hset (fun e=>m1 e.symm),⟨rfl,rfl⟩,fun _=>rfl⟩
 · exact fun b lb w' h=>h.1.cell
 · exact fun b lb w' h=>h.1.cell
 · exact fun b lb w' h=>h.1.cell
 · rintro b lb w1 w2 ⟨hX,B,V,BV,X,fv,cv,hR,hL,hS,hX0,hXm,hv,hwq,hvn⟩ hb
   have hbut:But (fun _=>False) w1 w2:=But.of_below hb
   exact ⟨hX.but hbut (Nat.le_refl _) (fun _ e=>e.elim) (fun e=>e),B,V,BV,X,fv,cv,hR.but hbut (fun e=>e) (fun e=>e) (fun _ e=>e.elim),hL.but hbut (fun e=>e),hS.below hb,hX0,hXm,hv,hwq,hvn⟩
 · generalize pickN win 8=W at *
   generalize pickN que 9=Q at *
   rintro b lb w1 ⟨hX,B,V,BV,hR,hL,hwq,hcv⟩
   refine (join_hall lb B 0 0 Q [99] false [16,13,0,4,77,81,84,84,4,0,0,0,0,1,99] [32,2,0,0] (helloD [99] false) ackD V BV (.map []) (fun _=>none) w1 hR hL (by omega) (hcv 0) hwq.2 (by omega) (fun j _ _=>hcv j) (fun _ _ _=>trivial) (by decide) (by decide) rfl (by decide) (by omega) (by kernel_rfl) (by decide) (by decide) (by kernel_rfl) rfl rfl (by kernel_rfl) (by decide) (by decide) (by kernel_rfl) rfl rfl).mono ?_
   rintro e w2 ⟨v,rfl,V',X,fv,cv,hL',hR',hS',hX',hbut⟩
   have hs:w.heap.size≤w1.heap.size:=hX.bel.size
   obtain ⟨m1,m2,m3⟩:=stage_ne hR hL.line hX.stg
   refine ⟨v,rfl,hX.but hbut (Nat.le_refl _) (fun g e=>?_) (fun e=>?_),B,V',_,X,fv,cv,hR',hL',by have h9:=hS';rw [hwq.1] at h9;exact h9,fun g hg=>Nat.le_trans hs (hX' g hg),fun e=>?_,setCon_same _ _ _,hwq,fun j hj=>(setCon_ne _ hj _).trans (hcv j)⟩
   · rcases e with rfl | rfl | rfl
     · exact hL.lb0
     · exact hR.B0
     · exact hR.mb0
   · rcases e with e | e | e
     · exact m1 e
     · exact m2 e
     · exact m3 e
   · obtain ⟨es,cl,hmb⟩:=map_blk hR.map
     have h1:=hX' X.sv.kb (Or.inr (Or.inl (Or.inr (Or.inr (Or.inl rfl)))))
     have h2:=blk_lt hmb
     have e':X.sv.kb=BV.mb:=e
     omega
 · rw [l3]
   generalize pickN win 8=W at *
   generalize pickN que 9=Q at *
   rintro b lb w2 ⟨hX,B,V,BV,X,fv,cv,hR,hL,hS,hX0,hXm,hv,hwq,hvn⟩
   refine (ask_three lb B q _ Q hq _ V BV _ X w2 hR hL hS hX0 hXm hv).mono ?_
   rintro e w3 ⟨rfl,V',X',hL',hR',hS',e1,e2,e3,hX',hbut⟩
   have hs:w.heap.size≤w2.heap.size:=hX.bel.size
   obtain ⟨m1,m2,m3⟩:=stage_ne hR hL.line hX.stg
   refine ⟨rfl,hX.but hbut (Nat.le_refl _) (fun g e=>?_) (fun e=>?_),B,V',BV,X',fv,cv,by rw [e2];exact hR',hL',hS',fun g hg=>(hX' g hg).elim (hX0 g) (fun h=>Nat.le_trans hs h),by rw [e3];exact hXm,by rw [e1];exact hv,hwq,hvn⟩
   · rcases e with rfl | rfl | e
     · exact hL.lb0
     · exact hR.B0
     · exact hX0 g e
   · rcases e with e | e | e
     · exact m1 e
     · exact m2 e
     · exact Side.notS hS hX.stg e
 · generalize pickN win 8=W at *
   generalize pickN que 9=Q at *
   rintro b lb w3 ⟨hX,B,V,BV,X,fv,cv,hR,hL,hS,hX0,hXm,hv,hwq,hvn⟩
   refine (join_hall lb B 1 1 Q [100] false [16,13,0,4,77,81,84,84,4,0,0,0,0,1,100] [32,2,0,0] (helloD [100] false) ackD V BV (D1 X.cv.sp) (fun j=>if j=0 then some (X.cv,⟨[],0,some { helloD [99] false with fv:=fv,cv:=cv }⟩) else none) w3 hR hL (by omega) (hvn 1 (by decide)) hwq.2 (by omega) (fun j _ hj1=>?_) (fun j _ _=>?_) (by decide) (by decide) rfl (by show (1:Nat) < 8;decide) (by omega) (by kernel_rfl) (by decide) (by decide) (by kernel_rfl) rfl rfl (by kernel_rfl) (by decide) (by decide) (by kernel_rfl) rfl rfl).mono ?_
   · show ConO w3 B BV j (if j=0 then _ else none)
     by_cases hj:j=0
     · subst hj;rw [if_pos rfl];exact ⟨hv,hS.con⟩
     · rw [if_neg hj];exact hvn j hj
   · show notFor [100] (if j=0 then _ else none)
     by_cases hj:j=0
     · rw [if_pos hj];intro q hq;cases hq;show ([99]:List UInt8)≠[100];decide
     · rw [if_neg hj];trivial
   · rintro e w4 ⟨v,rfl,V',X1,fv1,cv1,hL',hR',hS',hX1,hbut⟩
     have hs:w.heap.size≤w3.heap.size:=hX.bel.size
     obtain ⟨es,cl,hmb⟩:=map_blk hR.map
     have hlb:w3.heap[lb]?=some (.cells (lineC V) 60):=hL.line
     obtain ⟨m1,m2,m3⟩:=stage_ne hR hL.line hX.stg
     have hF0:∀ g,(g=lb∨g=B∨g=BV.mb)→w.heap.size≤g:=fun g e=>by
      rcases e with rfl | rfl | rfl
      · exact hL.lb0
      · exact hR.B0
      · exact hR.mb0
     have hX4:=hX.but hbut (Nat.le_refl _) hF0 (fun e=>by
      rcases e with e | e | e
      · exact m1 e
      · exact m2 e
      · exact m3 e)
     have hS4:=hS.but hbut (fun g hg e=>by
      rcases e with rfl | rfl | rfl
      · exact hS.not hlb (by decide) (by decide) hg
      · exact hS.notB hR.blk.blk hg
      · exact hS.notMap hmb (fun e=>hXm e.symm) hg)
     have hblt:=blk_lt hX.stg
     have eW:((1+W:Nat):Int)=1+(W:Int):=by omega
     have hSX:Side w4 B 0 X { helloD [99] false with fv:=fv,cv:=cv } (ses q (1+W) Q ⟨[],[],[],0,0⟩):=by
      unfold ses
      rw [eW]
      exact hS4
     have hSY:Side w4 B 1 X1 { helloD [100] false with fv:=fv1,cv:=cv1 } (newS ((1+W:Nat):Int) Q):=by
      rw [eW]
      have h9:=hS'
      rw [hwq.1] at h9
      exact h9
     have hwh:Wh w.heap.size ash aw w w4 b lb B V' (BV.setCon 1 (.pointer (some ⟨X1.cv.cb,0,none⟩))) { helloD [99] false with fv:=fv,cv:=cv } { helloD [100] false with fv:=fv1,cv:=cv1 } X X1 (ses q (1+W) Q ⟨[],[],[],0,0⟩) { newS ((1+W:Nat):Int) Q with known:=[] } (fun _=>False) (vs0 lb (1+(W:Int)) (Q:Int)) [] [] []:=by
      refine ⟨⟨hR',hL',hSX,hSY,hX0,fun g hg=>Nat.le_trans hs (hX1 g hg),hXm,fun e=>?_,fun g h1 h2=>?_,(setCon_ne _ (by decide) _).trans hv,setCon_same _ _ _⟩,⟨hX4.stg,⟨rfl,Or.inl ⟨rfl,rfl⟩⟩,⟨rfl,Or.inl ⟨rfl,rfl⟩⟩,⟨rfl,Or.inl ⟨rfl,rfl⟩⟩,(fun p hp=>by cases hp),(fun g hg=>by cases hg)⟩,rfl,fun g hg=>?_,fun g hg i=>?_,hX4.bel⟩
      · have h1:=hX1 X1.sv.kb (Or.inr (Or.inl (Or.inr (Or.inr (Or.inl rfl)))))
        have h2:=blk_lt hmb
        have e':X1.sv.kb=BV.mb:=e
        omega
      · have:=hS.lt h1;have:=hX1 g h2;omega
      · rcases hg with rfl | hg | hg | hg
        · exact hX.b0
        · cases hg
        · cases hg
        · cases hg
      · have hgb:g=b:=by
         rcases hg with rfl | hg | hg | hg
         · rfl
         · cases hg
         · cases hg
         · cases hg
        subst hgb
        rcases i with i | i | i | i | i
        · exact m1 i
        · exact m2 i
        · exact m3 i
        · exact Side.notS hS hX.stg i
        · have:=hX1 g i;omega
     refine ⟨v,rfl,B,V',_,_,_,X,X1,_,[],[],[],⟨[],[],[],0,0⟩,⟨hwh,⟨rfl,rfl,rfl,by show 1+(W:Int)=((1+W:Nat):Int);omega,rfl⟩,⟨⟨rfl,by show (0:Nat)≤30000;decide,Nat.le_refl _,List.Pairwise.nil,(fun u hu=>by cases hu),(fun x hx=>by cases hx),by show (0:Nat)≤1+W;omega,by show (0:Nat)≤Q;omega,by omega,by omega,by omega,hq,by show (0:Nat)+0≤0;omega,by show (0:Nat)+0≤0;omega,List.Pairwise.nil,(fun a ha=>by cases ha),List.Pairwise.nil,(fun x hx=>by cases hx),(fun x hx=>by cases hx)⟩,fun e=>(e rfl).elim⟩,⟨rfl,rfl,rfl⟩,⟨rfl,rfl,rfl⟩,fun j hj=>(setCon_ne _ (by omega) _).trans (hvn j (by omega))⟩,Nat.le_refl _⟩
 · rintro e w' ⟨b,lb,rfl,h⟩
   exact ⟨b,lb,rfl,h⟩
def Left (N0:Nat) (ash aw:Addr) (w0:World) (b:Nat) (q:Int) (W Qn n:Nat) (w:World):Prop:=
 ∃ lb B V BV px py X Y VS T O Sn L,StM N0 ash aw w0 b lb B q W Qn [] V BV px py X Y VS T O Sn L w∧L.U.length+L.Wt.length=n
theorem ack_left {q:Int} {W Qn:Nat} {Sn:List Int} {L:Led} (h:Ok q W Qn Sn L) (hp:0 < L.U.length):(add (preA (pickN 0 L.U.length) L) (ackO L)).U.length+(add (preA (pickN 0 L.U.length) L) (ackO L)).Wt.length+1=L.U.length+L.Wt.length:=by
 have hr:pickN 0 L.U.length < L.U.length:=pickN_lt 0 hp
 have hl:(L.U.eraseIdx (pickN 0 L.U.length)).length+1=L.U.length:=by rw [List.length_eraseIdx];split<;>omega
 cases hW:L.Wt with
 | nil =>
   have e:add (preA (pickN 0 L.U.length) L) (ackO L) = { L with U:=L.U.eraseIdx (pickN 0 L.U.length),Wt:=[] }:=by
    unfold ackO;rw [hW];show preA (pickN 0 L.U.length) L=_;unfold preA;rw [hW];rfl
   rw [e]
   simp
   omega
 | cons x t =>
   have hx:=(h.wq x (by rw [hW];simp)).2
   have hx0:x.2≠0:=by omega
   have ea:ackO L=some (L.last+1,x.1,x.2):=by unfold ackO;rw [hW]
   have ep:preA (pickN 0 L.U.length) L = { L with U:=L.U.eraseIdx (pickN 0 L.U.length),Wt:=t }:=by unfold preA;rw [hW];rfl
   rw [ea,ep,add_some hx0]
   simp
   omega
theorem once_on (win que qos:Int) (p:Option Addr) (cp:Nat) (Ms:List (Int×Int×Int)) (h1:-9223372036854775808≤win) (h2:win≤9223372036854775807) (h3:-9223372036854775808≤que) (h4:que≤9223372036854775807) (h5:-9223372036854775808≤qos) (h6:qos≤9223372036854775807) (w:World) (ash aw:Addr) (hG:Gd w.heap.size ash aw w) (hMs:MovesAt w p Ms) (hMl:Ms.length≤9223372036854775807)
 (hMr:∀ (i:Nat) m,Ms[i]?=some m→(-9223372036854775808≤m.1∧m.1≤9223372036854775807)∧(-9223372036854775808≤m.2.1∧m.2.1≤9223372036854775807)∧(-9223372036854775808≤m.2.2∧m.2.2≤9223372036854775807)) :
 Calls Tryz.prog 8 #[.int .i64 win,.int .i64 que,.int .i64 qos,.slice p Ms.length cp] w fun e w'=>e=.returned (.bool true)∧Below w.heap.size w w':=by
 have l1:pickN win 8 < 8:=pickN_lt _ (by omega)
 have l2:pickN que 9 < 9:=pickN_lt _ (by omega)
 refine once_any win que qos p cp Ms w (fun b k w'=>∃ lb B,Next w.heap.size ash aw w b lb B (pickN qos 3:Int) (1+pickN win 8) (pickN que 9) k w') (fun b k w'=>∃ lb B,Next w.heap.size ash aw w b lb B (pickN qos 3:Int) (1+pickN win 8) (pickN que 9) k w') (fun b n w'=>Left w.heap.size ash aw w b (pickN qos 3:Int) (1+pickN win 8) (pickN que 9) n w') _ h5 h6 hMs hMl ?_ ?_ ?_ ?_ ?_ ?_ ?_ ?_ ?_
 · refine (begun_on win que qos _ rfl h5 h6 h1 h2 h3 h4 w ash aw hG).mono ?_
   rintro e w2 ⟨b,lb,rfl,B,hN⟩
   exact ⟨b,rfl,lb,B,hN⟩
 · rintro b k w1 w2 ⟨lb,B,V,BV,px,py,X,Y,VS,T,O,Sn,L,hk,hn⟩ hb
   exact ⟨lb,B,V,BV,px,py,X,Y,VS,T,O,Sn,L,hk.below hb,hn⟩
 · rintro b k w1 ⟨lb,B,V,BV,px,py,X,Y,VS,T,O,Sn,L,hk,hn⟩
   exact hk.wh.bel
 · rintro b k w1 m hk3 hm ⟨lb,B,V,BV,px,py,X,Y,VS,T,O,Sn,L,hk,hn⟩
   obtain ⟨⟨a1,a2⟩,⟨a3,a4⟩,a5,a6⟩:=hMr k m hm
   refine (step_on m.1 m.2.1 m.2.2 k a1 a2 a3 a4 a5 a6 hn hk3 hk).mono ?_
   rintro e w2 ⟨rfl,hN⟩
   exact ⟨rfl,lb,B,hN⟩
 · rintro b k w1 ⟨lb,B,hN⟩
   refine (bound_on hN).mono ?_
   rintro e w2 ⟨rfl,hN⟩
   exact ⟨rfl,lb,B,hN⟩
 · rintro b k w1 ⟨lb,B,V,BV,px,py,X,Y,VS,T,O,Sn,L,hk,hn⟩
   have:=hk.ok.win
   have:=hk.ok.que
   exact ⟨L.U.length+L.Wt.length,by omega,lb,B,V,BV,px,py,X,Y,VS,T,O,Sn,L,hk,rfl⟩
 · rintro b n w1 ⟨lb,B,V,BV,px,py,X,Y,VS,T,O,Sn,L,hk,hn⟩
   obtain ⟨q3,c3,e3⟩:=br.own_form hk.wh.stg.opn
   have hl:=hk.rel.len
   have hc:w1.cell? ⟨b,3,none⟩=some VS.pv:=blk_cell hk.wh.stg.blk rfl
   rw [e3] at hc
   refine ⟨q3,O.length,c3,hc,fun h=>?_,fun h=>?_⟩
   · by_cases e:L.Wt = []
     · rw [e] at hn;simp at hn;omega
     · have:=hk.ok.full e;have:=hk.ok.w1;omega
   · omega
 · rintro b n w1 ⟨lb,B,V,BV,px,py,X,Y,VS,T,O,Sn,L,hk,hn⟩
   have hp:0 < L.U.length:=by
    by_cases e:L.Wt = []
    · rw [e] at hn;simp at hn;omega
    · have:=hk.ok.full e;have:=hk.ok.w1;omega
   refine (ack_on 0 (by omega) (by omega) hk hp).mono ?_
   rintro e w2 ⟨rfl,V',X',Y',VS',T',O',k⟩
   exact ⟨rfl,lb,B,V',BV,px,py,X',Y',VS',T',O',Sn,_,k,by have:=ack_left hk.ok hp;omega⟩
 · rintro b w1 ⟨lb,B,V,BV,px,py,X,Y,VS,T,O,Sn,L,hk,hn⟩
   have cB:w1.cell? ⟨lb,0,none⟩=some (.pointer (some ⟨B,0,none⟩)):=by
    have:w1.cell? ⟨lb,0,none⟩=some (.pointer (some ⟨V.b,0,none⟩)):=blk_cell hk.wh.hall.line.line rfl
    rw [hk.wh.hall.line.b] at this
    exact this
   refine ⟨lb,B,hk.wh.cell0,cB,(look_on hk).mono ?_⟩
   rintro e w2 ⟨rfl,hb2⟩
   have hl:=hk.rel.len
   have hO0:O.length=0:=by omega
   have hW0:L.Wt.length=0:=by omega
   refine ⟨⟨1,by rw [hO0,hW0];rfl⟩,fun w3 hb3=>?_⟩
   have hk3:=(hk.below hb2).below hb3
   have h30:=hk.ok.n30
   have hcnt:=hk.ok.cnt
   refine (ordered_any b _ VS T Sn O w3 hk3.wh.stg (hk.ok.ord hk.rel) (by rw [hk.rel.told,List.length_map];omega) (by rw [hk.ok.len];omega)).mono ?_
   rintro e w4 ⟨rfl,hb4⟩
   exact ⟨rfl,hk3.wh.bel.trans (hb4.mono hk3.wh.bel.size)⟩
end on
end Go.Proofs.YtnmfmoimjkoieaaGreatDoor
