import Derived.Test.YtnmfmoimjkoieaaGreatDoorF35
import Derived.Test.YtnmfmoimjkoieaaGreatDoorF32
import Derived.Test.YtnmfmoimjkoieaaGreatDoorF29
import Derived.Test.YtnmfmoimjkoieaaGreatDoorF33
import Derived.Test.YtnmfmoimjkoieaaGreatDoorF34
import Derived.Test.YtnmfmoimjkoieaaGreatDoorF27
namespace Go.Proofs.YtnmfmoimjkoieaaGreatDoor
namespace br
open Go.RowKit topPlain topWalks decPlain rd ew encPlain rf
def ToldG (B:Nat) (BV:BrV) (Y:SideV) (SY':Ses) (os:List OutS) (wP a:World):Prop:=
 ∃ uv' ov' M,But (fun g=>Y.sv.has Y.cv.sp g∨g=B) wP a∧SesAt a Y.cv.sp { Y.sv with uv:=uv' } SY'∧BlkAt a B BV ov' M∧M.map Prod.fst=os∧(uv'.ownBlock=Y.sv.uv.ownBlock∨∃ b,uv'.ownBlock=some b∧wP.heap.size≤b)∧∀ b,ov'.ownBlock=some b→wP.heap.size≤b
theorem ToldG.below {B:Nat} {BV:BrV} {Y:SideV} {SY':Ses} {os:List OutS} {wP a b:World} (h:ToldG B BV Y SY' os wP a) (hb:Below a.heap.size a b):ToldG B BV Y SY' os wP b:=by
 obtain ⟨uv',ov',M,h1,h2,h3,h4,h5,h6⟩:=h
 exact ⟨uv',ov',M,h1.trans (But.of_below (F:=fun _=>False) hb) (fun _ _ f=>f.elim),h2.below hb,h3.below hb,h4,h5,h6⟩
theorem publish_gen {N0:Nat} {ash aw:Addr} (B kx ky nn:Nat) (m:Msg) (cY cX d0:List UInt8) (q0 q1:Int) (D:DataW Unit) (px py:Pkt) (BV:BrV) (X Y:SideV) (SX SY:Ses) (w:World) (hG:Gd N0 ash aw w) (h:BlkAt w B BV (.slice none 0 0) []) (hX:Side w B kx X px SX) (hY:Side w B ky Y py SY) (hM:w.ownsMap Tryz.prog 9 ptrElem BV.mb nn D) (hY0:∀ g,Y.has g→N0≤g) (hNB:N0≤B) (hYm:Y.sv.kb≠BV.mb) (hdis:∀ g,X.has g→¬ Y.has g)
 (hr:m.retain=false) (hks:∀ ss:List (List UInt8),ss.Perm (strKeys D)→ss.mergeSort (fun x y=>decide (x≤y)) = [cY,cX]) (hsz:Maps.size D≤1000000) (hcY:cY.length≤1000) (hcX:cX.length≤1000) (hatY:D.atKey (.string cY) .nil=.lit (.int .i64 ((Y.cv.sp:Nat):Int))) (hatX:D.atKey (.string cX) .nil=.lit (.int .i64 ((X.cv.sp:Nat):Int)))
 (ht:m.topic.length≤65535) (hfY:∀ f∈SY.filters,f.1.length≤65535) (hfX:∀ f∈SX.filters,f.1.length≤65535) (haY:asksS m.topic SY.filters 0 false=(q0,true)) (haX:asksS m.topic SX.filters 0 false=(q1,false))
 (hdd:encD (pktS (toldS m q0 false) (tellId SY (toldS m q0 false))) [] []=d0) (hl0:0≤SY.last) (hu0:SY.under.length < 65000) :
 Calls Tryz.prog 110 #[.pointer (some ⟨B,0,none⟩),msgV m] w fun e w'=>e=.returned (.tuple #[])∧ToldG B BV Y (tellS true SY (toldS m q0 false)) (tellO (ky:Int) Y.sv.snd SY (toldS m q0 false) d0) w w':=by
 obtain ⟨es,cl,hmb⟩:=map_blk hM
 have nYm:¬ Y.has BV.mb:=hY.notMap hmb (fun e=>hYm e.symm)
 have nMB:BV.mb≠B:=fun e=>by have:=h.blk;rw [← e,hmb] at this;simp at this
 have hs0:∀ g,Y.sv.has Y.cv.sp g→N0≤g:=fun g hg=>hY0 g (Or.inr (Or.inl hg))
 have hltm:=blk_lt hmb
 have hF0:∀ g,(Y.sv.has Y.cv.sp g∨g=B)→N0≤g:=fun g e=>e.elim (hs0 g) (fun e=>by subst e;exact hNB)
 have hon:Y.sv.snd.isSome=true:=by rw [hY.snd];rfl
 refine (publish_any B BV.mb nn m D [cY,cX] w (fun k a=>match k with | 0=>Below w.heap.size w a | _=>ToldG B BV Y (tellS true SY (toldS m q0 false)) (tellO (ky:Int) Y.sv.snd SY (toldS m q0 false) d0) w a) hr hks hsz (fun _ hb=>hb) ?_ ?_ ?_).mono ?_
 · intro k a hJ
   match k,hJ with
   | 0,hJ=>exact ⟨blk_cell (h.below hJ).blk rfl,map_keep hM (hJ.block _ hltm)⟩
   | k+1,hJ =>
     obtain ⟨uv',ov',M,g1,g2,g3,g4,g5,g6⟩:=hJ
     exact ⟨blk_cell g3.blk rfl,map_keep hM (g1.keep _ hltm (fun e=>e.elim (fun e=>nYm (Or.inr (Or.inl e))) nMB))⟩
 · intro k a b hJ hab
   match k,hJ with
   | 0,hJ=>exact Below.trans hJ (hab.mono (Below.size hJ))
   | k+1,hJ=>exact ToldG.below hJ hab
 · intro k c hk
   match k,hk with
   | 0,hk =>
     simp at hk
     subst hk
     refine ⟨hcY,Y.cv.sp,q0,true,hatY,fun a hJ=>?_,fun _ a hJ=>?_,fun e=>(by cases e)⟩
     · have hJ':Below w.heap.size w a:=hJ
       have:=asks_any Y.cv.sp Y.sv SY m.topic a (hY.below hJ').ses (hG.below (hJ'.mono hG.env.size)).env.inv ht hfY
       rw [haY] at this
       exact this
     · have hJ':Below w.heap.size w a:=hJ
       have hGa:Gd N0 ash aw a:=hG.below (hJ'.mono hG.env.size)
       have hSa:=hY.below hJ'
       have hE:EncOK N0 a (pktS (toldS m q0 false) (tellId SY (toldS m q0 false))) d0:=by rw [← hdd];exact hGa.enc _ rfl rfl
       have hBa:=h.below hJ'
       refine (tell_any (N0:=N0) Y.cv.sp B Y.cv.cb (ky:Int) (toldS m q0 false) d0 Y.sv SY BV (.slice none 0 0) [] a hE hs0 hSa.ses hBa (fun x y e=>?_) (by simp) hl0 hu0).mono ?_
       · rw [hSa.snd] at e
         cases e
         exact hSa.snk
       · rintro e a' ⟨rfl,hw,uv',g1,g2⟩
         rw [hon] at g1
         obtain ⟨ov',M,b1,b2,b3,b4,b5⟩:=hw
         have b3':But (fun g=>Y.sv.has Y.cv.sp g∨g=B) a a':=b3.wide (fun x _ e=>e.imp id (fun e=>e.elim id (fun e=>by cases e)))
         refine ⟨rfl,⟨uv',ov',M,(But.of_below hJ').trans b3' (fun _ _ f=>f),g1,b1,b2,g2.imp id (fun ⟨b,e1,e2⟩=>⟨b,e1,Nat.le_trans hJ'.size e2⟩),fun b hb=>?_⟩,b3'.size,fun g i1 i2=>b3'.keep g i2 (fun hh=>?_)⟩
         · rcases b4 with e | ⟨b',e1,e2⟩
           · rw [e] at hb;cases hb
           · rw [e1] at hb;cases hb;exact Nat.le_trans hJ'.size e2
         · rcases hh with hh | hh
           · have:=hY.ses.lt hh;omega
           · have:=blk_lt h.blk;omega
   | 1,hk =>
     simp at hk
     subst hk
     refine ⟨hcX,X.cv.sp,q1,false,hatX,fun a hJ=>?_,fun e=>(by cases e),fun _ a hJ=>hJ⟩
     obtain ⟨uv',ov',M,g1,g2,g3,g4,g5,g6⟩:=(show ToldG B BV Y (tellS true SY (toldS m q0 false)) (tellO (ky:Int) Y.sv.snd SY (toldS m q0 false) d0) w a from hJ)
     have hs1:SesAt a X.cv.sp X.sv SX:=hX.ses.but g1 (fun b hb e=>by
      rcases e with e | e
      · exact hdis b (Or.inr (Or.inl hb)) (Or.inr (Or.inl e))
      · subst e;exact hX.notB h.blk (Or.inr (Or.inl hb)))
     have:=asks_any X.cv.sp X.sv SX m.topic a hs1 (hG.below (g1.below hF0 hG.env.size)).env.inv ht hfX
     rw [haX] at this
     exact this
   | k+2,hk=>simp at hk
 · rintro e w' ⟨rfl,hJ⟩
   exact ⟨rfl,hJ⟩
structure PubIn (D:DataW Unit) (p:Pkt) (cY cX:List UInt8) (q0 q1:Int) (X Y:SideV) (SX SY:Ses) (d0:List UInt8):Prop where
 ret:p.retain=false
 ks:∀ ss:List (List UInt8),ss.Perm (strKeys D)→ss.mergeSort (fun x y=>decide (x≤y)) = [cY,cX]
 sz:Maps.size D≤1000000
 lY:cY.length≤1000
 lX:cX.length≤1000
 atY:D.atKey (.string cY) .nil=.lit (.int .i64 ((Y.cv.sp:Nat):Int))
 atX:D.atKey (.string cX) .nil=.lit (.int .i64 ((X.cv.sp:Nat):Int))
 top:p.topic.length≤65535
 fY:∀ f∈SY.filters,f.1.length≤65535
 fX:∀ f∈SX.filters,f.1.length≤65535
 aY:asksS p.topic SY.filters 0 false=(q0,true)
 aX:asksS p.topic SX.filters 0 false=(q1,false)
 enc:encD (pktS (toldS (ofS p) q0 false) (tellId SY (toldS (ofS p) q0 false))) [] []=d0
 last:0≤SY.last
 und:SY.under.length < 65000
theorem tellO_len (n:Int) (snd:Option (Nat×Nat)) (S:Ses) (m:Msg) (d:List UInt8):(tellO n snd S m d).length≤1:=by
 have h:(outTo n snd [d]).length≤1:=by cases snd<;>simp [outTo]
 unfold tellO
 split
 · exact h
 · split
   · exact h
   · simp
theorem feed_pub2 {N0:Nat} {ash aw:Addr} (B kx ky nn:Nat) (p px py:Pkt) (cY cX l d0 d1:List UInt8) (q0 q1:Int) (D:DataW Unit) (BV:BrV) (X Y:SideV) (SX SY:Ses) (db dc:Nat) (w:World) (hG:Gd N0 ash aw w) (h:BlkAt w B BV (.slice none 0 0) []) (hX:Side w B kx X px SX) (hY:Side w B ky Y py SY) (hM:w.ownsMap Tryz.prog 9 ptrElem BV.mb nn D) (hX0:∀ g,X.has g→N0≤g) (hY0:∀ g,Y.has g→N0≤g) (hNB:N0≤B) (hYm:Y.sv.kb≠BV.mb) (hXm:X.sv.kb≠BV.mb) (hdis:∀ g,X.has g→¬ Y.has g) (hk:kx < 8) (hv:BV.cv kx=.pointer (some ⟨X.cv.cb,0,none⟩)) (hclk:BV.clk=0)
 (hl0:0 < l.length) (hl:l.length≤1000000) (hd:∀ j x,l[j]?=some x→w.cell? ⟨db,0+j,none⟩=some (.int .u8 (x.toNat:Int))) (hdec:decL l=.inr ((p,[],[]),l.length)) (hkind:p.kind=3) (hq:p.qos=2) (hid:(Lit.int .i64 p.id).wf=true) (hkn:SX.known.contains p.id=false) (hkl:SX.known.length < 100000) (hdr:encD (recS p.id) [] []=d1) (hI:PubIn D p cY cX q0 q1 X Y SX SY d0) :
 Calls Tryz.prog 24 #[.pointer (some ⟨B,0,none⟩),.int .i64 (kx:Int),.slice (some ⟨db,0,none⟩) l.length dc] w fun e w'=>∃ ov L,e=.returned (.tuple #[ov,.int .i64 0])∧FdW B kx ky px py BV X Y ({ SX with known:=SX.known ++ [p.id] }) (tellS true SY (toldS (ofS p) q0 false)) (tellO (ky:Int) Y.sv.snd SY (toldS (ofS p) q0 false) d0 ++ [⟨(kx:Int),d1,false⟩]) w w' ov L:=by
 refine feed_work B kx ky px py [] [] l BV X Y SX _ SY _ _ db dc w h hX hY hdis hk hv hclk (fun w' hb=>?_)
 have hG':Gd N0 ash aw w':=hG.below (hb.mono hG.env.size)
 refine read_pub (N0:=N0) (ash:=ash) (aw:=aw) B kx BV X.cv ⟨[],0,some px⟩ p [] [] l db 0 dc w' _ hG' (h.below hb) (hX.below hb).con rfl hX.wv ⟨_,rfl⟩ hk hv hl0 hl (fun j x hx=>by have:=hd j x hx;rw [hb.cell (cell_blt this)];exact this) hdec hkind (fun g hg=>hX0 g (Or.inl hg)) ?_ (fun w1 w2 fv cv hpre hE=>Eff.mid hG' (hX.below hb) (hY.below hb) hX0 hY0 hNB hdis hclk hv hpre hE)
 intro w1 fv cv hpre
 have hG1:Gd N0 ash aw w1:=hG'.below (hpre.but.below (fun b e=>by subst e;exact hX0 _ (Or.inl (Or.inl rfl))) hG'.env.size)
 have hX1:=(hX.below hb).pre hclk hpre
 have hY1:Side w1 B ky Y py SY:=(hY.below hb).but hpre.but (fun b hx e=>by subst e;exact hdis _ (Or.inl (Or.inl rfl)) hx)
 obtain ⟨f1,f3,rfl⟩:=own_form hpre.fil
 obtain ⟨c1,c3,rfl⟩:=own_form hpre.cod
 refine h_pub B X.cv.cb X.cv.x' X.cv.y' { p with fv:=.slice f1 ([]:List (List UInt8×Int)).length f3,cv:=.slice c1 ([]:List Int).length c3 } w1 _ hX1.con.b2 ⟨_,_,_,rfl⟩ ⟨_,_,_,rfl⟩ ?_
 intro w1' hb1
 have hG1':Gd N0 ash aw w1':=hG1.below (hb1.mono hG1.env.size)
 have hX1':=hX1.below hb1
 have hY1':=hY1.below hb1
 have hB1':=hpre.blk.below hb1
 have hMw:w1'.ownsMap Tryz.prog 9 ptrElem BV.mb nn D:=by
  obtain ⟨es,cl,hmb⟩:=map_blk hM
  have hmb':=(hb.block _ (blk_lt hmb)).trans hmb
  have e2:w1.heap[BV.mb]?=w'.heap[BV.mb]?:=hpre.but.keep _ (blk_lt hmb') (fun e=>by have:=(hX.below hb).con.blk;rw [← e,hmb'] at this;simp at this)
  exact map_keep (map_keep (map_keep hM (hb.block _ (blk_lt hmb))) e2) (hb1.block _ (blk_lt (e2.trans hmb')))
 have hltB:=blk_lt hB1'.blk
 have hlty:∀ b,Y.sv.has Y.cv.sp b→b < w1'.heap.size:=fun b hb'=>hY1'.ses.lt hb'
 have hkh:X.has X.sv.kb:=Or.inr (Or.inl (Or.inr (Or.inr (Or.inl rfl))))
 have hltk:=hX1'.lt hkh
 have c18:w1'.cell? ⟨X.cv.cb,18,none⟩=some (.pointer (some ⟨X.cv.sp,0,none⟩)):=blk_cell hX1'.con.blk (conC_at _ _ _).2.2.2.1
 have hcbk:X.cv.cb≠X.sv.kb:=fun e=>by
  obtain ⟨D9,⟨es9,cl9,hk9,_⟩,_⟩:=hX1'.ses.kno
  have:=hX1'.con.blk;rw [e,hk9] at this;simp at this
 have nBk:B≠X.sv.kb:=fun e=>hX1'.notB hB1'.blk (e ▸ hkh)
 refine receive_two B X.cv.cb X.cv.sp { p with fv:=.slice f1 0 f3,cv:=.slice c1 0 c3 } w1' (fun a=>But (fun g=>g=X.sv.kb) w1' a∧SesAt a X.cv.sp X.sv { SX with known:=SX.known ++ [p.id] }) (fun a=>∃ wp,But (fun g=>g=X.sv.kb) w1' wp∧SesAt wp X.cv.sp X.sv { SX with known:=SX.known ++ [p.id] }∧ToldG B BV Y (tellS true SY (toldS (ofS p) q0 false)) (tellO (ky:Int) Y.sv.snd SY (toldS (ofS p) q0 false) d0) wp a) _ f1 0 f3 c1 0 c3 rfl rfl hq c18 ?_ ?_ ?_ ?_ ?_ ?_
 · intro a ha
   refine (learn_new X.cv.sp X.sv SX p.id a (hX1'.ses.below ha) hid hkn hkl).mono ?_
   rintro e a' ⟨rfl,g1,g2⟩
   exact ⟨rfl,⟨(But.of_below ha).trans g2 (fun _ _ f=>f),g1⟩,g2.size,fun b i1 i2=>g2.keep b i2 (fun e=>by omega)⟩
 · rintro a ⟨g1,_⟩
   exact g1.cell hcbk c18
 · rintro a b ⟨g1,g2⟩ hab
   exact ⟨g1.trans (But.of_below (F:=fun _=>False) hab) (fun _ _ f=>f.elim),g2.below hab⟩
 · rintro a b ⟨wp,g1,g2,g3⟩ hab
   exact ⟨wp,g1,g2,g3.below hab⟩
 · rintro a ⟨g1,g2⟩
   have hGa:Gd N0 ash aw a:=hG1'.below (g1.below (fun b e=>by subst e;exact hX0 _ hkh) hG1'.env.size)
   have hBa:BlkAt a B BV (.slice none 0 0) []:=⟨g1.blk nBk hB1'.blk,OutsAt.nil _⟩
   have hYa:Side a B ky Y py SY:=hY1'.but g1 (fun b hx e=>by subst e;exact hdis _ hkh hx)
   have hXa:Side a B kx ⟨X.cv,X.sv,X.x,X.y⟩ px { SX with known:=SX.known ++ [p.id] }:=hX1'.work g1 (fun g e=>by subst e;exact hX1'.apart hX1'.ses (Or.inr (Or.inr (Or.inl rfl)))) g2 rfl
   have hMa:a.ownsMap Tryz.prog 9 ptrElem BV.mb nn D:=by
    obtain ⟨es,cl,hmb⟩:=map_blk hMw
    exact map_keep hMw (g1.keep _ (blk_lt hmb) (fun e=>hXm e.symm))
   refine (publish_gen (N0:=N0) (ash:=ash) (aw:=aw) B kx ky nn (ofS p) cY cX d0 q0 q1 D px py BV ⟨X.cv,X.sv,X.x,X.y⟩ Y { SX with known:=SX.known ++ [p.id] } SY a hGa hBa hXa hYa hMa hY0 hNB hYm hdis hI.ret hI.ks hI.sz hI.lY hI.lX hI.atY hI.atX hI.top hI.fY hI.fX hI.aY hI.aX hI.enc hI.last hI.und).mono ?_
   rintro e a' ⟨rfl,hT⟩
   refine ⟨rfl,⟨a,g1,g2,hT⟩,?_⟩
   obtain ⟨uv',ov',M,i1,_⟩:=hT
   refine ⟨i1.size,fun b j1 j2=>i1.keep b j2 (fun e=>?_)⟩
   rcases e with e | e
   · have:=hlty b e;omega
   · omega
 · rintro a ⟨wp,g1,g2,uv',ov',M,i1,i2,i3,i4,i5,i6⟩
   have hbut:But (fun g=>g=X.sv.kb∨Y.sv.has Y.cv.sp g∨g=B) w1' a:=(g1.wide (fun _ _ e=>Or.inl e)).trans i1 (fun _ _ e=>Or.inr e)
   have hBwp:w1'.heap.size≤wp.heap.size:=g1.size
   have hsx:SesAt a X.cv.sp X.sv { SX with known:=SX.known ++ [p.id] }:=g2.but i1 (fun b hb' e=>by
    rcases e with e | e
    · exact hdis b (Or.inr (Or.inl hb')) (Or.inr (Or.inl e))
    · subst e;exact hX1'.notB hB1'.blk (Or.inr (Or.inl hb')))
   have hyh:∀ g,SesV.has { Y.sv with uv:=uv' } Y.cv.sp g→Y.sv.has Y.cv.sp g∨w1.heap.size≤g:=fun g hg=>by
    rcases hg with hg | hg | hg | hg | hg
    · exact Or.inl (Or.inl hg)
    · exact Or.inl (Or.inr (Or.inl hg))
    · exact Or.inl (Or.inr (Or.inr (Or.inl hg)))
    · exact Or.inl (Or.inr (Or.inr (Or.inr (Or.inl hg))))
    · rcases i5 with e | ⟨b,e1,e2⟩
      · exact Or.inl (Or.inr (Or.inr (Or.inr (Or.inr (e ▸ hg)))))
      · have hg2:uv'.ownBlock=some g:=hg
        rw [e1] at hg2
        cases hg2
        exact Or.inr (Nat.le_trans (Nat.le_trans hb1.size hBwp) e2)
   have hxy:∀ g,X.sv.has X.cv.sp g→¬ SesV.has { Y.sv with uv:=uv' } Y.cv.sp g:=fun g hx hy=>(hyh g hy).elim (fun e=>hdis g (Or.inr (Or.inl hx)) (Or.inr (Or.inl e))) (fun e=>by have:=hX1.ses.lt hx;omega)
   have t1:But (fun g=>X.sv.has X.cv.sp g∨Y.sv.has Y.cv.sp g∨g=B) w1 a:=(But.of_below hb1).trans hbut (fun _ _ e=>e.imp (fun e=>by rw [e];exact Or.inr (Or.inr (Or.inl rfl))) (fun e=>e))
   have hGa:Gd N0 ash aw a:=hG1'.below (hbut.below (fun b e=>by
    rcases e with rfl | e | rfl
    · exact hX0 _ hkh
    · exact hY0 b (Or.inr (Or.inl e))
    · exact hNB) hG1'.env.size)
   have hE:EncOK N0 a (recS p.id) d1:=by rw [← hdr];exact hGa.enc _ rfl rfl
   have hncb:¬ (X.cv.cb=X.sv.kb∨Y.sv.has Y.cv.sp X.cv.cb∨X.cv.cb=B):=by
    rintro (e | e | e)
    · exact hcbk e
    · exact hdis _ (Or.inl (Or.inl rfl)) (Or.inr (Or.inl e))
    · exact hX1'.notB hB1'.blk (Or.inl (Or.inl e.symm))
   have hMl:M.length < 1000000000000:=by
    have h1:M.length=(tellO (ky:Int) Y.sv.snd SY (toldS (ofS p) q0 false) d0).length:=by rw [← i4,List.length_map]
    have h2:=tellO_len (ky:Int) Y.sv.snd SY (toldS (ofS p) q0 false) d0
    omega
   refine (bwrite_any B X.cv.cb (kx:Int) (recS p.id) d1 BV ov' M a hE i3 (hbut.cell hncb (blk_cell hX1'.con.blk (conC_at _ _ _).1)) hMl).mono ?_
   rintro e a' ⟨rfl,ov2,dv1,k1,k2,k3,k4⟩
   refine ⟨rfl,rfl,rfl,⟨X.sv,{ Y.sv with uv:=uv' },ov2,M ++ [(⟨(kx:Int),d1,false⟩,dv1)]⟩,t1.trans k2 (fun x hx e=>?_),hsx.but k2 (fun b hb'=>hsx.apart i3 hb'),i2.but k2 (fun b hb'=>i2.apart i3 hb'),rfl,rfl,rfl,rfl,fun g hg=>Or.inl hg,hyh,hxy,k1,by rw [List.map_append,i4];rfl⟩
   rcases e with e | e
   · exact Or.inr (Or.inr e)
   · have:=i6 x e;have:=hb1.size;omega
structure Hall2 (N0:Nat) (ash aw:Addr) (w:World) (lb B kx ky:Nat) (V:LineV) (BV:BrV) (nn:Nat) (D:DataW Unit) (px py:Pkt) (X Y:SideV) (SX SY:Ses) (G:Nat→Prop):Prop where
 room:Room N0 ash aw w B BV nn D
 line:LineOf N0 w lb B V G
 sx:Side w B kx X px SX
 sy:Side w B ky Y py SY
 x0:∀ g,X.has g→N0≤g
 y0:∀ g,Y.has g→N0≤g
 xm:X.sv.kb≠BV.mb
 ym:Y.sv.kb≠BV.mb
 dis:∀ g,X.has g→¬ Y.has g
 vx:BV.cv kx=.pointer (some ⟨X.cv.cb,0,none⟩)
 vy:BV.cv ky=.pointer (some ⟨Y.cv.cb,0,none⟩)
def OutsOk (os:List OutS) (R:Nat→Dec) (G:Nat→Prop):Prop:=
 (∀ (j:Nat) o,os[j]?=some o→o.closed=false∧decL o.data=.inr (R j,o.data.length)∧0 < o.data.length∧o.data.length≤1000000∧∃ n:Nat,n < 2∧o.conn=(n:Int)∧¬ G n)∧∀ (i j:Nat) (o o':OutS),os[i]?=some o→os[j]?=some o'→o.conn=o'.conn→i=j
structure HeardS (N0:Nat) (ash aw:Addr) (w:World) (lb B kx ky:Nat) (V:LineV) (BV:BrV) (nn:Nat) (D:DataW Unit) (px py:Pkt) (X Y:SideV) (SX SY:Ses) (G:Nat→Prop) (os:List OutS) (R:Nat→Dec) (w':World) (V':LineV) (X' Y':SideV):Prop where
 hall:Hall2 N0 ash aw w' lb B kx ky V' BV nn D px py X' Y' SX SY (fun n=>G n∨∃ o,o∈os∧o.conn=(n:Int))
 old:∀ n:Nat,(∀ o,o∈os→o.conn≠(n:Int))→V'.got n=V.got n
 new:∀ (j:Nat) o,os[j]?=some o→∃ n:Nat,o.conn=(n:Int)∧GotP w.heap.size w' (V'.got n) (R j)
 but:But (fun g=>g=lb∨g=B∨X.has g∨Y.has g) w w'
 spx:X'.cv.sp=X.cv.sp
 spy:Y'.cv.sp=Y.cv.sp
 hx:∀ g,X'.has g→X.has g∨w.heap.size≤g
 hy:∀ g,Y'.has g→Y.has g∨w.heap.size≤g
theorem send_hall {N0:Nat} {ash aw:Addr} {lb B kx ky:Nat} {V:LineV} {BV:BrV} {nn:Nat} {D:DataW Unit} {px py:Pkt} {X Y:SideV} {SX SX' SY SY':Ses} {G:Nat→Prop} (ps:Pkt) (l:List UInt8) (os:List OutS) (R:Nat→Dec) (w:World) (H:Hall2 N0 ash aw w lb B kx ky V BV nn D px py X Y SX SY G) (hpf:ps.fv=.slice none 0 0) (hpc:ps.cv=.slice none 0 0) (henc:encL (fwW ps) (cbW ps) ps [] []=some l) (hl0:0 < l.length) (hos:OutsOk os R G)
 (hF:∀ w1 g c,Below w.heap.size w w1→(∀ j x,l[j]?=some x→w1.cell? ⟨g,0+j,none⟩=some (.int .u8 (x.toNat:Int)))→Calls Tryz.prog 24 #[.pointer (some ⟨B,0,none⟩),.int .i64 (kx:Int),.slice (some ⟨g,0,none⟩) l.length c] w1 fun e w'=>∃ ov L,e=.returned (.tuple #[ov,.int .i64 0])∧FdW B kx ky px py BV X Y SX' SY' os w1 w' ov L) :
 Calls Tryz.prog 50 #[.pointer (some ⟨lb,0,none⟩),.int .i64 (kx:Int),.agg (pkK ps)] w fun e w'=>e=.returned (.tuple #[])∧∃ V' X' Y',HeardS N0 ash aw w lb B kx ky V BV nn D px py X Y SX' SY' G os R w' V' X' Y':=by
 have hR:=H.room
 have hL:=H.line
 have hlb:w.heap[lb]?=some (.cells (lineC V) 60):=hL.line
 obtain ⟨nB,nM,nMB⟩:=hR.lb_ne hL.line
 obtain ⟨es,cl,hmb⟩:=map_blk hR.map
 have nXl:¬ X.has lb:=H.sx.not hlb (by decide) (by decide)
 have nYl:¬ Y.has lb:=H.sy.not hlb (by decide) (by decide)
 have nXm:¬ X.has BV.mb:=H.sx.notMap hmb (fun e=>H.xm e.symm)
 have nYm:¬ Y.has BV.mb:=H.sy.notMap hmb (fun e=>H.ym e.symm)
 have hF0:∀ g,(g=B∨X.has g∨Y.has g)→N0≤g:=fun g e=>by
  rcases e with rfl | e | e
  · exact hR.B0
  · exact H.x0 g e
  · exact H.y0 g e
 have hnl:¬ (lb=B∨X.has lb∨Y.has lb):=by
  rintro (e | e | e)
  · exact nB e.symm
  · exact nXl e
  · exact nYl e
 have hget:∀ {L:List (OutS×Value)},L.map Prod.fst=os→∀ (j:Nat) o,L[j]?=some o→os[j]?=some o.1:=fun hL' j o hj=>by rw [← hL',List.getElem?_map,hj];rfl
 refine (send_all lb B kx ps [] [] l V R w (fun w1 w2 ov L=>Below w.heap.size w w1∧FdW B kx ky px py BV X Y SX' SY' os w1 w2 ov L) hR.gd hL.lb0 hL.line hL.b hL.bad (by rw [hpf];exact filV_nil _) (by rw [hpc];exact intV_nil _) henc hl0 ?_ ?_).mono ?_
 · intro w1 g c hb1 hby
   refine (hF w1 g c hb1 hby).mono ?_
   rintro e w2 ⟨ov,L,rfl,hFd⟩
   exact ⟨ov,L,rfl,hb1,hFd⟩
 · rintro w1 w2 ov L hb1 ⟨_,hL',ho,hblk,X',Y',hSX,hSY,e1,e2,e3,e4,e5,e6,hX',hY',hBut⟩
   have hG1:=hR.gd.below (hb1.mono hR.gd.env.size)
   refine ⟨hG1.below (hBut.below hF0 hG1.env.size),line_but (V:=V) ((hb1.block _ (blk_lt hlb)).trans hlb) hBut hnl,ho,fun j o hj=>?_,fun i j o o' hi hj e=>hos.2 i j o.1 o'.1 (hget hL' i o hi) (hget hL' j o' hj) e⟩
   obtain ⟨a1,a2,a3,a4,n,a5,a6,a7⟩:=hos.1 j o.1 (hget hL' j o hj)
   exact ⟨a1,a2,a3,a4,n,a5,a6,hL.got n a7,hL.off n⟩
 · rintro e w'' ⟨rfl,w1,w2,ov,L,hb1,⟨_,hL',ho,hblk,X',Y',hSX,hSY,e1,e2,e3,e4,e5,e6,hX',hY',hBut⟩,hT⟩
   have hG1:=hR.gd.below (hb1.mono hR.gd.env.size)
   have hs1:=hb1.size
   have hs2:=hBut.size
   have hl2:w2.heap[lb]?=some (.cells (lineC V) 60):=hBut.blk hnl ((hb1.block _ (blk_lt hlb)).trans hlb)
   have hlb2:=blk_lt hl2
   have hR2:Room N0 ash aw w2 B BV nn D:=
    ⟨hG1.below (hBut.below hF0 hG1.env.size),hblk,hR.B0,hR.mb0,hR.clk,hR.win,hR.que,hR.rv,map_keep (map_keep hR.map (hb1.block _ (blk_lt hmb))) (hBut.keep _ (by have:=blk_lt hmb;omega) (fun e=>by
     rcases e with e | e | e
     · exact nMB e
     · exact nXm e
     · exact nYm e))⟩
   obtain ⟨V',l1,l2,l3,l4,l5,l6⟩:=hT.line
   have hlen:L.length=os.length:=by rw [← hL',List.length_map]
   have hback:∀ (j:Nat) o,os[j]?=some o→∃ o',L[j]?=some o'∧o'.1=o:=fun j o hj=>by
    rw [← hL',List.getElem?_map] at hj
    obtain ⟨o',h1,h2⟩:=Option.map_eq_some_iff.1 hj
    exact ⟨o',h1,h2⟩
   have hold:∀ n:Nat,(∀ o,o∈os→o.conn≠(n:Int))→V'.got n=V.got n:=fun n hn=>l5 n (fun j o hj ho'=>hn o.1 (List.mem_of_getElem? (hget hL' j o ho')))
   have hlts:w.heap.size≤w2.heap.size:=by omega
   refine ⟨rfl,V',X',Y',⟨⟨hR2.but hT.but nB nM (fun b e=>by subst e;exact hL.lb0),⟨l1,hL.lb0,l2.trans hL.b,l3,fun j=>by rw [l4];exact hL.off j,fun n hn=>?_⟩,hSX.but hT.but (fun b hb' e=>by subst e;exact hSX.not hl2 (by decide) (by decide) hb'),hSY.but hT.but (fun b hb' e=>by subst e;exact hSY.not hl2 (by decide) (by decide) hb'),?_,?_,by rw [e3];exact H.xm,by rw [e5];exact H.ym,?_,by rw [e1];exact H.vx,by rw [e4];exact H.vy⟩,hold,?_,?_,e2,by rw [e4],?_,?_⟩⟩
   · exact (hold n (fun o ho' e=>hn (Or.inr ⟨o,ho',e⟩))).trans (hL.got n (fun g=>hn (Or.inl g)))
   · exact fun g hg=>(hX' g hg).elim (H.x0 g) (fun h=>Nat.le_trans (Nat.le_trans hR.gd.env.size hs1) h)
   · exact fun g hg=>(hY' g hg).elim (H.y0 g) (fun h=>Nat.le_trans (Nat.le_trans hR.gd.env.size hs1) h)
   · exact e6
   · intro j o hj
     obtain ⟨o',h1,h2⟩:=hback j o hj
     obtain ⟨n,h3,h4⟩:=l6 j o' (by have:=(List.getElem?_eq_some_iff.1 h1).1;omega) h1
     obtain ⟨fv,cv,k1,k2,k3⟩:=h4
     exact ⟨n,by rw [← h2];exact h3,fv,cv,own_lower k1 hlts,own_lower k2 hlts,own_lower k3 hlts⟩
   · have t1:But (fun g=>g=lb∨g=B∨X.has g∨Y.has g) w w1:=But.of_below hb1
     exact (t1.trans hBut (fun _ _ e=>Or.inr e)).trans hT.but (fun _ _ e=>Or.inl e)
   · exact fun g hg=>(hX' g hg).imp id (fun h=>Nat.le_trans hs1 h)
   · exact fun g hg=>(hY' g hg).imp id (fun h=>Nat.le_trans hs1 h)
def InHall (lb B mb:Nat) (X Y:SideV) (g:Nat):Prop:=g=lb∨g=B∨g=mb∨X.has g∨Y.has g
theorem Hall2.but {F:Nat→Prop} {N0:Nat} {ash aw:Addr} {w w':World} {lb B kx ky:Nat} {V:LineV} {BV:BrV} {nn:Nat} {D:DataW Unit} {px py:Pkt} {X Y:SideV} {SX SY:Ses} {G:Nat→Prop} (h:Hall2 N0 ash aw w lb B kx ky V BV nn D px py X Y SX SY G) (hb:But F w w') (hF:∀ g,F g→N0≤g∧¬ InHall lb B BV.mb X Y g):Hall2 N0 ash aw w' lb B kx ky V BV nn D px py X Y SX SY G:=
 ⟨h.room.but hb (fun e=>(hF _ e).2 (Or.inr (Or.inl rfl))) (fun e=>(hF _ e).2 (Or.inr (Or.inr (Or.inl rfl)))) (fun g e=>(hF g e).1),h.line.but hb (fun e=>(hF _ e).2 (Or.inl rfl)),h.sx.but hb (fun g hg e=>(hF g e).2 (Or.inr (Or.inr (Or.inr (Or.inl hg))))),h.sy.but hb (fun g hg e=>(hF g e).2 (Or.inr (Or.inr (Or.inr (Or.inr hg))))),h.x0,h.y0,h.xm,h.ym,h.dis,h.vx,h.vy⟩
theorem Hall2.lt {N0:Nat} {ash aw:Addr} {w:World} {lb B kx ky:Nat} {V:LineV} {BV:BrV} {nn:Nat} {D:DataW Unit} {px py:Pkt} {X Y:SideV} {SX SY:Ses} {G:Nat→Prop} (h:Hall2 N0 ash aw w lb B kx ky V BV nn D px py X Y SX SY G) {g:Nat} (hg:InHall lb B BV.mb X Y g):g < w.heap.size:=by
 rcases hg with rfl | rfl | rfl | hg | hg
 · have:w.heap[g]?=some (.cells (lineC V) 60):=h.line.line
   exact blk_lt this
 · exact blk_lt h.room.blk.blk
 · obtain ⟨es,cl,hm⟩:=map_blk h.room.map;exact blk_lt hm
 · exact h.sx.lt hg
 · exact h.sy.lt hg
theorem Hall2.old {N0:Nat} {ash aw:Addr} {w:World} {lb B kx ky:Nat} {V:LineV} {BV:BrV} {nn:Nat} {D:DataW Unit} {px py:Pkt} {X Y:SideV} {SX SY:Ses} {G:Nat→Prop} (h:Hall2 N0 ash aw w lb B kx ky V BV nn D px py X Y SX SY G) (g:Nat) (hg:InHall lb B BV.mb X Y g):N0≤g:=by
 rcases hg with rfl | rfl | rfl | hg | hg
 · exact h.line.lb0
 · exact h.room.B0
 · exact h.room.mb0
 · exact h.x0 g hg
 · exact h.y0 g hg
theorem Hall2.seen {N0:Nat} {ash aw:Addr} {w:World} {lb B kx ky:Nat} {V:LineV} {BV:BrV} {nn:Nat} {D:DataW Unit} {px py:Pkt} {X Y:SideV} {SX SY:Ses} {G:Nat→Prop} (h:Hall2 N0 ash aw w lb B kx ky V BV nn D px py X Y SX SY G) (k:Nat) (hk:k < 8):Hall2 N0 ash aw (w.setCell ⟨lb,1+k,none⟩ (.slice none 0 0)) lb B kx ky (V.setGot k (.slice none 0 0)) BV nn D px py X Y SX SY (fun n=>G n∧n≠k):=by
 have hl:w.heap[lb]?=some (.cells (lineC V) 60):=h.line.line
 obtain ⟨nB,nM,_⟩:=h.room.lb_ne h.line.line
 have hset:But (fun g=>g=lb) w (w.setCell ⟨lb,1+k,none⟩ (.slice none 0 0)):=But.set (F:=fun g=>g=lb) _ _ _ rfl
 exact ⟨h.room.but hset nB nM (fun g e=>by subst e;exact h.line.lb0),h.line.seen k hk,h.sx.but hset (fun g hg e=>by subst e;exact h.sx.not hl (by decide) (by decide) hg),h.sy.but hset (fun g hg e=>by subst e;exact h.sy.not hl (by decide) (by decide) hg),h.x0,h.y0,h.xm,h.ym,h.dis,h.vx,h.vy⟩
theorem Hall2.only {N0:Nat} {ash aw:Addr} {w:World} {lb B kx ky:Nat} {V:LineV} {BV:BrV} {nn:Nat} {D:DataW Unit} {px py:Pkt} {X Y:SideV} {SX SY:Ses} {G G':Nat→Prop} (h:Hall2 N0 ash aw w lb B kx ky V BV nn D px py X Y SX SY G) (hG:∀ n,G n→G' n):Hall2 N0 ash aw w lb B kx ky V BV nn D px py X Y SX SY G':=
 ⟨h.room,⟨h.line.line,h.line.lb0,h.line.b,h.line.bad,h.line.off,fun n hn=>h.line.got n (fun g=>hn (hG n g))⟩,h.sx,h.sy,h.x0,h.y0,h.xm,h.ym,h.dis,h.vx,h.vy⟩
theorem Hall2.drew {N0:Nat} {ash aw:Addr} {w:World} {lb B kx ky:Nat} {V:LineV} {BV:BrV} {nn:Nat} {D:DataW Unit} {px py:Pkt} {X Y:SideV} {SX SY:Ses} {G:Nat→Prop} (h:Hall2 N0 ash aw w lb B kx ky V BV nn D px py X Y SX SY G):Hall2 N0 ash aw w.drew lb B kx ky V BV nn D px py X Y SX SY G:=
 h.but (F:=fun _=>False) (But.of_below (Below.refl _ _).drew) (fun _ e=>e.elim)
def D1 (a:Nat):DataW Unit:=(DataW.map []).put (.string [99]) (.lit (.int .i64 (a:Int)))
def D2 (a b:Nat):DataW Unit:=(D1 a).put (.string [100]) (.lit (.int .i64 (b:Int)))
theorem sort1:([[99],[100]]:List (List UInt8)).mergeSort (fun x y=>decide (x≤y)) = [[99],[100]]:=by
 simp [List.mergeSort,List.MergeSort.Internal.splitInTwo,List.merge]
 decide
theorem sort2:([[100],[99]]:List (List UInt8)).mergeSort (fun x y=>decide (x≤y)) = [[99],[100]]:=by
 simp [List.mergeSort,List.MergeSort.Internal.splitInTwo,List.merge]
 decide
theorem keys2 {a b:Nat} {ss:List (List UInt8)} (h:ss.Perm (strKeys (D2 a b))):ss.mergeSort (fun x y=>decide (x≤y)) = [[99],[100]]:=by
 have h:ss.Perm [[99],[100]]:=h
 have hl:=h.length_eq
 match ss,hl with
 | [x,y],_ =>
   have hx:x∈([[99],[100]]:List (List UInt8)):=h.subset (by simp)
   have hy:y∈([[99],[100]]:List (List UInt8)):=h.subset (by simp)
   simp at hx hy
   rcases hx with rfl | rfl<;>rcases hy with rfl | rfl
   · exact absurd h (by decide)
   · exact sort1
   · exact sort2
   · exact absurd h (by decide)
def helloD (client:List UInt8) (clean:Bool):Pkt:={ zP with kind:=1,client:=client,clean:=clean }
def ackD:Pkt:={ zP with kind:=2 }
def askD:Pkt:={ zP with kind:=8,id:=1 }
def sackD:Pkt:={ zP with kind:=9,id:=1 }
def hiD:Pkt:={ zP with kind:=3,qos:=2,id:=9,topic:=[97,47,120],payload:=[104,105] }
def toldD:Pkt:={ zP with kind:=3,qos:=1,id:=1,topic:=[97,47,120],payload:=[104,105] }
def recD:Pkt:={ zP with kind:=5,id:=9 }
def lisS:Ses:=⟨[([97,47,43],1)],[],1,1,[],[],0⟩
structure StA (N0:Nat) (ash aw:Addr) (w0:World) (lb:Nat) (w:World):Prop where
 bel:Below N0 w0 w
 ex:∃ B V BV,Room N0 ash aw w B BV 0 (.map [])∧LineOf N0 w lb B V (fun _=>False)∧(BV.win=1∧BV.que=1)∧∀ j,BV.cv j=.pointer none
structure StB (N0:Nat) (ash aw:Addr) (w0:World) (S:Ses) (lb:Nat) (w:World):Prop where
 bel:Below N0 w0 w
 ex:∃ B V BV X fv cv,Room N0 ash aw w B BV 1 (D1 X.cv.sp)∧LineOf N0 w lb B V (fun _=>False)∧Side w B 0 X { helloD [99] false with fv:=fv,cv:=cv } S∧(∀ g,X.has g→N0≤g)∧X.sv.kb≠BV.mb∧BV.cv 0=.pointer (some ⟨X.cv.cb,0,none⟩)∧(BV.win=1∧BV.que=1)∧∀ j,j≠0→BV.cv j=.pointer none
structure StD (N0:Nat) (ash aw:Addr) (w0:World) (lb:Nat) (w:World):Prop where
 bel:Below N0 w0 w
 ex:∃ B V BV X fv cv X1 fv1 cv1,Room N0 ash aw w B BV 2 (D2 X.cv.sp X1.cv.sp)∧LineOf N0 w lb B V (fun _=>False)∧Side w B 0 X { helloD [99] false with fv:=fv,cv:=cv } lisS∧Side w B 1 X1 { helloD [100] true with fv:=fv1,cv:=cv1 } (newS 1 1)∧(∀ g,X.has g→N0≤g)∧(∀ g,X1.has g→N0≤g)∧(∀ g,X.has g→¬ X1.has g)∧X.sv.kb≠BV.mb∧X1.sv.kb≠BV.mb∧BV.cv 0=.pointer (some ⟨X.cv.cb,0,none⟩)∧BV.cv 1=.pointer (some ⟨X1.cv.cb,0,none⟩)
structure StE (N0:Nat) (ash aw:Addr) (w0:World) (lb:Nat) (w:World):Prop where
 bel:Below N0 w0 w
 ex:∃ B V BV X fv cv nn D S,Room N0 ash aw w B BV nn D∧LineOf N0 w lb B V (fun n=>n=0∨n=1)∧Side w B 0 X { helloD [99] false with fv:=fv,cv:=cv } S∧N0≤X.cv.sp∧BV.cv 0=.pointer (some ⟨X.cv.cb,0,none⟩)
theorem setCon_same (V:BrV) (k:Nat) (v:Value):(V.setCon k v).cv k=v:=if_pos rfl
theorem setCon_ne (V:BrV) {k j:Nat} (h:j≠k) (v:Value):(V.setCon k v).cv j=V.cv j:=if_neg h
theorem below_of {N0:Nat} {w0 w w':World} {F:Nat→Prop} (h:Below N0 w0 w) (hb:But F w w') (hF:∀ b,F b→N0≤b) (hs:N0≤w0.heap.size):Below N0 w0 w':=h.trans (hb.below hF (Nat.le_trans hs h.size))
theorem sure_head (w:World) (ash aw:Addr) (hG:Gd w.heap.size ash aw w) :
 Calls Tryz.prog 18 #[] w fun e w'=>e=.returned (.bool true)∧Below w.heap.size w w':=by
 refine sure_any w (StA w.heap.size ash aw w) (StB w.heap.size ash aw w (newS 1 1)) (StB w.heap.size ash aw w lisS) (StD w.heap.size ash aw w) (StE w.heap.size ash aw w) (fun w'=>Below w.heap.size w w') ?_ ?_ ?_ ?_ ?_ ?_
 · refine (opened_any 1 1 w (by decide) (by decide) (by decide) (by decide)).mono ?_
   rintro e w1 ⟨lb,B,mb,rfl,hb,hB,hm,hl,n1,n2,k1,k2,k3⟩
   exact ⟨lb,rfl,hb,B,_,_,⟨hG.below hb,k2,hB,hm,rfl,Int.le_refl 1,(by decide:(1:Int)≤8),rfl,k3⟩,⟨k1,hl,rfl,rfl,fun _=>rfl,fun _ _=>rfl⟩,⟨rfl,rfl⟩,fun _=>rfl⟩
 · rintro lb w1 ⟨hb,B,V,BV,hR,hL,hwq,hcv⟩
   refine (join_hall lb B 0 0 1 [99] false [16,13,0,4,77,81,84,84,4,0,0,0,0,1,99] [32,2,0,0] (helloD [99] false) ackD V BV (.map []) (fun _=>none) w1 hR hL (by omega) (hcv 0) hwq.2 (by omega) (fun j _ _=>hcv j) (fun _ _ _=>trivial) (by decide) (by decide) rfl (by decide) (by omega) (by kernel_rfl) (by decide) (by decide) (by kernel_rfl) rfl rfl (by kernel_rfl) (by decide) (by decide) (by kernel_rfl) rfl rfl).mono ?_
   rintro e w2 ⟨v,rfl,V',X,fv,cv,hL',hR',hS',hX,hbut⟩
   have hs:w.heap.size≤w1.heap.size:=hb.size
   refine ⟨v,rfl,below_of hb hbut (fun g e=>?_) (Nat.le_refl _),B,V',_,X,fv,cv,hR',hL',by have h9:=hS';rw [hwq.1] at h9;exact h9,fun g hg=>Nat.le_trans hs (hX g hg),fun e=>?_,setCon_same _ _ _,hwq,fun j hj=>(setCon_ne _ hj _).trans (hcv j)⟩
   · rcases e with rfl | rfl | rfl
     · exact hL.lb0
     · exact hR.B0
     · exact hR.mb0
   · obtain ⟨es,cl,hmb⟩:=map_blk hR.map
     have h1:=hX X.sv.kb (Or.inr (Or.inl (Or.inr (Or.inr (Or.inl rfl)))))
     have h2:=blk_lt hmb
     have e':X.sv.kb=BV.mb:=e
     omega
 · rintro lb w2 ⟨hb,B,V,BV,X,fv,cv,hR,hL,hS,hX,hXm,hv,hwq,hvn⟩
   refine (ask_hall lb B 0 1 ([97,47,43],1) [130,8,0,1,0,3,97,47,43,1] [144,3,0,1,1] askD _ sackD V BV (D1 X.cv.sp) X (newS 1 1) [([97,47,43],1)] w2 hR hL hS hX hXm (by omega) hv (fun fv=>by kernel_rfl) (by decide) (by decide) (by kernel_rfl) rfl (by kernel_rfl) (fun cv=>by kernel_rfl) (by decide) (by decide) (by kernel_rfl) rfl).mono ?_
   rintro e w3 ⟨rfl,V',X',hL',hR',hS',e1,e2,e3,hX',hbut⟩
   have hs:w.heap.size≤w2.heap.size:=hb.size
   refine ⟨rfl,below_of hb hbut (fun g e=>?_) (Nat.le_refl _),B,V',BV,X',fv,cv,by rw [e2];exact hR',hL',hS',fun g hg=>(hX' g hg).elim (hX g) (fun h=>Nat.le_trans hs h),by rw [e3];exact hXm,by rw [e1];exact hv,hwq,hvn⟩
   rcases e with rfl | rfl | e
   · exact hL.lb0
   · exact hR.B0
   · exact hX g e
 · rintro lb w3 ⟨hb,B,V,BV,X,fv,cv,hR,hL,hS,hX,hXm,hv,hwq,hvn⟩
   refine (join_hall lb B 1 1 1 [100] true [16,13,0,4,77,81,84,84,4,2,0,0,0,1,100] [32,2,0,0] (helloD [100] true) ackD V BV (D1 X.cv.sp) (fun j=>if j=0 then some (X.cv,⟨[],0,some { helloD [99] false with fv:=fv,cv:=cv }⟩) else none) w3 hR hL (by omega) (hvn 1 (by decide)) hwq.2 (by omega) (fun j _ hj1=>?_) (fun j _ _=>?_) (by decide) (by decide) rfl (by show (1:Nat) < 8;decide) (by omega) (by kernel_rfl) (by decide) (by decide) (by kernel_rfl) rfl rfl (by kernel_rfl) (by decide) (by decide) (by kernel_rfl) rfl rfl).mono ?_
   · show ConO w3 B BV j (if j=0 then _ else none)
     by_cases hj:j=0
     · subst hj;rw [if_pos rfl];exact ⟨hv,hS.con⟩
     · rw [if_neg hj];exact hvn j hj
   · show notFor [100] (if j=0 then _ else none)
     by_cases hj:j=0
     · rw [if_pos hj];intro q hq;cases hq;show ([99]:List UInt8)≠[100];decide
     · rw [if_neg hj];trivial
   · rintro e w4 ⟨v,rfl,V',X1,fv1,cv1,hL',hR',hS',hX1,hbut⟩
     have hs:w.heap.size≤w3.heap.size:=hb.size
     obtain ⟨es,cl,hmb⟩:=map_blk hR.map
     have hlb:w3.heap[lb]?=some (.cells (lineC V) 60):=hL.line
     refine ⟨v,rfl,below_of hb hbut (fun g e=>?_) (Nat.le_refl _),B,V',_,X,fv,cv,X1,fv1,cv1,hR',hL',hS.but hbut (fun b hb' e=>?_),by have h9:=hS';rw [hwq.1] at h9;exact h9,hX,fun g hg=>Nat.le_trans hs (hX1 g hg),fun g h1 h2=>?_,hXm,fun e=>?_,(setCon_ne _ (by decide) _).trans hv,setCon_same _ _ _⟩
     · rcases e with rfl | rfl | rfl
       · exact hL.lb0
       · exact hR.B0
       · exact hR.mb0
     · rcases e with rfl | rfl | rfl
       · exact hS.not hlb (by decide) (by decide) hb'
       · exact hS.notB hR.blk.blk hb'
       · exact hS.notMap hmb (fun e=>hXm e.symm) hb'
     · have:=hS.lt h1;have:=hX1 g h2;omega
     · have h1:=hX1 X1.sv.kb (Or.inr (Or.inl (Or.inr (Or.inr (Or.inl rfl)))))
       have h2:=blk_lt hmb
       have e':X1.sv.kb=BV.mb:=e
       omega
 · rintro lb w4 ⟨hb,B,V,BV,X,fv,cv,X1,fv1,cv1,hR,hL,hS,hS1,hX,hX1,hdis,hXm,hXm1,hv,hv1⟩
   have hH:Hall2 w.heap.size ash aw w4 lb B 1 0 V BV 2 (D2 X.cv.sp X1.cv.sp) { helloD [100] true with fv:=fv1,cv:=cv1 } { helloD [99] false with fv:=fv,cv:=cv } X1 X (newS 1 1) lisS (fun _=>False):=⟨hR,hL,hS1,hS,hX1,hX,hXm1,hXm,fun g a b=>hdis g b a,hv1,hv⟩
   refine (send_hall hiS [52,9,0,3,97,47,120,0,9,104,105] [⟨((0:Nat):Int),[50,9,0,3,97,47,120,0,1,104,105],false⟩,⟨((1:Nat):Int),[80,2,0,9],false⟩] (fun j=>if j=0 then (toldD,[],[]) else (recD,[],[])) w4 hH rfl rfl (by kernel_rfl) (by decide) ⟨fun j o h1=>?_,fun i j o o' h1 h2 e=>?_⟩ (fun w1 g c hb1 hx=>?_) (SX':={ newS 1 1 with known:=[9] }) (SY':=tellS true lisS (toldS (ofS hiD) 1 false))).mono ?_
   · match j,h1 with
     | 0,h1=>simp at h1;subst h1;exact ⟨rfl,by kernel_rfl,by decide,by decide,0,by decide,rfl,fun f=>f⟩
     | 1,h1=>simp at h1;subst h1;exact ⟨rfl,by kernel_rfl,by decide,by decide,1,by decide,rfl,fun f=>f⟩
   · match i,j,h1,h2 with
     | 0,0,_,_=>rfl
     | 1,1,_,_=>rfl
     | 0,1,h1,h2=>simp at h1 h2;subst h1;subst h2;cases e
     | 1,0,h1,h2=>simp at h1 h2;subst h1;subst h2;cases e
   · have hh:=hH.but (F:=fun _=>False) (But.of_below hb1) (fun _ e=>e.elim)
     have hF:=feed_pub2 (N0:=w.heap.size) (ash:=ash) (aw:=aw) B 1 0 2 hiD _ _ [99] [100] [52,9,0,3,97,47,120,0,9,104,105] [50,9,0,3,97,47,120,0,1,104,105] [80,2,0,9] 1 0 (D2 X.cv.sp X1.cv.sp) BV X1 X (newS 1 1) lisS g c w1 hh.room.gd hh.room.blk hh.sx hh.sy hh.room.map hh.x0 hh.y0 hh.room.B0 hh.ym hh.xm hh.dis (by omega) hh.vx hh.room.clk (by decide) (by decide) hx (by kernel_rfl) rfl rfl (by decide) rfl (by decide) (by kernel_rfl) ⟨rfl,fun ss h=>keys2 h,(by show (2:Nat)≤1000000;decide),(by decide),(by decide),rfl,rfl,(by decide),(by decide),(by intro f hf;cases hf),(by kernel_rfl),rfl,(by kernel_rfl),(by decide),(by decide)⟩
     rw [hh.sy.snd] at hF
     exact hF
   · rintro e w5 ⟨rfl,V',X1',X',hs5⟩
     have hs:w.heap.size≤w4.heap.size:=hb.size
     have hlb4:lb < w4.heap.size:=blk_lt hL.line
     obtain ⟨n0,e0,hg0⟩:=hs5.new 0 _ rfl
     obtain ⟨n1,e1,hg1⟩:=hs5.new 1 _ rfl
     have e0':n0=0:=by have:((0:Nat):Int)=(n0:Int):=e0;omega
     have e1':n1=1:=by have:((1:Nat):Int)=(n1:Int):=e1;omega
     subst e0' e1'
     obtain ⟨g0,cap0,f0,cc0,i1,i2,i3,i4,i5,_⟩:=hg0.at
     obtain ⟨g1,cap1,f1,cc1,j1,j2,j3,j4,j5,_⟩:=hg1.at
     have hl5:LineOf w.heap.size w5 lb B V' (fun n=>n=0∨n=1):=⟨hs5.hall.line.line,hs5.hall.line.lb0,hs5.hall.line.b,hs5.hall.line.bad,hs5.hall.line.off,fun n hn=>hs5.hall.line.got n (fun h=>by
      rcases h with h | ⟨o,ho,e⟩
      · exact h
      · simp at ho
        rcases ho with rfl | rfl
        · exact hn (Or.inl (by have:(0:Int)=(n:Int):=e;omega))
        · exact hn (Or.inr (by have:(1:Int)=(n:Int):=e;omega)))⟩
     refine ⟨rfl,⟨below_of hb hs5.but (fun g e=>?_) (Nat.le_refl _),B,V',BV,X',fv,cv,_,_,_,hs5.hall.room,hl5,hs5.hall.sy,hs5.hall.y0 _ (Or.inr (Or.inl (Or.inl rfl))),hs5.hall.vy⟩,g0,cap0,g1,cap1,V',⟨hl5.line,hl5.bad,i1,j1,i3,j3,i5 0 _ rfl,i5 8 _ rfl,i5 11 _ rfl,i5 12 _ rfl,j5 0 _ rfl,j5 12 _ rfl,by omega,by omega⟩⟩
     rcases e with rfl | rfl | e | e
     · exact hL.lb0
     · exact hR.B0
     · exact hX1 g e
     · exact hX g e
 · rintro lb w5 V ⟨hb,B,V5,BV,X,fv,cv,nn,D,S,hR,hL,hS,hX,hv⟩ hline
   have hl5:w5.heap[lb]?=some (.cells (lineC V5) 60):=hL.line
   have hVb:V.b=B:=by
    have h1:w5.heap[lb]?=some (.cells (lineC V) 60):=hline
    rw [hl5] at h1
    have h2:=congrArg (fun o=>match o with | some (Obj.cells c _ _)=>c[0]? | _=>none) h1
    simp [lineC] at h2
    rw [← h2]
    exact hL.b
   rw [hVb]
   obtain ⟨nB,nM,_⟩:=hR.lb_ne hL.line
   have hset:But (fun g=>g=lb) w5 ((w5.setCell ⟨lb,1,none⟩ (.slice none 0 0)).setCell ⟨lb,2,none⟩ (.slice none 0 0)):=(But.set (F:=fun g=>g=lb) _ _ _ rfl).trans (But.set (F:=fun g=>g=lb) _ _ _ rfl) (fun _ _ e=>e)
   generalize (w5.setCell ⟨lb,1,none⟩ (.slice none 0 0)).setCell ⟨lb,2,none⟩ (.slice none 0 0)=w6 at *
   have hR6:=hR.but hset nB nM (fun b e=>by subst e;exact hL.lb0)
   have hS6:=hS.but hset (fun b hb' e=>by subst e;exact hS.not hl5 (by decide) (by decide) hb')
   refine (close_stays B 0 _ X.sv S BV X.cv _ w6 hR6.blk hS6.con rfl rfl rfl hS6.ses (by omega) hv).mono ?_
   rintro e w7 ⟨ov,rfl,ho,_,_,hbut,_⟩
   obtain ⟨q,cap,rfl⟩:=own_form ho.row
   obtain ⟨g,rfl,_,i1,_,i2⟩:=own_at ho.row (by simp)
   refine ⟨g,cap,rfl,i1,i2 0 _ rfl,i2 2 _ rfl,below_of (below_of hb hset (fun b e=>by subst e;exact hL.lb0) (Nat.le_refl _)) hbut (fun b e=>?_) (Nat.le_refl _)⟩
   rcases e with rfl | rfl
   · exact hX
   · exact hR.B0
end br
namespace br
open Go.RowKit topPlain topWalks decPlain rd ew encPlain rf Go.Maps
set_option maxHeartbeats 800000 in
set_option maxRecDepth 100000 in
theorem learn_old (sb:Nat) (V:SesV) (S:Ses) (id:Int) (w:World) (h:SesAt w sb V S) (hid:(Lit.int .i64 id).wf=true) (hk:S.known.contains id=true) :
 Calls Tryz.prog 207 #[.pointer (some ⟨sb,0,none⟩),.int .i64 id] w fun e w'=>e=.returned (.bool false)∧Below w.heap.size w w':=by
 have c1:w.cell? ⟨sb,1,none⟩=some (.map (some V.kb)):=blk_cell h.blk rfl
 obtain ⟨D,hM,hD⟩:=h.kno
 have hlk:(Instr.lookup 184 (.map (some V.kb)) (.int .i64 id) true).run Tryz.prog w=.ok (.tuple #[.agg #[],.bool true]) w:=by
  obtain ⟨v,ps,hrun,hv⟩:=hM.look_ok (t:=184) (e:=289) keyInt Tryz.underlying184 (zeroUnit _) (zd:=.agg []) (zp:=[]) unitElem_mk (key:=.int .i64 id) (kl:=.int .i64 id) (keyOf_int_mk Tryz.underlying3 hid)
  obtain ⟨rfl,_⟩:=unitElem_inv hv
  rw [hD id hid,hk] at hrun
  exact hrun
 clear h hM hD
 go_enter Tryz.func207,Tryz.ntmps207
 go_wp2_with fail
 go_ret
 exact ⟨rfl,(Below.refl w.heap.size w).alloc (Nat.le_refl _) _⟩
set_option maxHeartbeats 1600000 in
set_option maxRecDepth 100000 in
theorem receive_known (B cb sb:Nat) (p:Pkt) (w:World) (R:Ending→World→Prop) (f1:Option Addr) (f2 f3:Nat) (c1:Option Addr) (c2 c3:Nat) (hfv:p.fv=.slice f1 f2 f3) (hcv:p.cv=.slice c1 c2 c3) (hq:p.qos=2)
 (hc:w.cell? ⟨cb,18,none⟩=some (.pointer (some ⟨sb,0,none⟩)))
 (hL:∀ w',Below w.heap.size w w'→Calls Tryz.prog 207 #[.pointer (some ⟨sb,0,none⟩),.int .i64 p.id] w' fun e w''=>e=.returned (.bool false)∧Below w'.heap.size w' w'')
 (hW:∀ w',Below w.heap.size w w'→Calls Tryz.prog 131 #[.pointer (some ⟨B,0,none⟩),.pointer (some ⟨cb,0,none⟩),.agg (pkK (recS p.id))] w' fun e w''=>e=.returned (.tuple #[])∧R e w'') :
 Calls Tryz.prog 157 #[.pointer (some ⟨B,0,none⟩),.pointer (some ⟨cb,0,none⟩),.agg (pkK p)] w R:=by
 have HL:=hide hL
 have HW:=hide hW
 have HB:=hide fun o=>(Below.refl w.heap.size w).alloc (Nat.le_refl _) o
 have hA:=fun o=>alloc_cell hc o
 have hlc:=cell_blt hc
 simp only at hlc
 simp only [pkK,hfv,hcv,hq,recS,zP] at HW ⊢
 clear hL hW hq hfv hcv
 go_enter Tryz.func157,Tryz.ntmps157
 go_wp2_with fail
 have hBA:=HB.out (.cells #[.int .i64 p.kind,.bool p.clean,.bool p.will,.int .i64 p.keep,.string (bs p.client),.bool p.present,.int .i64 p.code,.bool p.dup,.int .i64 2,.bool p.retain,.string (bs p.topic),.string (bs p.payload),.int .i64 p.id,.slice f1 f2 f3,.slice c1 c2 c3] 36)
 have hnew:=heap_alloc_new w (.cells #[.int .i64 p.kind,.bool p.clean,.bool p.will,.int .i64 p.keep,.string (bs p.client),.bool p.present,.int .i64 p.code,.bool p.dup,.int .i64 2,.bool p.retain,.string (bs p.topic),.string (bs p.payload),.int .i64 p.id,.slice f1 f2 f3,.slice c1 c2 c3] 36)
 have hA':=hA (.cells #[.int .i64 p.kind,.bool p.clean,.bool p.will,.int .i64 p.keep,.string (bs p.client),.bool p.present,.int .i64 p.code,.bool p.dup,.int .i64 2,.bool p.retain,.string (bs p.topic),.string (bs p.payload),.int .i64 p.id,.slice f1 f2 f3,.slice c1 c2 c3] 36)
 clear hA HB
 generalize w.alloc (.cells #[.int .i64 p.kind,.bool p.clean,.bool p.will,.int .i64 p.keep,.string (bs p.client),.bool p.present,.int .i64 p.code,.bool p.dup,.int .i64 2,.bool p.retain,.string (bs p.topic),.string (bs p.payload),.int .i64 p.id,.slice f1 f2 f3,.slice c1 c2 c3] 36)=W0 at *
 have d8:W0.cell? ⟨w.heap.size,8,none⟩=some (.int .i64 2):=blk_cell hnew rfl
 have d12:W0.cell? ⟨w.heap.size,12,none⟩=some (.int .i64 p.id):=blk_cell hnew rfl
 have HBA:=hide hBA
 have hl0:=blk_lt hnew
 have hl00:cb < W0.heap.size:=Nat.lt_of_lt_of_le hlc hBA.size
 clear hnew hBA
 go_region_held3 (fun w'=>w'.cell? ⟨w.heap.size,8,none⟩=some (.int .i64 2)∧w'.cell? ⟨w.heap.size,12,none⟩=some (.int .i64 p.id)∧w'.cell? ⟨cb,18,none⟩=some (.pointer (some ⟨sb,0,none⟩)))
  (go_keep)
  (first
   | (go_at_call 207
      refine (HL.out _ HBA.out.drew).mono ?_
      rintro e w1 ⟨rfl,hk1⟩
      have hB1:Below W0.heap.size W0 w1:=(Below.refl W0.heap.size W0).drew.trans hk1
      have e8:w1.cell? ⟨w.heap.size,8,none⟩=some (.int .i64 2):=(hB1.cell (p:=⟨w.heap.size,8,none⟩) hl0).trans d8
      have e12:w1.cell? ⟨w.heap.size,12,none⟩=some (.int .i64 p.id):=(hB1.cell (p:=⟨w.heap.size,12,none⟩) hl0).trans d12
      have c18:w1.cell? ⟨cb,18,none⟩=some (.pointer (some ⟨sb,0,none⟩)):=(hB1.cell (p:=⟨cb,18,none⟩) hl00).trans hA'
      have HB1:=hide (HBA.out.trans (hB1.mono HBA.out.size))
      have hl1:w.heap.size < w1.heap.size:=Nat.lt_of_lt_of_le hl0 hB1.size
      clear hk1 hB1))
 all_goals
  go_wp2_with fail
  refine (HW.out _ HB1.out).mono ?_
  rintro e w4 ⟨rfl,hR⟩
  have HR:=hide hR
  clear hR
  go_wp2
  go_end0
  exact HR.out
end br
end Go.Proofs.YtnmfmoimjkoieaaGreatDoor
