import Derived.Test.YtnmfmoimjkoieaaGreatDoorF33
import Derived.Test.YtnmfmoimjkoieaaGreatDoorF29
import Derived.Test.YtnmfmoimjkoieaaGreatDoorF26
import Derived.Test.YtnmfmoimjkoieaaGreatDoorF36
namespace Go.Proofs.YtnmfmoimjkoieaaGreatDoor
namespace br
open Go.RowKit topPlain topWalks decPlain
set_option maxHeartbeats 800000 in
set_option maxRecDepth 100000 in
/-- a handler that calls a method of the session with the packet's Id -/
theorem h_ack (B cb x y sb:Nat) (p:Pkt) (w:World) (R:Ending→World→Prop) (hb:Boxes w B cb x y) (hc:w.cell? ⟨cb,18,none⟩=some (.pointer (some ⟨sb,0,none⟩))) (hfv:∃ a b c,p.fv=.slice a b c) (hcv:∃ a b c,p.cv=.slice a b c)
 (hK:∀ w',Below w.heap.size w w'→Calls Tryz.prog 159 #[.pointer (some ⟨sb,0,none⟩),.int .i64 p.id] w' fun e w''=>e=.returned (.tuple #[])∧R e w'') :
 Calls Tryz.prog 158 #[.agg (pkK p),.pointer (some ⟨y,0,none⟩)] w R:=by
 have cy:w.cell? ⟨y,0,none⟩=some (.pointer (some ⟨cb,0,none⟩)):=blk_cell hb.by_ rfl
 have hly:=blk_lt hb.by_
 have hlc:=cell_blt hc
 simp only at hlc
 obtain ⟨f1,f2,f3,hfv⟩:=hfv
 obtain ⟨c1,c2,c3,hcv⟩:=hcv
 have HK:=hide hK
 clear hK hb
 simp only [pkK,hfv,hcv]
 clear hfv hcv
 have hB0:=(Below.refl w.heap.size w).alloc (Nat.le_refl _) (.cells #[.int .i64 p.kind,.bool p.clean,.bool p.will,.int .i64 p.keep,.string (bs p.client),.bool p.present,.int .i64 p.code,.bool p.dup,.int .i64 p.qos,.bool p.retain,.string (bs p.topic),.string (bs p.payload),.int .i64 p.id,.slice f1 f2 f3,.slice c1 c2 c3] 36)
 have hn0:=heap_alloc_new w (.cells #[.int .i64 p.kind,.bool p.clean,.bool p.will,.int .i64 p.keep,.string (bs p.client),.bool p.present,.int .i64 p.code,.bool p.dup,.int .i64 p.qos,.bool p.retain,.string (bs p.topic),.string (bs p.payload),.int .i64 p.id,.slice f1 f2 f3,.slice c1 c2 c3] 36)
 have a1:=alloc_cell cy (.cells #[.int .i64 p.kind,.bool p.clean,.bool p.will,.int .i64 p.keep,.string (bs p.client),.bool p.present,.int .i64 p.code,.bool p.dup,.int .i64 p.qos,.bool p.retain,.string (bs p.topic),.string (bs p.payload),.int .i64 p.id,.slice f1 f2 f3,.slice c1 c2 c3] 36)
 have a2:=alloc_cell hc (.cells #[.int .i64 p.kind,.bool p.clean,.bool p.will,.int .i64 p.keep,.string (bs p.client),.bool p.present,.int .i64 p.code,.bool p.dup,.int .i64 p.qos,.bool p.retain,.string (bs p.topic),.string (bs p.payload),.int .i64 p.id,.slice f1 f2 f3,.slice c1 c2 c3] 36)
 go_enter Tryz.func158,Tryz.ntmps158
 go_wp2_with fail
 generalize w.alloc (.cells #[.int .i64 p.kind,.bool p.clean,.bool p.will,.int .i64 p.keep,.string (bs p.client),.bool p.present,.int .i64 p.code,.bool p.dup,.int .i64 p.qos,.bool p.retain,.string (bs p.topic),.string (bs p.payload),.int .i64 p.id,.slice f1 f2 f3,.slice c1 c2 c3] 36)=W0 at *
 have d12:W0.cell? ⟨w.heap.size,12,none⟩=some (.int .i64 p.id):=blk_cell hn0 rfl
 have hl0:=blk_lt hn0
 have cH:=hide (HK.out _ hB0.drew)
 clear hn0 hB0 cy hc
 go_region_with (
  refine cH.out.mono ?_
  rintro e w1 ⟨rfl,hR⟩
  have HR:=hide hR
  clear hR)
 all_goals
  go_wp2
  go_end0
  exact HR.out
set_option maxHeartbeats 800000 in
set_option maxRecDepth 100000 in
/-- a handler that calls a method of the session with the packet's Id -/
theorem h_rec (B cb x y sb:Nat) (p:Pkt) (w:World) (R:Ending→World→Prop) (hb:Boxes w B cb x y) (hc:w.cell? ⟨cb,18,none⟩=some (.pointer (some ⟨sb,0,none⟩))) (hfv:∃ a b c,p.fv=.slice a b c) (hcv:∃ a b c,p.cv=.slice a b c)
 (hK:∀ w',Below w.heap.size w w'→Calls Tryz.prog 161 #[.pointer (some ⟨sb,0,none⟩),.int .i64 p.id] w' fun e w''=>e=.returned (.tuple #[])∧R e w'') :
 Calls Tryz.prog 160 #[.agg (pkK p),.pointer (some ⟨y,0,none⟩)] w R:=by
 have cy:w.cell? ⟨y,0,none⟩=some (.pointer (some ⟨cb,0,none⟩)):=blk_cell hb.by_ rfl
 have hly:=blk_lt hb.by_
 have hlc:=cell_blt hc
 simp only at hlc
 obtain ⟨f1,f2,f3,hfv⟩:=hfv
 obtain ⟨c1,c2,c3,hcv⟩:=hcv
 have HK:=hide hK
 clear hK hb
 simp only [pkK,hfv,hcv]
 clear hfv hcv
 have hB0:=(Below.refl w.heap.size w).alloc (Nat.le_refl _) (.cells #[.int .i64 p.kind,.bool p.clean,.bool p.will,.int .i64 p.keep,.string (bs p.client),.bool p.present,.int .i64 p.code,.bool p.dup,.int .i64 p.qos,.bool p.retain,.string (bs p.topic),.string (bs p.payload),.int .i64 p.id,.slice f1 f2 f3,.slice c1 c2 c3] 36)
 have hn0:=heap_alloc_new w (.cells #[.int .i64 p.kind,.bool p.clean,.bool p.will,.int .i64 p.keep,.string (bs p.client),.bool p.present,.int .i64 p.code,.bool p.dup,.int .i64 p.qos,.bool p.retain,.string (bs p.topic),.string (bs p.payload),.int .i64 p.id,.slice f1 f2 f3,.slice c1 c2 c3] 36)
 have a1:=alloc_cell cy (.cells #[.int .i64 p.kind,.bool p.clean,.bool p.will,.int .i64 p.keep,.string (bs p.client),.bool p.present,.int .i64 p.code,.bool p.dup,.int .i64 p.qos,.bool p.retain,.string (bs p.topic),.string (bs p.payload),.int .i64 p.id,.slice f1 f2 f3,.slice c1 c2 c3] 36)
 have a2:=alloc_cell hc (.cells #[.int .i64 p.kind,.bool p.clean,.bool p.will,.int .i64 p.keep,.string (bs p.client),.bool p.present,.int .i64 p.code,.bool p.dup,.int .i64 p.qos,.bool p.retain,.string (bs p.topic),.string (bs p.payload),.int .i64 p.id,.slice f1 f2 f3,.slice c1 c2 c3] 36)
 go_enter Tryz.func160,Tryz.ntmps160
 go_wp2_with fail
 generalize w.alloc (.cells #[.int .i64 p.kind,.bool p.clean,.bool p.will,.int .i64 p.keep,.string (bs p.client),.bool p.present,.int .i64 p.code,.bool p.dup,.int .i64 p.qos,.bool p.retain,.string (bs p.topic),.string (bs p.payload),.int .i64 p.id,.slice f1 f2 f3,.slice c1 c2 c3] 36)=W0 at *
 have d12:W0.cell? ⟨w.heap.size,12,none⟩=some (.int .i64 p.id):=blk_cell hn0 rfl
 have hl0:=blk_lt hn0
 have cH:=hide (HK.out _ hB0.drew)
 clear hn0 hB0 cy hc
 go_region_with (
  refine cH.out.mono ?_
  rintro e w1 ⟨rfl,hR⟩
  have HR:=hide hR
  clear hR)
 all_goals
  go_wp2
  go_end0
  exact HR.out
set_option maxHeartbeats 800000 in
set_option maxRecDepth 100000 in
/-- a handler that calls a method of the session with the packet's Id -/
theorem h_comp (B cb x y sb:Nat) (p:Pkt) (w:World) (R:Ending→World→Prop) (hb:Boxes w B cb x y) (hc:w.cell? ⟨cb,18,none⟩=some (.pointer (some ⟨sb,0,none⟩))) (hfv:∃ a b c,p.fv=.slice a b c) (hcv:∃ a b c,p.cv=.slice a b c)
 (hK:∀ w',Below w.heap.size w w'→Calls Tryz.prog 165 #[.pointer (some ⟨sb,0,none⟩),.int .i64 p.id] w' fun e w''=>e=.returned (.tuple #[])∧R e w'') :
 Calls Tryz.prog 164 #[.agg (pkK p),.pointer (some ⟨y,0,none⟩)] w R:=by
 have cy:w.cell? ⟨y,0,none⟩=some (.pointer (some ⟨cb,0,none⟩)):=blk_cell hb.by_ rfl
 have hly:=blk_lt hb.by_
 have hlc:=cell_blt hc
 simp only at hlc
 obtain ⟨f1,f2,f3,hfv⟩:=hfv
 obtain ⟨c1,c2,c3,hcv⟩:=hcv
 have HK:=hide hK
 clear hK hb
 simp only [pkK,hfv,hcv]
 clear hfv hcv
 have hB0:=(Below.refl w.heap.size w).alloc (Nat.le_refl _) (.cells #[.int .i64 p.kind,.bool p.clean,.bool p.will,.int .i64 p.keep,.string (bs p.client),.bool p.present,.int .i64 p.code,.bool p.dup,.int .i64 p.qos,.bool p.retain,.string (bs p.topic),.string (bs p.payload),.int .i64 p.id,.slice f1 f2 f3,.slice c1 c2 c3] 36)
 have hn0:=heap_alloc_new w (.cells #[.int .i64 p.kind,.bool p.clean,.bool p.will,.int .i64 p.keep,.string (bs p.client),.bool p.present,.int .i64 p.code,.bool p.dup,.int .i64 p.qos,.bool p.retain,.string (bs p.topic),.string (bs p.payload),.int .i64 p.id,.slice f1 f2 f3,.slice c1 c2 c3] 36)
 have a1:=alloc_cell cy (.cells #[.int .i64 p.kind,.bool p.clean,.bool p.will,.int .i64 p.keep,.string (bs p.client),.bool p.present,.int .i64 p.code,.bool p.dup,.int .i64 p.qos,.bool p.retain,.string (bs p.topic),.string (bs p.payload),.int .i64 p.id,.slice f1 f2 f3,.slice c1 c2 c3] 36)
 have a2:=alloc_cell hc (.cells #[.int .i64 p.kind,.bool p.clean,.bool p.will,.int .i64 p.keep,.string (bs p.client),.bool p.present,.int .i64 p.code,.bool p.dup,.int .i64 p.qos,.bool p.retain,.string (bs p.topic),.string (bs p.payload),.int .i64 p.id,.slice f1 f2 f3,.slice c1 c2 c3] 36)
 go_enter Tryz.func164,Tryz.ntmps164
 go_wp2_with fail
 generalize w.alloc (.cells #[.int .i64 p.kind,.bool p.clean,.bool p.will,.int .i64 p.keep,.string (bs p.client),.bool p.present,.int .i64 p.code,.bool p.dup,.int .i64 p.qos,.bool p.retain,.string (bs p.topic),.string (bs p.payload),.int .i64 p.id,.slice f1 f2 f3,.slice c1 c2 c3] 36)=W0 at *
 have d12:W0.cell? ⟨w.heap.size,12,none⟩=some (.int .i64 p.id):=blk_cell hn0 rfl
 have hl0:=blk_lt hn0
 have cH:=hide (HK.out _ hB0.drew)
 clear hn0 hB0 cy hc
 go_region_with (
  refine cH.out.mono ?_
  rintro e w1 ⟨rfl,hR⟩
  have HR:=hide hR
  clear hR)
 all_goals
  go_wp2
  go_end0
  exact HR.out
set_option maxHeartbeats 800000 in
set_option maxRecDepth 100000 in
theorem h_rel (B cb x y:Nat) (p:Pkt) (w:World) (R:Ending→World→Prop) (hb:Boxes w B cb x y) (hfv:∃ a b c,p.fv=.slice a b c) (hcv:∃ a b c,p.cv=.slice a b c)
 (hK:∀ w',Below w.heap.size w w'→Calls Tryz.prog 163 #[.pointer (some ⟨B,0,none⟩),.pointer (some ⟨cb,0,none⟩),.agg (pkK p)] w' fun e w''=>e=.returned (.tuple #[])∧R e w'') :
 Calls Tryz.prog 162 #[.agg (pkK p),.pointer (some ⟨x,0,none⟩),.pointer (some ⟨y,0,none⟩)] w R:=by
 have cx:w.cell? ⟨x,0,none⟩=some (.pointer (some ⟨B,0,none⟩)):=blk_cell hb.bx rfl
 have cy:w.cell? ⟨y,0,none⟩=some (.pointer (some ⟨cb,0,none⟩)):=blk_cell hb.by_ rfl
 have hlx:=blk_lt hb.bx
 have hly:=blk_lt hb.by_
 obtain ⟨f1,f2,f3,hfv⟩:=hfv
 obtain ⟨c1,c2,c3,hcv⟩:=hcv
 have HK:=hide hK
 clear hK hb
 simp only [pkK,hfv,hcv] at HK ⊢
 have HB:=hide fun o=>(Below.refl w.heap.size w).alloc (Nat.le_refl _) o
 clear hfv hcv
 go_enter Tryz.func162,Tryz.ntmps162
 go_wp2_with fail
 refine (HK.out _ (HB.out _)).mono ?_
 rintro e w1 ⟨rfl,hR⟩
 have HR:=hide hR
 clear hR
 go_wp2
 go_end0
 exact HR.out
end br
namespace br
open Go.RowKit topPlain topWalks decPlain rd ew encPlain rf
theorem Eff.own {B kx ky:Nat} {px py:Pkt} {BV:BrV} {X Y:SideV} {SX SX' SY:Ses} {os:List OutS} {w1 w1' w2:World} {uv':Value} (hX:Side w1' B kx X px SX) (hY:Side w1' B ky Y py SY) (hB:BlkAt w1' B BV (.slice none 0 0) []) (hdis:∀ g,X.has g→¬ Y.has g) (hb1:Below w1.heap.size w1 w1') (hw:Wrote (X.sv.has X.cv.sp) w1' B BV (.slice none 0 0) [] os w2) (hs:SesAt w2 X.cv.sp { X.sv with uv:=uv' } SX') (hu:uv'.ownBlock=X.sv.uv.ownBlock∨∃ b,uv'.ownBlock=some b∧w1'.heap.size≤b):EffE B BV X Y SX' SY os w1 w2:=by
 obtain ⟨ov',M,k1,k2,k3,k4,k5⟩:=hw
 have k3':But (fun g=>X.sv.has X.cv.sp g∨Y.sv.has Y.cv.sp g∨g=B) w1' w2:=k3.wide (fun g _ e=>e.elim Or.inl (fun e=>e.elim (fun e=>Or.inr (Or.inr e)) (fun e=>by cases e)))
 have hxh:∀ g,SesV.has { X.sv with uv:=uv' } X.cv.sp g→X.sv.has X.cv.sp g∨w1'.heap.size≤g:=fun g hg=>by
  rcases hg with hg | hg | hg | hg | hg
  · exact Or.inl (Or.inl hg)
  · exact Or.inl (Or.inr (Or.inl hg))
  · exact Or.inl (Or.inr (Or.inr (Or.inl hg)))
  · exact Or.inl (Or.inr (Or.inr (Or.inr (Or.inl hg))))
  · rcases hu with e | ⟨b,e1,e2⟩
    · exact Or.inl (Or.inr (Or.inr (Or.inr (Or.inr (e ▸ hg)))))
    · have hg2:uv'.ownBlock=some g:=hg
      rw [e1] at hg2
      cases hg2
      exact Or.inr e2
 refine ⟨⟨{ X.sv with uv:=uv' },Y.sv,ov',M⟩,(But.of_below hb1).trans k3' (fun _ _ f=>f),hs,hY.ses.but k3 (fun b hb e=>?_),rfl,rfl,rfl,rfl,fun g hg=>(hxh g hg).imp id (fun e=>Nat.le_trans hb1.size e),fun g hg=>Or.inl hg,fun g hg hy=>(hxh g hg).elim (fun e=>hdis g (Or.inr (Or.inl e)) (Or.inr (Or.inl hy))) (fun e=>by have:=hY.ses.lt hy;omega),k1,k2⟩
 · rcases e with e | e | e
   · exact hdis b (Or.inr (Or.inl e)) (Or.inr (Or.inl hb))
   · subst e;exact hY.notB hB.blk (Or.inr (Or.inl hb))
   · cases e
theorem feed_ack {N0:Nat} {ash aw:Addr} (B kx ky:Nat) (p px py:Pkt) (l d:List UInt8) (BV:BrV) (X Y:SideV) (SX SY:Ses) (db dc:Nat) (w:World) (hG:Gd N0 ash aw w) (h:BlkAt w B BV (.slice none 0 0) []) (hX:Side w B kx X px SX) (hY:Side w B ky Y py SY) (hX0:∀ g,X.has g→N0≤g) (hY0:∀ g,Y.has g→N0≤g) (hNB:N0≤B) (hdis:∀ g,X.has g→¬ Y.has g) (hk:kx < 8) (hv:BV.cv kx=.pointer (some ⟨X.cv.cb,0,none⟩)) (hclk:BV.clk=0)
 (hl0:0 < l.length) (hl:l.length≤1000000) (hd:∀ j x,l[j]?=some x→w.cell? ⟨db,0+j,none⟩=some (.int .u8 (x.toNat:Int))) (hdec:decL l=.inr ((p,[],[]),l.length)) (hkind:p.kind=4)
 (hdd:∀ m,goM true (endS (isDone p.id) SX)=some m→encD (pktS m (nextS SX.last (endS (isDone p.id) SX).under)) [] []=d) (h0:0≤SX.last) (hul:SX.under.length < 65000) (hone:(goS true (endS (isDone p.id) SX)).waiting = []∨mayS true (goS true (endS (isDone p.id) SX))=false) :
 Calls Tryz.prog 24 #[.pointer (some ⟨B,0,none⟩),.int .i64 (kx:Int),.slice (some ⟨db,0,none⟩) l.length dc] w fun e w'=>∃ ov L,e=.returned (.tuple #[ov,.int .i64 0])∧FdW B kx ky px py BV X Y (goS true (endS (isDone p.id) SX)) SY (if (goM true (endS (isDone p.id) SX)).isSome then [⟨(kx:Int),d,false⟩] else []) w w' ov L:=by
 refine feed_work B kx ky px py [] [] l BV X Y SX _ SY _ _ db dc w h hX hY hdis hk hv hclk (fun w' hb=>?_)
 have hG':Gd N0 ash aw w':=hG.below (hb.mono hG.env.size)
 refine read_ack (N0:=N0) (ash:=ash) (aw:=aw) B kx BV X.cv ⟨[],0,some px⟩ p [] [] l db 0 dc w' _ hG' (h.below hb) (hX.below hb).con rfl hX.wv ⟨_,rfl⟩ hk hv hl0 hl (fun j x hx=>by have:=hd j x hx;rw [hb.cell (cell_blt this)];exact this) hdec hkind (fun g hg=>hX0 g (Or.inl hg)) ?_ (fun w1 w2 fv cv hpre hE=>Eff.mid hG' (hX.below hb) (hY.below hb) hX0 hY0 hNB hdis hclk hv hpre hE)
 intro w1 fv cv hpre
 have hG1:Gd N0 ash aw w1:=hG'.below (hpre.but.below (fun b e=>by subst e;exact hX0 _ (Or.inl (Or.inl rfl))) hG'.env.size)
 have hX1:=(hX.below hb).pre hclk hpre
 have hY1:Side w1 B ky Y py SY:=(hY.below hb).but hpre.but (fun b hx e=>by subst e;exact hdis _ (Or.inl (Or.inl rfl)) hx)
 obtain ⟨f1,f3,rfl⟩:=own_form hpre.fil
 obtain ⟨c1,c3,rfl⟩:=own_form hpre.cod
 refine h_ack B X.cv.cb X.cv.x' X.cv.y' X.cv.sp { p with fv:=.slice f1 ([]:List (List UInt8×Int)).length f3,cv:=.slice c1 ([]:List Int).length c3 } w1 _ hX1.con.b2 (blk_cell hX1.con.blk (conC_at _ _ _).2.2.2.1) ⟨_,_,_,rfl⟩ ⟨_,_,_,rfl⟩ ?_
 intro w1' hb1
 have hG1':Gd N0 ash aw w1':=hG1.below (hb1.mono hG1.env.size)
 have hX1':=hX1.below hb1
 have hY1':=hY1.below hb1
 have hB1':=hpre.blk.below hb1
 have hsnd:X.sv.snd.isSome=true:=by rw [hX.snd];rfl
 have hsk:SinkO w1' B X.cv.cb (kx:Int) X.sv.snd:=fun x y e=>by rw [hX.snd] at e;cases e;exact hX1'.snk
 refine (done_any (N0:=N0) X.cv.sp B X.cv.cb (kx:Int) p.id d X.sv SX BV (.slice none 0 0) [] w1' (fun m hm=>?_) (fun b hb'=>hX0 b (Or.inr (Or.inl hb'))) hX1'.ses hB1' hsk (by simp) h0 hul (by rw [hsnd];exact hone)).mono ?_
 · rw [hsnd] at hm
   rw [← hdd m hm]
   exact hG1'.enc _ rfl rfl
 · rintro e w2 ⟨rfl,hw,uv',hs,hu⟩
   rw [hsnd] at hw hs
   rw [hX.snd] at hw
   exact ⟨rfl,rfl,Eff.own hX1' hY1' hB1' hdis hb1 hw hs hu⟩
theorem feed_comp {N0:Nat} {ash aw:Addr} (B kx ky:Nat) (p px py:Pkt) (l d:List UInt8) (BV:BrV) (X Y:SideV) (SX SY:Ses) (db dc:Nat) (w:World) (hG:Gd N0 ash aw w) (h:BlkAt w B BV (.slice none 0 0) []) (hX:Side w B kx X px SX) (hY:Side w B ky Y py SY) (hX0:∀ g,X.has g→N0≤g) (hY0:∀ g,Y.has g→N0≤g) (hNB:N0≤B) (hdis:∀ g,X.has g→¬ Y.has g) (hk:kx < 8) (hv:BV.cv kx=.pointer (some ⟨X.cv.cb,0,none⟩)) (hclk:BV.clk=0)
 (hl0:0 < l.length) (hl:l.length≤1000000) (hd:∀ j x,l[j]?=some x→w.cell? ⟨db,0+j,none⟩=some (.int .u8 (x.toNat:Int))) (hdec:decL l=.inr ((p,[],[]),l.length)) (hkind:p.kind=7)
 (hdd:∀ m,goM true (endS (isComp p.id) SX)=some m→encD (pktS m (nextS SX.last (endS (isComp p.id) SX).under)) [] []=d) (h0:0≤SX.last) (hul:SX.under.length < 65000) (hone:(goS true (endS (isComp p.id) SX)).waiting = []∨mayS true (goS true (endS (isComp p.id) SX))=false) :
 Calls Tryz.prog 24 #[.pointer (some ⟨B,0,none⟩),.int .i64 (kx:Int),.slice (some ⟨db,0,none⟩) l.length dc] w fun e w'=>∃ ov L,e=.returned (.tuple #[ov,.int .i64 0])∧FdW B kx ky px py BV X Y (goS true (endS (isComp p.id) SX)) SY (if (goM true (endS (isComp p.id) SX)).isSome then [⟨(kx:Int),d,false⟩] else []) w w' ov L:=by
 refine feed_work B kx ky px py [] [] l BV X Y SX _ SY _ _ db dc w h hX hY hdis hk hv hclk (fun w' hb=>?_)
 have hG':Gd N0 ash aw w':=hG.below (hb.mono hG.env.size)
 refine read_comp (N0:=N0) (ash:=ash) (aw:=aw) B kx BV X.cv ⟨[],0,some px⟩ p [] [] l db 0 dc w' _ hG' (h.below hb) (hX.below hb).con rfl hX.wv ⟨_,rfl⟩ hk hv hl0 hl (fun j x hx=>by have:=hd j x hx;rw [hb.cell (cell_blt this)];exact this) hdec hkind (fun g hg=>hX0 g (Or.inl hg)) ?_ (fun w1 w2 fv cv hpre hE=>Eff.mid hG' (hX.below hb) (hY.below hb) hX0 hY0 hNB hdis hclk hv hpre hE)
 intro w1 fv cv hpre
 have hG1:Gd N0 ash aw w1:=hG'.below (hpre.but.below (fun b e=>by subst e;exact hX0 _ (Or.inl (Or.inl rfl))) hG'.env.size)
 have hX1:=(hX.below hb).pre hclk hpre
 have hY1:Side w1 B ky Y py SY:=(hY.below hb).but hpre.but (fun b hx e=>by subst e;exact hdis _ (Or.inl (Or.inl rfl)) hx)
 obtain ⟨f1,f3,rfl⟩:=own_form hpre.fil
 obtain ⟨c1,c3,rfl⟩:=own_form hpre.cod
 refine h_comp B X.cv.cb X.cv.x' X.cv.y' X.cv.sp { p with fv:=.slice f1 ([]:List (List UInt8×Int)).length f3,cv:=.slice c1 ([]:List Int).length c3 } w1 _ hX1.con.b2 (blk_cell hX1.con.blk (conC_at _ _ _).2.2.2.1) ⟨_,_,_,rfl⟩ ⟨_,_,_,rfl⟩ ?_
 intro w1' hb1
 have hG1':Gd N0 ash aw w1':=hG1.below (hb1.mono hG1.env.size)
 have hX1':=hX1.below hb1
 have hY1':=hY1.below hb1
 have hB1':=hpre.blk.below hb1
 have hsnd:X.sv.snd.isSome=true:=by rw [hX.snd];rfl
 have hsk:SinkO w1' B X.cv.cb (kx:Int) X.sv.snd:=fun x y e=>by rw [hX.snd] at e;cases e;exact hX1'.snk
 refine (complete_any (N0:=N0) X.cv.sp B X.cv.cb (kx:Int) p.id d X.sv SX BV (.slice none 0 0) [] w1' (fun m hm=>?_) (fun b hb'=>hX0 b (Or.inr (Or.inl hb'))) hX1'.ses hB1' hsk (by simp) h0 hul (by rw [hsnd];exact hone)).mono ?_
 · rw [hsnd] at hm
   rw [← hdd m hm]
   exact hG1'.enc _ rfl rfl
 · rintro e w2 ⟨rfl,hw,uv',hs,hu⟩
   rw [hsnd] at hw hs
   rw [hX.snd] at hw
   exact ⟨rfl,rfl,Eff.own hX1' hY1' hB1' hdis hb1 hw hs hu⟩
theorem feed_rec {N0:Nat} {ash aw:Addr} (B kx ky:Nat) (p px py:Pkt) (l d:List UInt8) (BV:BrV) (X Y:SideV) (SX SY:Ses) (u:Uw) (i:Nat) (db dc:Nat) (w:World) (hG:Gd N0 ash aw w) (h:BlkAt w B BV (.slice none 0 0) []) (hX:Side w B kx X px SX) (hY:Side w B ky Y py SY) (hX0:∀ g,X.has g→N0≤g) (hY0:∀ g,Y.has g→N0≤g) (hNB:N0≤B) (hdis:∀ g,X.has g→¬ Y.has g) (hk:kx < 8) (hv:BV.cv kx=.pointer (some ⟨X.cv.cb,0,none⟩)) (hclk:BV.clk=0)
 (hl0:0 < l.length) (hl:l.length≤1000000) (hd:∀ j x,l[j]?=some x→w.cell? ⟨db,0+j,none⟩=some (.int .u8 (x.toNat:Int))) (hdec:decL l=.inr ((p,[],[]),l.length)) (hkind:p.kind=5)
 (hdd:encD (relS p.id) [] []=d) (hi:idx (fun u=>u.id == p.id) SX.under=(i:Int)) (hu:SX.under[i]?=some u) (hq:u.qos=2) :
 Calls Tryz.prog 24 #[.pointer (some ⟨B,0,none⟩),.int .i64 (kx:Int),.slice (some ⟨db,0,none⟩) l.length dc] w fun e w'=>∃ ov L,e=.returned (.tuple #[ov,.int .i64 0])∧FdW B kx ky px py BV X Y ({ SX with under:=SX.under.set i (relU p.id) }) SY ([⟨(kx:Int),d,false⟩]) w w' ov L:=by
 refine feed_work B kx ky px py [] [] l BV X Y SX _ SY _ _ db dc w h hX hY hdis hk hv hclk (fun w' hb=>?_)
 have hG':Gd N0 ash aw w':=hG.below (hb.mono hG.env.size)
 refine read_rec (N0:=N0) (ash:=ash) (aw:=aw) B kx BV X.cv ⟨[],0,some px⟩ p [] [] l db 0 dc w' _ hG' (h.below hb) (hX.below hb).con rfl hX.wv ⟨_,rfl⟩ hk hv hl0 hl (fun j x hx=>by have:=hd j x hx;rw [hb.cell (cell_blt this)];exact this) hdec hkind (fun g hg=>hX0 g (Or.inl hg)) ?_ (fun w1 w2 fv cv hpre hE=>Eff.mid hG' (hX.below hb) (hY.below hb) hX0 hY0 hNB hdis hclk hv hpre hE)
 intro w1 fv cv hpre
 have hG1:Gd N0 ash aw w1:=hG'.below (hpre.but.below (fun b e=>by subst e;exact hX0 _ (Or.inl (Or.inl rfl))) hG'.env.size)
 have hX1:=(hX.below hb).pre hclk hpre
 have hY1:Side w1 B ky Y py SY:=(hY.below hb).but hpre.but (fun b hx e=>by subst e;exact hdis _ (Or.inl (Or.inl rfl)) hx)
 obtain ⟨f1,f3,rfl⟩:=own_form hpre.fil
 obtain ⟨c1,c3,rfl⟩:=own_form hpre.cod
 refine h_rec B X.cv.cb X.cv.x' X.cv.y' X.cv.sp { p with fv:=.slice f1 ([]:List (List UInt8×Int)).length f3,cv:=.slice c1 ([]:List Int).length c3 } w1 _ hX1.con.b2 (blk_cell hX1.con.blk (conC_at _ _ _).2.2.2.1) ⟨_,_,_,rfl⟩ ⟨_,_,_,rfl⟩ ?_
 intro w1' hb1
 have hG1':Gd N0 ash aw w1':=hG1.below (hb1.mono hG1.env.size)
 have hX1':=hX1.below hb1
 have hY1':=hY1.below hb1
 have hB1':=hpre.blk.below hb1
 have hsnd:X.sv.snd.isSome=true:=by rw [hX.snd];rfl
 have hsk:SinkO w1' B X.cv.cb (kx:Int) X.sv.snd:=fun x y e=>by rw [hX.snd] at e;cases e;exact hX1'.snk
 refine (release_hit (N0:=N0) X.cv.sp B X.cv.cb i (kx:Int) p.id u d X.sv SX BV (.slice none 0 0) [] w1' (by rw [← hdd];exact hG1'.enc _ rfl rfl) (fun b hb'=>hX0 b (Or.inr (Or.inl hb'))) hX1'.ses hB1' hsk (by simp) hi hu hq).mono ?_
 rintro e w2 ⟨rfl,hw,hs⟩
 rw [hX.snd] at hw
 exact ⟨rfl,rfl,Eff.own (uv':=X.sv.uv) hX1' hY1' hB1' hdis hb1 hw hs (Or.inl rfl)⟩
end br
end Go.Proofs.YtnmfmoimjkoieaaGreatDoor
