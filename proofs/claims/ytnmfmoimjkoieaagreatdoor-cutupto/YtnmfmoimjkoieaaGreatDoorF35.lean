import Derived.Test.YtnmfmoimjkoieaaGreatDoorF32
import Derived.Test.YtnmfmoimjkoieaaGreatDoorF29
import Derived.Test.YtnmfmoimjkoieaaGreatDoorF26
import Derived.Test.YtnmfmoimjkoieaaGreatDoorF34
namespace Go.Proofs.YtnmfmoimjkoieaaGreatDoor
namespace br
open Go.RowKit topPlain topWalks decPlain
set_option maxHeartbeats 800000 in
set_option maxRecDepth 100000 in
/-- a handler that calls a method of the session with the packet's Id -/
theorem h_ack (B cb x y sb:Nat) (p:Pkt) (w:World) (R:Ending→World→Prop) (hb:Boxes w B cb x y) (hc:w.cell? ⟨cb,18,none⟩=some (.pointer (some ⟨sb,0,none⟩))) (hfv:∃ a b c,p.fv=.slice a b c) (hcv:∃ a b c,p.cv=.slice a b c)
 (hK:∀ w',Below w.heap.size w w'→Calls Tryz.prog 159 #[.pointer (some ⟨sb,0,none⟩),.int .i64 p.id] w' fun e w''=>e=.returned (.tuple #[])∧R e w'') :
 Calls Tryz.prog 158 #[.agg (pkK p),.pointer (some ⟨y,0,none⟩)] w R:=by
 have cy:w.cell? ⟨y,0,none⟩=some (.pointer (some ⟨cb,0,none⟩)):=blk_cell hb.by_ rfl
 have hly:=blk_lt hb.by_
 have hlc:=cell_blt hc
 simp only at hlc
 obtain ⟨f1,f2,f3,hfv⟩:=hfv
 obtain ⟨c1,c2,c3,hcv⟩:=hcv
 have HK:=hide hK
 clear hK hb
 simp only [pkK,hfv,hcv]
 clear hfv hcv
 have hB0:=(Below.refl w.heap.size w).alloc (Nat.le_refl _) (.cells #[.int .i64 p.kind,.bool p.clean,.bool p.will,.int .i64 p.keep,.string (bs p.client),.bool p.present,.int .i64 p.code,.bool p.dup,.int .i64 p.qos,.bool p.retain,.string (bs p.topic),.string (bs p.payload),.int .i64 p.id,.slice f1 f2 f3,.slice c1 c2 c3] 36)
 have hn0:=heap_alloc_new w (.cells #[.int .i64 p.kind,.bool p.clean,.bool p.will,.int .i64 p.keep,.string (bs p.client),.bool p.present,.int .i64 p.code,.bool p.dup,.int .i64 p.qos,.bool p.retain,.string (bs p.topic),.string (bs p.payload),.int .i64 p.id,.slice f1 f2 f3,.slice c1 c2 c3] 36)
 have a1:=alloc_cell cy (.cells #[.int .i64 p.kind,.bool p.clean,.bool p.will,.int .i64 p.keep,.string (bs p.client),.bool p.present,.int .i64 p.code,.bool p.dup,.int .i64 p.qos,.bool p.retain,.string (bs p.topic),.string (bs p.payload),.int .i64 p.id,.slice f1 f2 f3,.slice c1 c2 c3] 36)
 have a2:=alloc_cell hc (.cells #[.int .i64 p.kind,.bool p.clean,.bool p.will,.int .i64 p.keep,.string (bs p.client),.bool p.present,.int .i64 p.code,.bool p.dup,.int .i64 p.qos,.bool p.retain,.string (bs p.topic),.string (bs p.payload),.int .i64 p.id,.slice f1 f2 f3,.slice c1 c2 c3] 36)
 go_enter Tryz.func158,Tryz.ntmps158
 go_wp2_with fail
 generalize w.alloc (.cells #[.int .i64 p.kind,.bool p.clean,.bool p.will,.int .i64 p.keep,.string (bs p.client),.bool p.present,.int .i64 p.code,.bool p.dup,.int .i64 p.qos,.bool p.retain,.string (bs p.topic),.string (bs p.payload),.int .i64 p.id,.slice f1 f2 f3,.slice c1 c2 c3] 36)=W0 at *
 have d12:W0.cell? ⟨w.heap.size,12,none⟩=some (.int .i64 p.id):=blk_cell hn0 rfl
 have hl0:=blk_lt hn0
 have cH:=hide (HK.out _ hB0.drew)
 clear hn0 hB0 cy hc
 go_region_with (
  refine cH.out.mono ?_
  rintro e w1 ⟨rfl,hR⟩
  have HR:=hide hR
  clear hR)
 all_goals
  go_wp2
  go_end0
  exact HR.out
set_option maxHeartbeats 800000 in
set_option maxRecDepth 100000 in
/-- a handler that calls a method of the session with the packet's Id -/
theorem h_rec (B cb x y sb:Nat) (p:Pkt) (w:World) (R:Ending→World→Prop) (hb:Boxes w B cb x y) (hc:w.cell? ⟨cb,18,none⟩=some (.pointer (some ⟨sb,0,none⟩))) (hfv:∃ a b c,p.fv=.slice a b c) (hcv:∃ a b c,p.cv=.slice a b c)
 (hK:∀ w',Below w.heap.size w w'→Calls Tryz.prog 161 #[.pointer (some ⟨sb,0,none⟩),.int .i64 p.id] w' fun e w''=>e=.returned (.tuple #[])∧R e w'') :
 Calls Tryz.prog 160 #[.agg (pkK p),.pointer (some ⟨y,0,none⟩)] w R:=by
 have cy:w.cell? ⟨y,0,none⟩=some (.pointer (some ⟨cb,0,none⟩)):=blk_cell hb.by_ rfl
 have hly:=blk_lt hb.by_
 have hlc:=cell_blt hc
 simp only at hlc
 obtain ⟨f1,f2,f3,hfv⟩:=hfv
 obtain ⟨c1,c2,c3,hcv⟩:=hcv
 have HK:=hide hK
 clear hK hb
 simp only [pkK,hfv,hcv]
 clear hfv hcv
 have hB0:=(Below.refl w.heap.size w).alloc (Nat.le_refl _) (.cells #[.int .i64 p.kind,.bool p.clean,.bool p.will,.int .i64 p.keep,.string (bs p.client),.bool p.present,.int .i64 p.code,.bool p.dup,.int .i64 p.qos,.bool p.retain,.string (bs p.topic),.string (bs p.payload),.int .i64 p.id,.slice f1 f2 f3,.slice c1 c2 c3] 36)
 have hn0:=heap_alloc_new w (.cells #[.int .i64 p.kind,.bool p.clean,.bool p.will,.int .i64 p.keep,.string (bs p.client),.bool p.present,.int .i64 p.code,.bool p.dup,.int .i64 p.qos,.bool p.retain,.string (bs p.topic),.string (bs p.payload),.int .i64 p.id,.slice f1 f2 f3,.slice c1 c2 c3] 36)
 have a1:=alloc_cell cy (.cells #[.int .i64 p.kind,.bool p.clean,.bool p.will,.int .i64 p.keep,.string (bs p.client),.bool p.present,.int .i64 p.code,.bool p.dup,.int .i64 p.qos,.bool p.retain,.string (bs p.topic),.string (bs p.payload),.int .i64 p.id,.slice f1 f2 f3,.slice c1 c2 c3] 36)
 have a2:=alloc_cell hc (.cells #[.int .i64 p.kind,.bool p.clean,.bool p.will,.int .i64 p.keep,.string (bs p.client),.bool p.present,.int .i64 p.code,.bool p.dup,.int .i64 p.qos,.bool p.retain,.string (bs p.topic),.string (bs p.payload),.int .i64 p.id,.slice f1 f2 f3,.slice c1 c2 c3] 36)
 go_enter Tryz.func160,Tryz.ntmps160
 go_wp2_with fail
 generalize w.alloc (.cells #[.int .i64 p.kind,.bool p.clean,.bool p.will,.int .i64 p.keep,.string (bs p.client),.bool p.present,.int .i64 p.code,.bool p.dup,.int .i64 p.qos,.bool p.retain,.string (bs p.topic),.string (bs p.payload),.int .i64 p.id,.slice f1 f2 f3,.slice c1 c2 c3] 36)=W0 at *
 have d12:W0.cell? ⟨w.heap.size,12,none⟩=some (.int .i64 p.id):=blk_cell hn0 rfl
 have hl0:=blk_lt hn0
 have cH:=hide (HK.out _ hB0.drew)
 clear hn0 hB0 cy hc
 go_region_with (
  refine cH.out.mono ?_
  rintro e w1 ⟨rfl,hR⟩
  have HR:=hide hR
  clear hR)
 all_goals
  go_wp2
  go_end0
  exact HR.out
set_option maxHeartbeats 800000 in
set_option maxRecDepth 100000 in
/-- a handler that calls a method of the session with the packet's Id -/
theorem h_comp (B cb x y sb:Nat) (p:Pkt) (w:World) (R:Ending→World→Prop) (hb:Boxes w B cb x y) (hc:w.cell? ⟨cb,18,none⟩=some (.pointer (some ⟨sb,0,none⟩))) (hfv:∃ a b c,p.fv=.slice a b c) (hcv:∃ a b c,p.cv=.slice a b c)
 (hK:∀ w',Below w.heap.size w w'→Calls Tryz.prog 165 #[.pointer (some ⟨sb,0,none⟩),.int .i64 p.id] w' fun e w''=>e=.returned (.tuple #[])∧R e w'') :
 Calls Tryz.prog 164 #[.agg (pkK p),.pointer (some ⟨y,0,none⟩)] w R:=by
 have cy:w.cell? ⟨y,0,none⟩=some (.pointer (some ⟨cb,0,none⟩)):=blk_cell hb.by_ rfl
 have hly:=blk_lt hb.by_
 have hlc:=cell_blt hc
 simp only at hlc
 obtain ⟨f1,f2,f3,hfv⟩:=hfv
 obtain ⟨c1,c2,c3,hcv⟩:=hcv
 have HK:=hide hK
 clear hK hb
 simp only [pkK,hfv,hcv]
 clear hfv hcv
 have hB0:=(Below.refl w.heap.size w).alloc (Nat.le_refl _) (.cells #[.int .i64 p.kind,.bool p.clean,.bool p.will,.int .i64 p.keep,.string (bs p.client),.bool p.present,.int .i64 p.code,.bool p.dup,.int .i64 p.qos,.bool p.retain,.string (bs p.topic),.string (bs p.payload),.int .i64 p.id,.slice f1 f2 f3,.slice c1 c2 c3] 36)
 have hn0:=heap_alloc_new w (.cells #[.int .i64 p.kind,.bool p.clean,.bool p.will,.int .i64 p.keep,.string (bs p.client),.bool p.present,.int .i64 p.code,.bool p.dup,.int .i64 p.qos,.bool p.retain,.string (bs p.topic),.string (bs p.payload),.int .i64 p.id,.slice f1 f2 f3,.slice c1 c2 c3] 36)
 have a1:=alloc_cell cy (.cells #[.int .i64 p.kind,.bool p.clean,.bool p.will,.int .i64 p.keep,.string (bs p.client),.bool p.present,.int .i64 p.code,.bool p.dup,.int .i64 p.qos,.bool p.retain,.string (bs p.topic),.string (bs p.payload),.int .i64 p.id,.slice f1 f2 f3,.slice c1 c2 c3] 36)
 have a2:=alloc_cell hc (.cells #[.int .i64 p.kind,.bool p.clean,.bool p.will,.int .i64 p.keep,.string (bs p.client),.bool p.present,.int .i64 p.code,.bool p.dup,.int .i64 p.qos,.bool p.retain,.string (bs p.topic),.string (bs p.payload),.int .i64 p.id,.slice f1 f2 f3,.slice c1 c2 c3] 36)
 go_enter Tryz.func164,Tryz.ntmps164
 go_wp2_with fail
 generalize w.alloc (.cells #[.int .i64 p.kind,.bool p.clean,.bool p.will,.int .i64 p.keep,.string (bs p.client),.bool p.present,.int .i64 p.code,.bool p.dup,.int .i64 p.qos,.bool p.retain,.string (bs p.topic),.string (bs p.payload),.int .i64 p.id,.slice f1 f2 f3,.slice c1 c2 c3] 36)=W0 at *
 have d12:W0.cell? ⟨w.heap.size,12,none⟩=some (.int .i64 p.id):=blk_cell hn0 rfl
 have hl0:=blk_lt hn0
 have cH:=hide (HK.out _ hB0.drew)
 clear hn0 hB0 cy hc
 go_region_with (
  refine cH.out.mono ?_
  rintro e w1 ⟨rfl,hR⟩
  have HR:=hide hR
  clear hR)
 all_goals
  go_wp2
  go_end0
  exact HR.out
set_option maxHeartbeats 800000 in
set_option maxRecDepth 100000 in
theorem h_rel (B cb x y:Nat) (p:Pkt) (w:World) (R:Ending→World→Prop) (hb:Boxes w B cb x y) (hfv:∃ a b c,p.fv=.slice a b c) (hcv:∃ a b c,p.cv=.slice a b c)
 (hK:∀ w',Below w.heap.size w w'→Calls Tryz.prog 163 #[.pointer (some ⟨B,0,none⟩),.pointer (some ⟨cb,0,none⟩),.agg (pkK p)] w' fun e w''=>e=.returned (.tuple #[])∧R e w'') :
 Calls Tryz.prog 162 #[.agg (pkK p),.pointer (some ⟨x,0,none⟩),.pointer (some ⟨y,0,none⟩)] w R:=by
 have cx:w.cell? ⟨x,0,none⟩=some (.pointer (some ⟨B,0,none⟩)):=blk_cell hb.bx rfl
 have cy:w.cell? ⟨y,0,none⟩=some (.pointer (some ⟨cb,0,none⟩)):=blk_cell hb.by_ rfl
 have hlx:=blk_lt hb.bx
 have hly:=blk_lt hb.by_
 obtain ⟨f1,f2,f3,hfv⟩:=hfv
 obtain ⟨c1,c2,c3,hcv⟩:=hcv
 have HK:=hide hK
 clear hK hb
 simp only [pkK,hfv,hcv] at HK ⊢
 have HB:=hide fun o=>(Below.refl w.heap.size w).alloc (Nat.le_refl _) o
 clear hfv hcv
 go_enter Tryz.func162,Tryz.ntmps162
 go_wp2_with fail
 refine (HK.out _ (HB.out _)).mono ?_
 rintro e w1 ⟨rfl,hR⟩
 have HR:=hide hR
 clear hR
 go_wp2
 go_end0
 exact HR.out
end br
namespace br
open Go.RowKit topPlain topWalks decPlain rd ew encPlain rf
theorem Eff.own {B kx ky:Nat} {px py:Pkt} {BV:BrV} {X Y:SideV} {SX SX' SY:Ses} {os:List OutS} {w1 w1' w2:World} {uv':Value} (hX:Side w1' B kx X px SX) (hY:Side w1' B ky Y py SY) (hB:BlkAt w1' B BV (.slice none 0 0) []) (hdis:∀ g,X.has g→¬ Y.has g) (hb1:Below w1.heap.size w1 w1') (hw:Wrote (X.sv.has X.cv.sp) w1' B BV (.slice none 0 0) [] os w2) (hs:SesAt w2 X.cv.sp { X.sv with uv:=uv' } SX') (hu:uv'.ownBlock=X.sv.uv.ownBlock∨∃ b,uv'.ownBlock=some b∧w1'.heap.size≤b):EffE B BV X Y SX' SY os w1 w2:=by
 obtain ⟨ov',M,k1,k2,k3,k4,k5⟩:=hw
 have k3':But (fun g=>X.sv.has X.cv.sp g∨Y.sv.has Y.cv.sp g∨g=B) w1' w2:=k3.wide (fun g _ e=>e.elim Or.inl (fun e=>e.elim (fun e=>Or.inr (Or.inr e)) (fun e=>by cases e)))
 have hxh:∀ g,SesV.has { X.sv with uv:=uv' } X.cv.sp g→X.sv.has X.cv.sp g∨w1'.heap.size≤g:=fun g hg=>by
  rcases hg with hg | hg | hg | hg | hg
  · exact Or.inl (Or.inl hg)
  · exact Or.inl (Or.inr (Or.inl hg))
  · exact Or.inl (Or.inr (Or.inr (Or.inl hg)))
  · exact Or.inl (Or.inr (Or.inr (Or.inr (Or.inl hg))))
  · rcases hu with e | ⟨b,e1,e2⟩
    · exact Or.inl (Or.inr (Or.inr (Or.inr (Or.inr (e ▸ hg)))))
    · have hg2:uv'.ownBlock=some g:=hg
      rw [e1] at hg2
      cases hg2
      exact Or.inr e2
 refine ⟨⟨{ X.sv with uv:=uv' },Y.sv,ov',M⟩,(But.of_below hb1).trans k3' (fun _ _ f=>f),hs,hY.ses.but k3 (fun b hb e=>?_),rfl,rfl,rfl,rfl,fun g hg=>(hxh g hg).imp id (fun e=>Nat.le_trans hb1.size e),fun g hg=>Or.inl hg,fun g hg hy=>(hxh g hg).elim (fun e=>hdis g (Or.inr (Or.inl e)) (Or.inr (Or.inl hy))) (fun e=>by have:=hY.ses.lt hy;omega),k1,k2⟩
 · rcases e with e | e | e
   · exact hdis b (Or.inr (Or.inl e)) (Or.inr (Or.inl hb))
   · subst e;exact hY.notB hB.blk (Or.inr (Or.inl hb))
   · cases e
end br
end Go.Proofs.YtnmfmoimjkoieaaGreatDoor
