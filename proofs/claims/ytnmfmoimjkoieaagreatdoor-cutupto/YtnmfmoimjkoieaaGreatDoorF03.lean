import Derived.Test.YtnmfmoimjkoieaaGreatDoorF02
namespace Go.Proofs.YtnmfmoimjkoieaaGreatDoor
namespace br
open Go.RowKit topPlain topWalks
structure Boxes (w:World) (B cb x y:Nat):Prop where
 bx:w.heap[x]?=some (.cells #[.pointer (some ⟨B,0,none⟩)] 55)
 by_:w.heap[y]?=some (.cells #[.pointer (some ⟨cb,0,none⟩)] 124)
theorem Boxes.keep {w w':World} {B cb x y:Nat} (h:Boxes w B cb x y) (hx:w'.heap[x]?=w.heap[x]?) (hy:w'.heap[y]?=w.heap[y]?):Boxes w' B cb x y:=⟨hx.trans h.bx,hy.trans h.by_⟩
theorem Boxes.below {w w':World} {B cb x y:Nat} (h:Boxes w B cb x y) (hb:Below w.heap.size w w'):Boxes w' B cb x y:=h.keep (hb.block _ (blk_lt h.bx)) (hb.block _ (blk_lt h.by_))
def befA (x y x' y':Nat):Array Value:=#[fnV 126 x y,fnV 89 x' y',fnV 126 x y,fnV 126 x y,fnV 126 x y,fnV 126 x y,fnV 126 x y,fnV 126 x y,fnV 126 x y,fnV 126 x y,fnV 126 x y,fnV 126 x y,fnV 126 x y,fnV 126 x y,fnV 126 x y]
def onceA (x y x' y':Nat):Array Value:=#[fnV 126 x y,fnV 126 x y,fnV 126 x y,fnV 156 x' y',fnV1 158 y',fnV1 160 y',fnV 162 x' y',fnV1 164 y',fnV 166 x' y',fnV 126 x y,fnV 168 x' y',fnV 126 x y,fnV 170 x' y',fnV 126 x y,fnV 171 x' y']
theorem befA_all (x y x' y':Nat):(befA x y x' y').all (·.oneCell')=true:=by simp [befA,fnV,Value.oneCell']
theorem onceA_all (x y x' y':Nat):(onceA x y x' y').all (·.oneCell')=true:=by simp [onceA,fnV,fnV1,Value.oneCell']
theorem three_new (w:World) (B cb:Nat) (W3:World) (h:W3=((w.alloc (.cells #[.pointer (some ⟨B,0,none⟩)] 55)).alloc (.cells #[.pointer (some ⟨cb,0,none⟩)] 124)).alloc (.cells #[.nilFunc,.nilFunc,.nilFunc,.nilFunc,.nilFunc,.nilFunc,.nilFunc,.nilFunc,.nilFunc,.nilFunc,.nilFunc,.nilFunc,.nilFunc,.nilFunc,.nilFunc] 134)) :
 W3.heap[w.heap.size]?=some (.cells #[.pointer (some ⟨B,0,none⟩)] 55)∧W3.heap[w.heap.size+1]?=some (.cells #[.pointer (some ⟨cb,0,none⟩)] 124)∧W3.heap[w.heap.size+1+1]?=some (.cells #[.nilFunc,.nilFunc,.nilFunc,.nilFunc,.nilFunc,.nilFunc,.nilFunc,.nilFunc,.nilFunc,.nilFunc,.nilFunc,.nilFunc,.nilFunc,.nilFunc,.nilFunc] 134)∧Below w.heap.size w W3∧w.heap.size+1+1 < W3.heap.size:=by
 subst h
 refine ⟨?_,?_,?_,(((Below.refl w.heap.size w).alloc (Nat.le_refl _) _).alloc (by simp) _).alloc (by simp;omega) _,by simp⟩
 · rw [Below.heap_alloc _ _ _ (by simp;omega),Below.heap_alloc _ _ _ (by simp)];exact heap_alloc_new _ _
 · rw [Below.heap_alloc _ _ _ (by simp)]
   have:=heap_alloc_new (w.alloc (.cells #[.pointer (some ⟨B,0,none⟩)] 55)) (.cells #[.pointer (some ⟨cb,0,none⟩)] 124)
   simpa using this
 · have:=heap_alloc_new ((w.alloc (.cells #[.pointer (some ⟨B,0,none⟩)] 55)).alloc (.cells #[.pointer (some ⟨cb,0,none⟩)] 124)) (.cells #[.nilFunc,.nilFunc,.nilFunc,.nilFunc,.nilFunc,.nilFunc,.nilFunc,.nilFunc,.nilFunc,.nilFunc,.nilFunc,.nilFunc,.nilFunc,.nilFunc,.nilFunc] 134)
   simpa using this
set_option maxHeartbeats 800000 in
set_option maxRecDepth 100000 in
theorem before_any (B cb:Nat) (w:World):Calls Tryz.prog 57 #[.pointer (some ⟨B,0,none⟩),.pointer (some ⟨cb,0,none⟩)] w fun e w'=>∃ x y x' y',e=.returned (.agg (befA x y x' y'))∧Below w.heap.size w w'∧Boxes w' B cb x y∧Boxes w' B cb x' y'∧w.heap.size≤x∧w.heap.size≤y∧w.heap.size≤x'∧w.heap.size≤y':=by
 have cN:=hide fun w=>nothing_any B cb w
 go_enter Tryz.func57,Tryz.ntmps57
 go_wp2_with fail
 refine (cN.out _).mono ?_
 rintro e w1 ⟨rfl,hB1,hx,hy⟩
 have hin:=infoHand
 obtain ⟨W3,hW3⟩:∃ W3,W3=((w.alloc (.cells #[.pointer (some ⟨B,0,none⟩)] 55)).alloc (.cells #[.pointer (some ⟨cb,0,none⟩)] 124)).alloc (.cells #[.nilFunc,.nilFunc,.nilFunc,.nilFunc,.nilFunc,.nilFunc,.nilFunc,.nilFunc,.nilFunc,.nilFunc,.nilFunc,.nilFunc,.nilFunc,.nilFunc,.nilFunc] 134):=⟨_,rfl⟩
 obtain ⟨g1,g2,g3,g4,g5⟩:=three_new w B cb W3 hW3
 rw [← hW3] at hB1 hx hy ⊢
 clear hW3
 have HB:=hide (g4.trans (hB1.mono (by omega)))
 have HX0:=hide (show Boxes w1 B cb w.heap.size (w.heap.size+1) from ⟨(hB1.block _ (by omega)).trans g1,(hB1.block _ (by omega)).trans g2⟩)
 have HR:=hide ((hB1.block _ (by omega)).trans g3)
 have hs1:W3.heap.size+1 < w1.heap.size:=blk_lt hy
 have HX1:=hide (show Boxes w1 B cb W3.heap.size (W3.heap.size+1) from ⟨hx,hy⟩)
 rw [show firstK (fnV 126 W3.heap.size (W3.heap.size+1)) 15=#[fnV 126 W3.heap.size (W3.heap.size+1),fnV 126 W3.heap.size (W3.heap.size+1),fnV 126 W3.heap.size (W3.heap.size+1),fnV 126 W3.heap.size (W3.heap.size+1),fnV 126 W3.heap.size (W3.heap.size+1),fnV 126 W3.heap.size (W3.heap.size+1),fnV 126 W3.heap.size (W3.heap.size+1),fnV 126 W3.heap.size (W3.heap.size+1),fnV 126 W3.heap.size (W3.heap.size+1),fnV 126 W3.heap.size (W3.heap.size+1),fnV 126 W3.heap.size (W3.heap.size+1),fnV 126 W3.heap.size (W3.heap.size+1),fnV 126 W3.heap.size (W3.heap.size+1),fnV 126 W3.heap.size (W3.heap.size+1),fnV 126 W3.heap.size (W3.heap.size+1)] from rfl]
 simp only [fnV]
 clear hx hy hB1 g1 g2 g3 g4 cN
 generalize W3.heap.size=M at *
 have hs2:w.heap.size+1+1 < w1.heap.size:=by omega
 have HR2:=hide fun o=>(Below.heap_alloc w1 o _ hs2).trans HR.out
 have HW2:=hide fun o cs=>(show Boxes ((w1.alloc o).setRow (w.heap.size+1+1) cs) B cb w.heap.size (w.heap.size+1)∧Boxes ((w1.alloc o).setRow (w.heap.size+1+1) cs) B cb M (M+1)∧Below w.heap.size w ((w1.alloc o).setRow (w.heap.size+1+1) cs) from by
  have hb1:=(Below.refl w1.heap.size w1).alloc (Nat.le_refl _) o
  have k:∀ b,b≠w.heap.size+1+1→((w1.alloc o).setRow (w.heap.size+1+1) cs).heap[b]?=(w1.alloc o).heap[b]?:=fun b hb=>setRow_ne _ _ hb
  exact ⟨(HX0.out.below hb1).keep (k _ (by omega)) (k _ (by omega)),(HX1.out.below hb1).keep (k _ (by omega)) (k _ (by omega)),(HB.out.trans (hb1.mono HB.out.size)).trans ⟨rfl,rfl,rfl,by simp [World.setRow],fun b hb=>k b (by omega)⟩⟩)
 go_wp2_with (first | (refine wpList_store_row rfl 134 (.tmp 4) (.tmp 11) rfl (w.heap.size+1+1) (befA M (M+1) w.heap.size (w.heap.size+1)) rfl rfl 134 _ (HR2.out _) hin rfl (befA_all _ _ _ _) ?_) | fail)
 refine bodyPost_ret (v:=.agg (befA M (M+1) w.heap.size (w.heap.size+1))) (results_hand rfl _ _ (w.heap.size+1+1) rfl (setRow_same _ (HR2.out _))) rfl ?_
 obtain ⟨b1,b2,b3⟩:=HW2.out (.cells (befA M (M+1) w.heap.size (w.heap.size+1)) 134) (befA M (M+1) w.heap.size (w.heap.size+1))
 exact ⟨M,M+1,w.heap.size,w.heap.size+1,rfl,b3,b2,b1,by omega,by omega,by omega,by omega⟩
set_option maxHeartbeats 1600000 in
set_option maxRecDepth 100000 in
theorem once_any (B cb:Nat) (w:World):Calls Tryz.prog 130 #[.pointer (some ⟨B,0,none⟩),.pointer (some ⟨cb,0,none⟩)] w fun e w'=>∃ x y x' y',e=.returned (.agg (onceA x y x' y'))∧Below w.heap.size w w'∧Boxes w' B cb x y∧Boxes w' B cb x' y'∧w.heap.size≤x∧w.heap.size≤y∧w.heap.size≤x'∧w.heap.size≤y':=by
 have cN:=hide fun w=>nothing_any B cb w
 go_enter Tryz.func130,Tryz.ntmps130
 go_wp2_with fail
 refine (cN.out _).mono ?_
 rintro e w1 ⟨rfl,hB1,hx,hy⟩
 have hin:=infoHand
 obtain ⟨W3,hW3⟩:∃ W3,W3=((w.alloc (.cells #[.pointer (some ⟨B,0,none⟩)] 55)).alloc (.cells #[.pointer (some ⟨cb,0,none⟩)] 124)).alloc (.cells #[.nilFunc,.nilFunc,.nilFunc,.nilFunc,.nilFunc,.nilFunc,.nilFunc,.nilFunc,.nilFunc,.nilFunc,.nilFunc,.nilFunc,.nilFunc,.nilFunc,.nilFunc] 134):=⟨_,rfl⟩
 obtain ⟨g1,g2,g3,g4,g5⟩:=three_new w B cb W3 hW3
 rw [← hW3] at hB1 hx hy ⊢
 clear hW3
 have HB:=hide (g4.trans (hB1.mono (by omega)))
 have HX0:=hide (show Boxes w1 B cb w.heap.size (w.heap.size+1) from ⟨(hB1.block _ (by omega)).trans g1,(hB1.block _ (by omega)).trans g2⟩)
 have HR:=hide ((hB1.block _ (by omega)).trans g3)
 have hs1:W3.heap.size+1 < w1.heap.size:=blk_lt hy
 have HX1:=hide (show Boxes w1 B cb W3.heap.size (W3.heap.size+1) from ⟨hx,hy⟩)
 rw [show firstK (fnV 126 W3.heap.size (W3.heap.size+1)) 15=#[fnV 126 W3.heap.size (W3.heap.size+1),fnV 126 W3.heap.size (W3.heap.size+1),fnV 126 W3.heap.size (W3.heap.size+1),fnV 126 W3.heap.size (W3.heap.size+1),fnV 126 W3.heap.size (W3.heap.size+1),fnV 126 W3.heap.size (W3.heap.size+1),fnV 126 W3.heap.size (W3.heap.size+1),fnV 126 W3.heap.size (W3.heap.size+1),fnV 126 W3.heap.size (W3.heap.size+1),fnV 126 W3.heap.size (W3.heap.size+1),fnV 126 W3.heap.size (W3.heap.size+1),fnV 126 W3.heap.size (W3.heap.size+1),fnV 126 W3.heap.size (W3.heap.size+1),fnV 126 W3.heap.size (W3.heap.size+1),fnV 126 W3.heap.size (W3.heap.size+1)] from rfl]
 simp only [fnV]
 clear hx hy hB1 g1 g2 g3 g4 cN
 generalize W3.heap.size=M at *
 have hs2:w.heap.size+1+1 < w1.heap.size:=by omega
 have HR2:=hide fun o=>(Below.heap_alloc w1 o _ hs2).trans HR.out
 have HW2:=hide fun o cs=>(show Boxes ((w1.alloc o).setRow (w.heap.size+1+1) cs) B cb w.heap.size (w.heap.size+1)∧Boxes ((w1.alloc o).setRow (w.heap.size+1+1) cs) B cb M (M+1)∧Below w.heap.size w ((w1.alloc o).setRow (w.heap.size+1+1) cs) from by
  have hb1:=(Below.refl w1.heap.size w1).alloc (Nat.le_refl _) o
  have k:∀ b,b≠w.heap.size+1+1→((w1.alloc o).setRow (w.heap.size+1+1) cs).heap[b]?=(w1.alloc o).heap[b]?:=fun b hb=>setRow_ne _ _ hb
  exact ⟨(HX0.out.below hb1).keep (k _ (by omega)) (k _ (by omega)),(HX1.out.below hb1).keep (k _ (by omega)) (k _ (by omega)),(HB.out.trans (hb1.mono HB.out.size)).trans ⟨rfl,rfl,rfl,by simp [World.setRow],fun b hb=>k b (by omega)⟩⟩)
 go_wp2_with (first | (refine wpList_store_row rfl 134 (.tmp 4) (.tmp 27) rfl (w.heap.size+1+1) (onceA M (M+1) w.heap.size (w.heap.size+1)) rfl rfl 134 _ (HR2.out _) hin rfl (onceA_all _ _ _ _) ?_) | fail)
 refine bodyPost_ret (v:=.agg (onceA M (M+1) w.heap.size (w.heap.size+1))) (results_hand rfl _ _ (w.heap.size+1+1) rfl (setRow_same _ (HR2.out _))) rfl ?_
 obtain ⟨b1,b2,b3⟩:=HW2.out (.cells (onceA M (M+1) w.heap.size (w.heap.size+1)) 134) (onceA M (M+1) w.heap.size (w.heap.size+1))
 exact ⟨M,M+1,w.heap.size,w.heap.size+1,rfl,b3,b2,b1,by omega,by omega,by omega,by omega⟩
end br
end Go.Proofs.YtnmfmoimjkoieaaGreatDoor
