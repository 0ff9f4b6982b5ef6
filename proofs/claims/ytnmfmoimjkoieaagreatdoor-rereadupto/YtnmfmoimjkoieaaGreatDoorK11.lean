import Derived.Test.YtnmfmoimjkoieaaGreatDoorK10
import Derived.Test.YtnmfmoimjkoieaaGreatDoorK05
import Derived.Deep.RegionLawGrows
import Derived.Deep.RegionHeld3
/- The handler of the first packet: a connect. -/
namespace Go.Proofs.YtnmfmoimjkoieaaGreatDoor.br
open Go.RowKit Go.Proofs.YtnmfmoimjkoieaaGreatDoor.topPlain Go.Proofs.YtnmfmoimjkoieaaGreatDoor.topWalks Go.Proofs.YtnmfmoimjkoieaaGreatDoor.decPlain Go.Maps

set_option maxHeartbeats 800000 in
set_option maxRecDepth 100000 in
/-- a handler that calls a method with the broker, the connection and the packet -/
theorem h_conn (B cb x y : Nat) (p : Pkt) (w : World) (R : Ending → World → Prop) (hb : Boxes w B cb x y) (hfv : ∃ a b c, p.fv = .slice a b c) (hcv : ∃ a b c, p.cv = .slice a b c)
    (hK : ∀ w', Below w.heap.size w w' → Calls Tryz.prog 90 #[.pointer (some ⟨B, 0, none⟩), .pointer (some ⟨cb, 0, none⟩), .agg (pkK p)] w' fun e w'' => e = .returned (.tuple #[]) ∧ R e w'') :
    Calls Tryz.prog 89 #[.agg (pkK p), .pointer (some ⟨x, 0, none⟩), .pointer (some ⟨y, 0, none⟩)] w R := by
  have cx : w.cell? ⟨x, 0, none⟩ = some (.pointer (some ⟨B, 0, none⟩)) := blk_cell hb.bx rfl
  have cy : w.cell? ⟨y, 0, none⟩ = some (.pointer (some ⟨cb, 0, none⟩)) := blk_cell hb.by_ rfl
  have hlx := blk_lt hb.bx
  have hly := blk_lt hb.by_
  obtain ⟨f1, f2, f3, hfv⟩ := hfv
  obtain ⟨c1, c2, c3, hcv⟩ := hcv
  have HK := hide hK
  clear hK hb
  simp only [pkK, hfv, hcv] at HK ⊢
  have HB := hide fun o => (Below.refl w.heap.size w).alloc (Nat.le_refl _) o
  clear hfv hcv
  go_enter Tryz.func89, Tryz.ntmps89
  go_wp2_with fail
  refine (HK.out _ (HB.out _)).mono ?_
  rintro e w1 ⟨rfl, hR⟩
  have HR := hide hR
  clear hR
  go_wp2
  go_end0
  exact HR.out
end Go.Proofs.YtnmfmoimjkoieaaGreatDoor.br

/- shut, cutOff, Close of a connection whose session stays and that has no will. -/
namespace Go.Proofs.YtnmfmoimjkoieaaGreatDoor.br
open Go.RowKit Go.Proofs.YtnmfmoimjkoieaaGreatDoor.topPlain Go.Proofs.YtnmfmoimjkoieaaGreatDoor.topWalks Go.Proofs.YtnmfmoimjkoieaaGreatDoor.decPlain Go.Maps

theorem con_apart {w : World} {B : Nat} {n : Int} {CV : ConV} {C : Con} {BV : BrV} {ov : Value} {L : List (OutS × Value)} (h : ConAt w B n CV C) (k : BlkAt w B BV ov L) {b : Nat} (hb : CV.has b) : ¬ OutHas B ov b := by
  have key : ∀ c t, w.heap[b]? = some (.cells c t) → t ≠ 131 → t ≠ 66 → ¬ OutHas B ov b := fun c t ho h1 h2 hh => by
    rcases hh with rfl | hh
    · rw [k.blk] at ho; simp at ho; exact h1 ho.2.symm
    · obtain ⟨cur, hc⟩ := own_blk k.out.row hh; rw [hc] at ho; simp at ho; exact h2 ho.2.symm
  rcases hb with rfl | hb | rfl | rfl | rfl | rfl
  · exact key _ _ h.blk (by decide) (by decide)
  · obtain ⟨cur, hc⟩ := own_blk h.wai hb; exact key _ _ hc (by decide) (by decide)
  · exact key _ _ h.b1.bx (by decide) (by decide)
  · exact key _ _ h.b1.by_ (by decide) (by decide)
  · exact key _ _ h.b2.bx (by decide) (by decide)
  · exact key _ _ h.b2.by_ (by decide) (by decide)
set_option maxHeartbeats 1600000 in
set_option maxRecDepth 100000 in
theorem shut_stays (B k : Nat) (p : Pkt) (V : SesV) (S : Ses) (BV : BrV) (ov : Value) (L : List (OutS × Value)) (CV : ConV) (C : Con) (w : World) (h : BlkAt w B BV ov L) (hc : ConAt w B (k : Int) CV C) (hC : C.hello = some p) (hcl : p.clean = false) (hs : SesAt w CV.sp V S) (hk : k < 8) (hL : L.length < 1000000000000) (hv : ∃ q, BV.cv k = .pointer q) :
    Calls Tryz.prog 109 #[.pointer (some ⟨B, 0, none⟩), .pointer (some ⟨CV.cb, 0, none⟩)] w fun e w' => e = .returned (.tuple #[]) ∧ ∃ ov', BlkAt w' B (BV.setCon k (.pointer none)) ov' (L ++ [(⟨(k : Int), [], true⟩, .slice none 0 0)]) ∧ SesAt w' CV.sp { V with snd := none } S ∧ ConAt w' B (k : Int) CV C ∧ But (fun g => g = CV.sp ∨ OutHas B ov g) w w' ∧ (ov'.ownBlock = ov.ownBlock ∨ ∃ b, ov'.ownBlock = some b ∧ w.heap.size ≤ b) := by
  obtain ⟨q0, hq0⟩ := hv
  have a0 := blk_cell hc.blk (conC_at (k : Int) CV C).1
  have cB := con_cell h.blk hk
  rw [hq0] at cB
  have fB : w.frozen? ⟨B, 2 + k, none⟩ = false := blk_frozen h.blk
  have h8 : (k : Int) < 8 := by omega
  have hlB := blk_lt h.blk
  have hlc := blk_lt hc.blk
  clear hq0
  go_enter Tryz.func109, Tryz.ntmps109
  go_wp2_with fail
  have hcB : CV.cb ≠ B := fun e => by have := h.blk; rw [← e, hc.blk] at this; simp at this
  have hBc : B ≠ CV.cb := fun e => hcB e.symm
  have hkc : ∀ (W : World) (i j : Nat) (v : Value), (W.setCell ⟨B, i, none⟩ v).cell? ⟨CV.cb, j, none⟩ = W.cell? ⟨CV.cb, j, none⟩ := fun W i j v => World.cell?_of_block (Below.heap_setCell _ _ _ _ (fun e => hcB e))
  have H := hide h
  have HC := hide hc
  have HS := hide hs
  clear h hc hs
  go_region_held3 (fun w' => w'.cell? ⟨CV.cb, 0, none⟩ = some (.int .i64 (k : Int))) (go_keep) (fail)
  go_wp2_with fail
  have hk1 : ∀ g, g ≠ B → (w.setCell ⟨B, 2 + k, none⟩ (.pointer none)).drew.heap[g]? = w.heap[g]? := fun g hg => Below.heap_setCell _ _ _ _ (fun e => hg e)
  have h1 : BlkAt (w.setCell ⟨B, 2 + k, none⟩ (.pointer none)).drew B (BV.setCon k (.pointer none)) ov L := by
    have := H.out.setCon k hk (.pointer none)
    exact ⟨this.blk, this.out.keep (fun _ _ => rfl) (fun _ _ _ _ => rfl)⟩
  have hneB : ∀ g c t, w.heap[g]? = some (.cells c t) → t ≠ 131 → g ≠ B := fun g c t hg ht e => by subst e; rw [H.out.blk] at hg; simp at hg; exact ht hg.2.symm
  have hcn1 : ConAt (w.setCell ⟨B, 2 + k, none⟩ (.pointer none)).drew B (k : Int) CV C := HC.out.keep (fun g hg => hk1 g (by
    rcases hg with rfl | hg | rfl | rfl | rfl | rfl
    · exact hcB
    · obtain ⟨cur, hc⟩ := own_blk HC.out.wai hg; exact hneB _ _ _ hc (by decide)
    · exact hneB _ _ _ HC.out.b1.bx (by decide)
    · exact hneB _ _ _ HC.out.b1.by_ (by decide)
    · exact hneB _ _ _ HC.out.b2.bx (by decide)
    · exact hneB _ _ _ HC.out.b2.by_ (by decide)))
  have hs1 : SesAt (w.setCell ⟨B, 2 + k, none⟩ (.pointer none)).drew CV.sp V S := HS.out.keep (fun g hg => hk1 g (fun e => HS.out.apart H.out hg (Or.inl e)))
  have hb1 : But (OutHas B ov) w (w.setCell ⟨B, 2 + k, none⟩ (.pointer none)).drew := (But.set w ⟨B, 2 + k, none⟩ _ (Or.inl rfl)).drew
  have hz1 : (w.setCell ⟨B, 2 + k, none⟩ (.pointer none)).drew.heap.size = w.heap.size := by simp [World.setCell, World.drew]
  clear hkc hk1 hneB a0 cB fB
  generalize (w.setCell ⟨B, 2 + k, none⟩ (.pointer none)).drew = w1 at *
  have H1 := hide h1
  have HC1 := hide hcn1
  have HS1 := hide hs1
  have HF1 := hide hb1
  have HZ1 := hide hz1
  obtain ⟨q, cap, hq⟩ := own_form h1.out.row
  have hn1 := blk_cell hcn1.blk (conC_at (k : Int) CV C).1
  have b13 : w1.cell? ⟨B, 13, none⟩ = some (.slice q L.length cap) := by rw [← hq]; exact blk_cell h1.blk rfl
  have f13 : w1.frozen? ⟨B, 13, none⟩ = false := blk_frozen h1.blk
  have hltB1 : B < w1.heap.size := blk_lt h1.blk
  obtain ⟨i0, hi0, hz0, hzz1, hz2⟩ := info_parts infoOut
  have HQ := hide hq
  clear h1 hcn1 hs1 hb1 hz1 hq hlB hlc
  have HNW := hide (news_new w1 #[.int .i64 (k : Int), .slice none 0 0, .bool true] 66)
  have hA := fun o => alloc_cell b13 o
  have hA2 := fun o => alloc_cell hn1 o
  have HROW := hide (show w1.ownsRow 0 66 3 (.slice q L.length cap) L.length (outC L) by rw [← HQ.out]; exact H1.out.out.row)
  have HQB := hide (congrArg Value.ownBlock HQ.out)
  go_region_law (
    refine step_append_at rfl (.tmp 16) (.tmp 22) 62 rfl 0 66 i0 (.agg #[.int .i64 0, .slice none 0 0, .bool false]) 3 40 Tryz.underlying62 hi0 hz0 hzz1 hz2 rfl (by decide) (.slice q L.length cap) L.length (outC L) ?s1 ?s2 ⟨w1.heap.size, 0, none⟩ 1 1 [.int .i64 (k : Int), .slice none 0 0, .bool true] ?s3 rfl ?s4 ?s5 ?s6 ?s7 ?s8 ?_
    case s1 => simp [Act.eval]
    case s3 => simp [Act.eval]
    case s2 => exact HROW.out.alloc _
    case s4 => exact HNW.out
    case s5 => intro u hu; simp at hu; rcases hu with rfl | rfl | rfl <;> rfl
    case s6 => unfold maxLen; omega
    case s7 => omega
    case s8 => exact Nat.zero_le _
    intro v' w8 hown' hgrow hloc
    obtain ⟨q', cap', rfl⟩ := own_form hown'
    have hg8 : (w1.alloc (.cells #[.int .i64 (k : Int), .slice none 0 0, .bool true] 66)).grownBy w8 (Value.slice q L.length cap).ownBlock := ⟨hgrow.os, hgrow.tape, hgrow.output, hgrow.size, hgrow.block⟩
    have HG := hide hg8
    have hne : (Value.slice q L.length cap).ownBlock ≠ some B := by rw [← HQ.out]; exact H1.out.ne
    have hbk : w8.heap[B]? = w1.heap[B]? := (hg8.block B (by simp; omega) (fun e => hne e.symm)).trans (Below.heap_alloc _ _ _ hltB1)
    have c8 : w8.cell? ⟨B, 13, none⟩ = some (.slice q L.length cap) := by rw [World.cell?_of_block (w := w1) hbk]; exact b13
    have f8 : w8.frozen? ⟨B, 13, none⟩ = false := by rw [World.frozen?_of_block (w := w1) hbk]; exact f13
    have HOW := hide hown'
    have HLOC := hide hloc
    clear b13 f13 hn1 hA hA2 HNW hgrow hg8 hown' hloc hne hbk)
  all_goals
    have hg : w1.grownBy w8 ov.ownBlock := ⟨HG.out.os, HG.out.tape, HG.out.output, Nat.le_trans (by simp) HG.out.size, fun g hk hne => (HG.out.block g (by simp; omega) (by rw [← HQB.out]; exact hne)).trans (Below.heap_alloc _ _ _ hk)⟩
    have h2 := H1.out.add (o := (⟨(k : Int), [], true⟩, .slice none 0 0)) hg HOW.out ⟨rfl, Or.inl ⟨rfl, rfl⟩⟩
    have hb2 : But (OutHas B ov) w1 (w8.setCell ⟨B, 13, none⟩ (.slice q' (L.length + 1) cap')) := (But.of_grown (F := OutHas B ov) hg (fun b hb => Or.inr hb)).trans (But.set _ ⟨B, 13, none⟩ _ (Or.inl rfl)) (fun _ _ h => h)
    have hs2 := HS1.out.but hb2 (fun g hg => HS1.out.apart H1.out hg)
    have hc2 := HC1.out.but hb2 (fun g hg => con_apart HC1.out H1.out hg)
    have hloc2 : (Value.slice q' (L.length + 1) cap').ownBlock = ov.ownBlock ∨ ∃ b, (Value.slice q' (L.length + 1) cap').ownBlock = some b ∧ w.heap.size ≤ b := HLOC.out.imp (fun h => h.trans HQB.out.symm) (fun h => ⟨_, h, by have := HZ1.out; simp [World.drew]; omega⟩)
    generalize w8.setCell ⟨B, 13, none⟩ (.slice q' (L.length + 1) cap') = W2 at *
    have a18 := blk_cell hc2.blk (conC_at (k : Int) CV C).2.2.2.1
    have a20 := blk_cell hc2.blk (conC_at (k : Int) CV C).2.2.2.2.1
    rw [show conS CV C = .pointer (some ⟨CV.sp, 0, none⟩) by unfold conS; rw [hC]] at a18
    rw [hC, Option.getD_some, hcl] at a20
    have H2 := hide h2
    have HB2 := hide hb2
    have HS2 := hide hs2
    have HC2 := hide hc2
    have HL2 := hide hloc2
    have hspc : CV.cb ≠ CV.sp := fun e => by have := hc2.blk; rw [e, hs2.blk] at this; simp at this
    clear h2 hb2 hs2 hc2 hloc2 hg c8 f8
    go_wp2_with fail
    refine (disconnect_any CV.sp V S W2 HS2.out).mono ?_
    rintro e w3 ⟨rfl, hs3, hb3⟩
    have a20' : w3.cell? ⟨CV.cb, 20, none⟩ = some (.bool false) := hb3.cell (fun e => hspc e) a20
    have h3 : BlkAt w3 B (BV.setCon k (.pointer none)) (.slice q' (L.length + 1) cap') (L ++ [(⟨(k : Int), [], true⟩, .slice none 0 0)]) := H2.out.but hb3 (fun g e => by subst e; exact HS2.out.clear H2.out _ (Or.inl rfl))
    have hc3 : ConAt w3 B (k : Int) CV C := HC2.out.but hb3 (fun g hg e => by
      subst e
      have hno : ∀ c t, W2.heap[CV.sp]? = some (.cells c t) → t = 188 := fun c t ho => by rw [HS2.out.blk] at ho; simp at ho; exact ho.2.symm
      rcases hg with e | hg | e | e | e | e
      · exact hspc e.symm
      · obtain ⟨cur, hc⟩ := own_blk HC2.out.wai hg; exact absurd (hno _ _ hc) (by decide)
      · have := HC2.out.b1.bx; rw [← e] at this; exact absurd (hno _ _ this) (by decide)
      · have := HC2.out.b1.by_; rw [← e] at this; exact absurd (hno _ _ this) (by decide)
      · have := HC2.out.b2.bx; rw [← e] at this; exact absurd (hno _ _ this) (by decide)
      · have := HC2.out.b2.by_; rw [← e] at this; exact absurd (hno _ _ this) (by decide))
    have hbf : But (fun g => g = CV.sp ∨ OutHas B ov g) w w3 := ((HF1.out.trans HB2.out (fun _ _ h => h)).wide (fun _ _ h => Or.inr h)).trans hb3 (fun _ _ e => Or.inl e)
    have HR : Hid (∃ ov', BlkAt w3 B (BV.setCon k (.pointer none)) ov' (L ++ [(⟨(k : Int), [], true⟩, .slice none 0 0)]) ∧ SesAt w3 CV.sp { V with snd := none } S ∧ ConAt w3 B (k : Int) CV C ∧ But (fun g => g = CV.sp ∨ OutHas B ov g) w w3 ∧ (ov'.ownBlock = ov.ownBlock ∨ ∃ b, ov'.ownBlock = some b ∧ w.heap.size ≤ b)) := ⟨_, h3, hs3, hc3, hbf, HL2.out⟩
    clear hs3 hb3 h3 hc3 hbf a20 a18
    go_wp2
    go_end0
    exact ⟨rfl, HR.out⟩
end Go.Proofs.YtnmfmoimjkoieaaGreatDoor.br

/- cutOff without a will; Close. -/
namespace Go.Proofs.YtnmfmoimjkoieaaGreatDoor.br
open Go.RowKit Go.Proofs.YtnmfmoimjkoieaaGreatDoor.topPlain Go.Proofs.YtnmfmoimjkoieaaGreatDoor.topWalks Go.Proofs.YtnmfmoimjkoieaaGreatDoor.decPlain Go.Maps

def ShutPost (w : World) (B k : Nat) (V : SesV) (S : Ses) (BV : BrV) (ov : Value) (L : List (OutS × Value)) (CV : ConV) (C : Con) (w' : World) : Prop := ∃ ov', BlkAt w' B (BV.setCon k (.pointer none)) ov' (L ++ [(⟨(k : Int), [], true⟩, .slice none 0 0)]) ∧ SesAt w' CV.sp { V with snd := none } S ∧ ConAt w' B (k : Int) CV C ∧ But (fun g => g = CV.sp ∨ OutHas B ov g) w w' ∧ (ov'.ownBlock = ov.ownBlock ∨ ∃ b, ov'.ownBlock = some b ∧ w.heap.size ≤ b)
set_option maxHeartbeats 800000 in
theorem cutOff_stays (B k : Nat) (p : Pkt) (V : SesV) (S : Ses) (BV : BrV) (ov : Value) (L : List (OutS × Value)) (CV : ConV) (C : Con) (w : World) (h : BlkAt w B BV ov L) (hc : ConAt w B (k : Int) CV C) (hC : C.hello = some p) (hcl : p.clean = false) (hwl : p.will = false) (hs : SesAt w CV.sp V S) (hk : k < 8) (hL : L.length < 1000000000000) (hv : ∃ q, BV.cv k = .pointer q) :
    Calls Tryz.prog 79 #[.pointer (some ⟨B, 0, none⟩), .pointer (some ⟨CV.cb, 0, none⟩)] w fun e w' => e = .returned (.tuple #[]) ∧ ShutPost w B k V S BV ov L CV C w' := by
  have cS := hide (shut_stays B k p V S BV ov L CV C w h hc hC hcl hs hk hL hv)
  clear h hc hs hv
  go_enter Tryz.func79, Tryz.ntmps79
  go_wp2_with fail
  refine cS.out.mono ?_
  rintro e w1 ⟨rfl, ov', h1, h2, h3, h4⟩
  have a21 := blk_cell h3.blk (conC_at (k : Int) CV C).2.2.2.2.2.1
  rw [hC, Option.getD_some, hwl] at a21
  have HR : Hid (ShutPost w B k V S BV ov L CV C w1) := ⟨ov', h1, h2, h3, h4⟩
  clear h1 h2 h3 h4
  go_wp2
  go_end0
  exact ⟨rfl, HR.out⟩
set_option maxHeartbeats 800000 in
theorem close_stays (B k : Nat) (p : Pkt) (V : SesV) (S : Ses) (BV : BrV) (CV : ConV) (C : Con) (w : World) (h : BlkAt w B BV (.slice none 0 0) []) (hc : ConAt w B (k : Int) CV C) (hC : C.hello = some p) (hcl : p.clean = false) (hwl : p.will = false) (hs : SesAt w CV.sp V S) (hk : k < 8) (hv : BV.cv k = .pointer (some ⟨CV.cb, 0, none⟩)) :
    Calls Tryz.prog 52 #[.pointer (some ⟨B, 0, none⟩), .int .i64 (k : Int)] w fun e w' => ∃ ov', e = .returned (.tuple #[ov', .int .i64 0]) ∧ OutsAt w' ov' [(⟨(k : Int), [], true⟩, .slice none 0 0)] ∧ BlkAt w' B (BV.setCon k (.pointer none)) (.slice none 0 0) [] ∧ SesAt w' CV.sp { V with snd := none } S ∧ But (fun g => g = CV.sp ∨ g = B) w w' ∧ ∀ b, ov'.ownBlock = some b → w.heap.size ≤ b := by
  have cO := hide (isOpen_any B k BV _ _ w h.blk hk hv)
  have cC := hide fun w' (hb : Below w.heap.size w w') => cutOff_stays B k p V S BV _ _ CV C w' (h.below hb) (hc.below hb) hC hcl hwl (hs.below hb) hk (by simp) ⟨_, hv⟩
  have hco := hide fun w' (hb : Below w.heap.size w w') => con_cell (h.below hb).blk hk
  rw [hv] at hco
  have h8 : (k : Int) < 8 := by omega
  clear h hc hs
  go_enter Tryz.func52, Tryz.ntmps52
  go_wp2_with fail
  refine cO.out.mono ?_
  rintro e w1 ⟨rfl, hB1⟩
  have c1 := hco.out _ hB1
  have HB1 := hide hB1
  clear hB1
  go_wp2_with fail
  refine (cC.out _ HB1.out).mono ?_
  rintro e w2 ⟨rfl, ov', h2, hs2, hc2, hb2, hl2⟩
  have hnew : ∀ b, ov'.ownBlock = some b → w1.heap.size ≤ b := fun b hb => by
    rcases hl2 with e | ⟨b', e1, e2⟩
    · rw [e] at hb; cases hb
    · rw [e1] at hb; cases hb; exact e2
  have HN := hide hnew
  have HB2 := hide hb2
  have HS2 := hide hs2
  have H2 := hide h2
  clear hs2 hc2 hb2 hl2 hnew c1
  go_wp2_with fail
  refine (takeOut_any B _ ov' _ w2 h2).mono ?_
  rintro e w3 ⟨rfl, ho3, h3, hb3⟩
  have hsz := HB1.out.size
  have hs3 : SesAt w3 CV.sp { V with snd := none } S := HS2.out.but hb3 (fun g hg e => by subst e; exact HS2.out.apart H2.out hg (Or.inl rfl))
  have hbf : But (fun g => g = CV.sp ∨ g = B) w w3 := ((But.of_below (F := fun g => g = CV.sp ∨ g = B) HB1.out).trans HB2.out (fun g _ f => by
    rcases f with e | e | e
    · exact Or.inl e
    · exact Or.inr e
    · cases e)).trans hb3 (fun g _ e => Or.inr e)
  have HR : Hid (OutsAt w3 ov' [(⟨(k : Int), [], true⟩, .slice none 0 0)] ∧ BlkAt w3 B (BV.setCon k (.pointer none)) (.slice none 0 0) [] ∧ SesAt w3 CV.sp { V with snd := none } S ∧ But (fun g => g = CV.sp ∨ g = B) w w3 ∧ ∀ b, ov'.ownBlock = some b → w.heap.size ≤ b) := ⟨ho3, h3, hs3, hbf, fun b hb => Nat.le_trans hsz (HN.out b hb)⟩
  clear ho3 h3 hb3 hs3 hbf h2
  go_wp2
  go_ret2
  exact ⟨ov', rfl, HR.out⟩
end Go.Proofs.YtnmfmoimjkoieaaGreatDoor.br

/- Feed: on a connection that is open, whatever read does. -/
namespace Go.Proofs.YtnmfmoimjkoieaaGreatDoor.br
open Go.RowKit Go.Proofs.YtnmfmoimjkoieaaGreatDoor.topPlain Go.Proofs.YtnmfmoimjkoieaaGreatDoor.topWalks Go.Proofs.YtnmfmoimjkoieaaGreatDoor.decPlain

set_option maxHeartbeats 800000 in
set_option maxRecDepth 100000 in
theorem feed_any (B k cb : Nat) (dq : Option Addr) (dn dc : Nat) (BV : BrV) (ov0 : Value) (w : World) (P : World → World → Prop) (Q : World → World → BrV → Value → List (OutS × Value) → Prop) (h : w.heap[B]? = some (.cells (brC BV ov0) 131)) (hk : k < 8) (hv : BV.cv k = .pointer (some ⟨cb, 0, none⟩))
    (hR : ∀ w', Below w.heap.size w w' → Calls Tryz.prog 59 #[.pointer (some ⟨B, 0, none⟩), .pointer (some ⟨cb, 0, none⟩), .slice dq dn dc] w' fun e w'' => e = .returned (.tuple #[]) ∧ P w' w'')
    (hP : ∀ w' w'', Below w.heap.size w w' → P w' w'' → ∃ BV' ov' L', BlkAt w'' B BV' ov' L' ∧ Q w' w'' BV' ov' L') :
    Calls Tryz.prog 24 #[.pointer (some ⟨B, 0, none⟩), .int .i64 (k : Int), .slice dq dn dc] w fun e w' => ∃ w1 w2 BV' ov' L, Below w.heap.size w w1 ∧ Q w1 w2 BV' ov' L ∧ BlkAt w2 B BV' ov' L ∧ e = .returned (.tuple #[ov', .int .i64 0]) ∧ OutsAt w' ov' L ∧ BlkAt w' B BV' (.slice none 0 0) [] ∧ But (fun b => b = B) w2 w' := by
  have cO := hide (isOpen_any B k BV _ _ w h hk hv)
  have hco := hide fun w' (hb : Below w.heap.size w w') => con_cell ((hb.block _ (blk_lt h)).trans h) hk
  rw [hv] at hco
  have h8 : (k : Int) < 8 := by omega
  have HR := hide hR
  have HP := hide hP
  clear h hR hP
  go_enter Tryz.func24, Tryz.ntmps24
  go_wp2_with fail
  refine cO.out.mono ?_
  rintro e w1 ⟨rfl, hB1⟩
  have c1 := hco.out _ hB1
  have HB1 := hide hB1
  clear hB1
  go_wp2_with fail
  refine (HR.out _ HB1.out).mono ?_
  rintro e w2 ⟨rfl, hp⟩
  obtain ⟨BV', ov', L', h2, hp⟩ := HP.out _ _ HB1.out hp
  have HPP := hide hp
  have H2 := hide h2
  clear hp c1
  go_wp2_with fail
  refine (takeOut_any B _ ov' _ w2 h2).mono ?_
  rintro e w3 ⟨rfl, ho3, h3, hb3⟩
  have HZ : Hid (OutsAt w3 ov' L' ∧ BlkAt w3 B BV' (.slice none 0 0) [] ∧ But (fun b => b = B) w2 w3) := ⟨ho3, h3, hb3⟩
  clear ho3 h3 hb3 h2
  go_wp2
  go_ret2
  exact ⟨w1, w2, BV', ov', L', HB1.out, HPP.out, H2.out, rfl, HZ.out⟩
end Go.Proofs.YtnmfmoimjkoieaaGreatDoor.br

/- The handlers of PUBLISH and SUBSCRIBE. -/
namespace Go.Proofs.YtnmfmoimjkoieaaGreatDoor.br
open Go.RowKit Go.Proofs.YtnmfmoimjkoieaaGreatDoor.topPlain Go.Proofs.YtnmfmoimjkoieaaGreatDoor.topWalks Go.Proofs.YtnmfmoimjkoieaaGreatDoor.decPlain Go.Maps

set_option maxHeartbeats 800000 in
set_option maxRecDepth 100000 in
/-- a handler that calls a method with the broker, the connection and the packet -/
theorem h_pub (B cb x y : Nat) (p : Pkt) (w : World) (R : Ending → World → Prop) (hb : Boxes w B cb x y) (hfv : ∃ a b c, p.fv = .slice a b c) (hcv : ∃ a b c, p.cv = .slice a b c)
    (hK : ∀ w', Below w.heap.size w w' → Calls Tryz.prog 157 #[.pointer (some ⟨B, 0, none⟩), .pointer (some ⟨cb, 0, none⟩), .agg (pkK p)] w' fun e w'' => e = .returned (.tuple #[]) ∧ R e w'') :
    Calls Tryz.prog 156 #[.agg (pkK p), .pointer (some ⟨x, 0, none⟩), .pointer (some ⟨y, 0, none⟩)] w R := by
  have cx : w.cell? ⟨x, 0, none⟩ = some (.pointer (some ⟨B, 0, none⟩)) := blk_cell hb.bx rfl
  have cy : w.cell? ⟨y, 0, none⟩ = some (.pointer (some ⟨cb, 0, none⟩)) := blk_cell hb.by_ rfl
  have hlx := blk_lt hb.bx
  have hly := blk_lt hb.by_
  obtain ⟨f1, f2, f3, hfv⟩ := hfv
  obtain ⟨c1, c2, c3, hcv⟩ := hcv
  have HK := hide hK
  clear hK hb
  simp only [pkK, hfv, hcv] at HK ⊢
  have HB := hide fun o => (Below.refl w.heap.size w).alloc (Nat.le_refl _) o
  clear hfv hcv
  go_enter Tryz.func156, Tryz.ntmps156
  go_wp2_with fail
  refine (HK.out _ (HB.out _)).mono ?_
  rintro e w1 ⟨rfl, hR⟩
  have HR := hide hR
  clear hR
  go_wp2
  go_end0
  exact HR.out
set_option maxHeartbeats 800000 in
set_option maxRecDepth 100000 in
/-- a handler that calls a method with the broker, the connection and the packet -/
theorem h_sub (B cb x y : Nat) (p : Pkt) (w : World) (R : Ending → World → Prop) (hb : Boxes w B cb x y) (hfv : ∃ a b c, p.fv = .slice a b c) (hcv : ∃ a b c, p.cv = .slice a b c)
    (hK : ∀ w', Below w.heap.size w w' → Calls Tryz.prog 167 #[.pointer (some ⟨B, 0, none⟩), .pointer (some ⟨cb, 0, none⟩), .agg (pkK p)] w' fun e w'' => e = .returned (.tuple #[]) ∧ R e w'') :
    Calls Tryz.prog 166 #[.agg (pkK p), .pointer (some ⟨x, 0, none⟩), .pointer (some ⟨y, 0, none⟩)] w R := by
  have cx : w.cell? ⟨x, 0, none⟩ = some (.pointer (some ⟨B, 0, none⟩)) := blk_cell hb.bx rfl
  have cy : w.cell? ⟨y, 0, none⟩ = some (.pointer (some ⟨cb, 0, none⟩)) := blk_cell hb.by_ rfl
  have hlx := blk_lt hb.bx
  have hly := blk_lt hb.by_
  obtain ⟨f1, f2, f3, hfv⟩ := hfv
  obtain ⟨c1, c2, c3, hcv⟩ := hcv
  have HK := hide hK
  clear hK hb
  simp only [pkK, hfv, hcv] at HK ⊢
  have HB := hide fun o => (Below.refl w.heap.size w).alloc (Nat.le_refl _) o
  clear hfv hcv
  go_enter Tryz.func166, Tryz.ntmps166
  go_wp2_with fail
  refine (HK.out _ (HB.out _)).mono ?_
  rintro e w1 ⟨rfl, hR⟩
  have HR := hide hR
  clear hR
  go_wp2
  go_end0
  exact HR.out
end Go.Proofs.YtnmfmoimjkoieaaGreatDoor.br
