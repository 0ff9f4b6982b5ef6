import Derived.Test.YtnmfmoimjkoieaaGreatDoorK12
import Derived.Deep.RegionLawGrows
/- begin: a message goes under way. -/
namespace Go.Proofs.YtnmfmoimjkoieaaGreatDoor.br
open Go.RowKit Go.Proofs.YtnmfmoimjkoieaaGreatDoor.topPlain Go.Proofs.YtnmfmoimjkoieaaGreatDoor.topWalks Go.Proofs.YtnmfmoimjkoieaaGreatDoor.decPlain

set_option maxHeartbeats 1600000 in
set_option maxRecDepth 100000 in
theorem begin_any {N0 : Nat} (sb B cb : Nat) (n : Int) (m : Msg) (d : List UInt8) (V : SesV) (S : Ses) (BV : BrV) (ov : Value) (L : List (OutS × Value)) (w : World) (hE : EncOK N0 w (pktS m (nextS S.last S.under)) d) (hV : ∀ b, V.has sb b → N0 ≤ b) (hs : SesAt w sb V S) (h : BlkAt w B BV ov L) (hS : SinkO w B cb n V.snd) (hL : L.length < 1000000000000) (h0 : 0 ≤ S.last) (hl : S.under.length < 65000) :
    Calls Tryz.prog 197 #[.pointer (some ⟨sb, 0, none⟩), msgV m] w fun e w' => e = .returned (.tuple #[]) ∧ Wrote (V.has sb) w B BV ov L (outTo n V.snd [d]) w' ∧ ∃ uv', SesAt w' sb { V with uv := uv' } (beginS S m) ∧ (uv'.ownBlock = V.uv.ownBlock ∨ ∃ b, uv'.ownBlock = some b ∧ w.heap.size ≤ b) := by
  have H := hide h
  have HS := hide hs
  have HE := hide hE
  have c5 : w.cell? ⟨sb, 5, none⟩ = some V.uv := blk_cell hs.blk rfl
  have c6 : w.cell? ⟨sb, 6, none⟩ = some (.int .i64 S.last) := blk_cell hs.blk rfl
  have hlt := blk_lt hs.blk
  have cN := hide fun w' (hb : Below w.heap.size w w') => nextId_any sb V.uv S.under S.last w' (blk_cell (hs.below hb).blk rfl) (blk_cell (hs.below hb).blk rfl) (hs.below hb).und h0 hl
  have HB := hide fun o => (Below.refl w.heap.size w).alloc (Nat.le_refl _) o
  clear hs h hE
  unfold msgV
  go_enter Tryz.func197, Tryz.ntmps197
  go_wp2_with fail
  refine (cN.out _ (HB.out _)).mono ?_
  rintro e w1 ⟨rfl, hB1⟩
  obtain ⟨i0, hi0, hz0, hz1, hz2⟩ := info_parts infoUw
  have hBw := (HB.out (.cells #[.string (bs m.topic), .string (bs m.payload), .int .i64 m.qos, .bool m.retain] 206)).trans (hB1.mono (by simp))
  have p0 : w1.cell? ⟨w.heap.size, 0, none⟩ = some (.string (bs m.topic)) := by rw [hB1.cell (by simp)]; exact cell_new _ _ _ rfl
  have p1 : w1.cell? ⟨w.heap.size, 1, none⟩ = some (.string (bs m.payload)) := by rw [hB1.cell (by simp)]; exact cell_new _ _ _ rfl
  have p2 : w1.cell? ⟨w.heap.size, 2, none⟩ = some (.int .i64 m.qos) := by rw [hB1.cell (by simp)]; exact cell_new _ _ _ rfl
  have p3 : w1.cell? ⟨w.heap.size, 3, none⟩ = some (.bool m.retain) := by rw [hB1.cell (by simp)]; exact cell_new _ _ _ rfl
  have c6' : w1.cell? ⟨sb, 6, none⟩ = some (.int .i64 S.last) := by rw [hBw.cell hlt]; exact c6
  have f6' : w1.frozen? ⟨sb, 6, none⟩ = false := blk_frozen (HS.out.below hBw).blk
  have hlt1 : w.heap.size < w1.heap.size := cell_blt p0
  have HBW := hide hBw
  clear hB1 hBw c5 c6
  go_wp2_with fail
  have HS2 := hide ((HS.out.below HBW.out).set (V' := V) (S' := { S with last := nextS S.last S.under }) 6 (.int .i64 (nextS S.last S.under)) rfl rfl rfl rfl rfl rfl rfl rfl rfl rfl)
  have HF2 := hide ((But.of_below (F := fun b => b = sb) HBW.out).trans (But.set (F := fun b => b = sb) w1 ⟨sb, 6, none⟩ (.int .i64 (nextS S.last S.under)) rfl) (fun _ _ h => h))
  have hne : w.heap.size ≠ sb := by omega
  have hkp : ∀ i, (w1.setCell ⟨sb, 6, none⟩ (.int .i64 (nextS S.last S.under))).cell? ⟨w.heap.size, i, none⟩ = w1.cell? ⟨w.heap.size, i, none⟩ := fun i => World.cell?_of_block (Below.heap_setCell _ _ _ _ (fun e => hne e))
  rw [← hkp] at p0 p1 p2 p3
  have hsz2 : (w1.setCell ⟨sb, 6, none⟩ (.int .i64 (nextS S.last S.under))).heap.size = w1.heap.size := by simp [World.setCell]
  have HID : Hid (beginS S m = { S with last := nextS S.last S.under, under := S.under ++ [⟨nextS S.last S.under, m.qos, false, m⟩] }) := rfl
  clear hkp c6' f6'
  generalize nextS S.last S.under = idn at *
  generalize w1.setCell ⟨sb, 6, none⟩ (.int .i64 idn) = w2 at *
  have c5' : w2.cell? ⟨sb, 5, none⟩ = some V.uv := blk_cell HS2.out.blk rfl
  have f5' : w2.frozen? ⟨sb, 5, none⟩ = false := blk_frozen HS2.out.blk
  have c6' : w2.cell? ⟨sb, 6, none⟩ = some (.int .i64 idn) := blk_cell HS2.out.blk rfl
  obtain ⟨q, cap, hq⟩ := own_form HS2.out.und
  simp only at hq
  rw [hq] at c5'
  have HQ := hide hq
  have HQB := hide (congrArg Value.ownBlock hq)
  have hlt2 : sb < w2.heap.size := cell_blt c5'
  have HROW := hide (show w2.ownsRow 0 252 7 (.slice q S.under.length cap) S.under.length (S.under.flatMap uwC) by rw [← hq]; exact HS2.out.und)
  clear hq
  have HNW := hide (news_new w2 #[.int .i64 idn, .int .i64 m.qos, .bool false, .string (bs m.topic), .string (bs m.payload), .int .i64 m.qos, .bool m.retain] 252)
  have hA := fun o => alloc_cell c5' o
  have hA6 := fun o => alloc_cell c6' o
  have hP0 := fun o => alloc_cell p0 o
  have hP1 := fun o => alloc_cell p1 o
  have hP2 := fun o => alloc_cell p2 o
  have hP3 := fun o => alloc_cell p3 o
  have hne2 : (Value.slice q S.under.length cap).ownBlock ≠ some sb := by rw [← HQ.out]; exact HS.out.own_ne.2.1
  have HNE := hide hne2
  have hnm : (Value.slice q S.under.length cap).ownBlock ≠ some w.heap.size := fun e => by
    rw [← HQ.out] at e
    have := HS.out.lt (Or.inr (Or.inr (Or.inr (Or.inr e))))
    omega
  have HNM := hide hnm
  have HP0 := hide p0
  have HP1 := hide p1
  have HP2 := hide p2
  have HP3 := hide p3
  clear hnm
  clear hne2
  have hls : w.heap.size < w2.heap.size := by omega
  clear hsz2 hlt1
  rename_i aK
  have HK := hide aK
  clear aK
  go_region_law (
    refine step_append_at rfl (.tmp 13) (.tmp 22) 186 rfl 0 252 i0 (.agg #[.int .i64 0, .int .i64 0, .bool false, .string ByteArray.empty, .string ByteArray.empty, .int .i64 0, .bool false]) 7 72 Tryz.underlying186 hi0 hz0 hz1 hz2 rfl (by decide) (.slice q S.under.length cap) S.under.length (S.under.flatMap uwC) ?s1 ?s2 ⟨w2.heap.size, 0, none⟩ 1 1 [.int .i64 idn, .int .i64 m.qos, .bool false, .string (bs m.topic), .string (bs m.payload), .int .i64 m.qos, .bool m.retain] ?s3 rfl ?s4 ?s5 ?s6 ?s7 ?s8 ?_
    case s1 => simp [Act.eval]
    case s3 => simp [Act.eval]
    case s2 => exact HROW.out.alloc _
    case s4 => exact HNW.out
    case s5 => intro u hu; simp at hu; rcases hu with rfl | rfl | rfl | rfl | rfl | rfl | rfl <;> rfl
    case s6 => unfold maxLen; omega
    case s7 => omega
    case s8 => exact Nat.zero_le _
    intro v' w8 hown' hgrow hloc
    obtain ⟨q', cap', rfl⟩ := own_form hown'
    have hg8 : (w2.alloc (.cells #[.int .i64 idn, .int .i64 m.qos, .bool false, .string (bs m.topic), .string (bs m.payload), .int .i64 m.qos, .bool m.retain] 252)).grownBy w8 (Value.slice q S.under.length cap).ownBlock := ⟨hgrow.os, hgrow.tape, hgrow.output, hgrow.size, hgrow.block⟩
    have HG := hide hg8
    have hbk : w8.heap[sb]? = w2.heap[sb]? := (hg8.block sb (by simp; omega) (fun e => HNE.out e.symm)).trans (Below.heap_alloc _ _ _ hlt2)
    have c8 : w8.cell? ⟨sb, 5, none⟩ = some (.slice q S.under.length cap) := by rw [World.cell?_of_block (w := w2) hbk]; exact c5'
    have f8 : w8.frozen? ⟨sb, 5, none⟩ = false := by rw [World.frozen?_of_block (w := w2) hbk]; exact f5'
    have HOW := hide hown'
    have HLOC := hide hloc
    have hbm : w8.heap[w.heap.size]? = w2.heap[w.heap.size]? := (hg8.block w.heap.size (by simp; omega) (fun e => HNM.out e.symm)).trans (Below.heap_alloc _ _ _ hls)
    have HBM := hide hbm
    clear c5' f5' c6' p0 p1 p2 p3 hbm hA hA6 hP0 hP1 hP2 hP3 HNW hgrow hg8 hown' hloc hbk)
  all_goals
    go_wp2_with fail
    refine HK.out _ _ ?_
    have hg : w2.grownBy w8 V.uv.ownBlock := ⟨HG.out.os, HG.out.tape, HG.out.output, Nat.le_trans (by simp) HG.out.size, fun k hk hne => (HG.out.block k (by simp; omega) (by rw [← HQB.out]; exact hne)).trans (Below.heap_alloc _ _ _ hk)⟩
    exact begin_end sb B cb n idn m d V S (beginS S m) BV ov L w w2 w8 HS.out H.out HE.out hV hS hL HS2.out HF2.out hls HP0.out HP1.out HP2.out HP3.out hg HBM.out q' cap' HOW.out (HLOC.out.imp (fun h => h.trans HQB.out.symm) (fun h => ⟨_, h, by simp⟩)) HID.out _ _ _ _ _ _ _ _ _ _ _ _ _ _ _ _ _ _ _ _ _ _ _ _ _ _ _ _ _ _ _ _
end Go.Proofs.YtnmfmoimjkoieaaGreatDoor.br
