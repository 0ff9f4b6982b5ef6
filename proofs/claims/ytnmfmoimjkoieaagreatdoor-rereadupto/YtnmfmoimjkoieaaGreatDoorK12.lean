import Derived.Test.YtnmfmoimjkoieaaGreatDoorK06
import Derived.Deep.RegionLawGrows
import Derived.Test.YtnmfmoimjkoieaaGreatDoorK02
import Derived.Deep.LoopGhost
import Derived.Deep.RegionWith
import Derived.Test.YtnmfmoimjkoieaaGreatDoorK03
import Derived.Deep.RegionHeld3
import Derived.Test.YtnmfmoimjkoieaaGreatDoorK08
/- Take: a session is given a filter. -/
namespace Go.Proofs.YtnmfmoimjkoieaaGreatDoor.br
open Go.RowKit Go.Proofs.YtnmfmoimjkoieaaGreatDoor.topPlain Go.Proofs.YtnmfmoimjkoieaaGreatDoor.topWalks Go.Proofs.YtnmfmoimjkoieaaGreatDoor.decPlain

theorem infoFil : (Tryz.prog.info? 95).map (fun i => (i.zero, i.size, i.bytes)) = some (some (.agg #[.string ByteArray.empty, .int .i64 0]), 2, 24) := by kernel_rfl
set_option maxHeartbeats 1600000 in
set_option maxRecDepth 100000 in
theorem take_old (sb : Nat) (V : SesV) (S : Ses) (f : List UInt8 × Int) (w : World) (h : SesAt w sb V S) (i : Nat) (hi : S.filters.findIdx? (fun g => g.1 == f.1) = some i) :
    Calls Tryz.prog 214 #[.pointer (some ⟨sb, 0, none⟩), .agg #[.string (bs f.1), .int .i64 f.2]] w fun e w' => e = .returned (.bool true) ∧ But (V.has sb) w w' ∧ SesAt w' sb V { S with filters := S.filters.set i f } := by
  have H := hide h
  have c0 : w.cell? ⟨sb, 0, none⟩ = some V.fv := blk_cell h.blk rfl
  have hlt := cell_blt c0
  simp only at hlt
  have cF := hide fun w' (hB : Below w.heap.size w w') => findFilter_any sb V.fv S.filters f.1 w' (by rw [hB.cell hlt]; exact c0) (h.below hB).fil
  have HB := hide fun o => (Below.refl w.heap.size w).alloc (Nat.le_refl _) o
  have hil : i < S.filters.length := (List.findIdx?_eq_some_iff_getElem.1 hi).1
  obtain ⟨q, cap, hq⟩ := own_form h.fil
  have hf := h.fil
  rw [hq] at hf
  obtain ⟨g, rfl, hg, hkc, hcm, _⟩ := own_at hf (by omega)
  obtain ⟨hg0, hg1⟩ := fil_cells (wr := w) hf (List.getElem?_eq_getElem hil) rfl rfl
  obtain ⟨cur, hcur⟩ := own_blk hf (b := g) rfl
  have hf0 : w.frozen? ⟨g, i * 2, none⟩ = false := blk_frozen hcur
  have hf1 : w.frozen? ⟨g, i * 2 + 1, none⟩ = false := blk_frozen hcur
  unfold maxLen at hcm
  clear hf hcur
  have hidx : idx (fun g => g.1 == f.1) S.filters = (i : Int) := by unfold idx; rw [hi]
  rw [hidx] at cF
  rw [hq] at c0
  clear hidx hi h
  go_enter Tryz.func214, Tryz.ntmps214
  go_wp2_with fail
  refine (cF.out _ (HB.out _)).mono ?_
  rintro e w1 ⟨rfl, hB1⟩
  have hBw := (HB.out (.cells #[.string (bs f.1), .int .i64 f.2] 95)).trans (hB1.mono (by simp))
  have p0 : w1.cell? ⟨w.heap.size, 0, none⟩ = some (.string (bs f.1)) := by rw [hB1.cell (by simp)]; exact cell_new _ _ _ rfl
  have p1 : w1.cell? ⟨w.heap.size, 1, none⟩ = some (.int .i64 f.2) := by rw [hB1.cell (by simp)]; exact cell_new _ _ _ rfl
  have c0' : w1.cell? ⟨sb, 0, none⟩ = some (.slice (some ⟨g, 0, none⟩) S.filters.length cap) := by rw [hBw.cell hlt]; exact c0
  have g0' : w1.cell? ⟨g, i * 2, none⟩ = some (.string (bs (S.filters[i]).1)) := by rw [hBw.cell hg]; exact hg0
  have g1' : w1.cell? ⟨g, i * 2 + 1, none⟩ = some (.int .i64 (S.filters[i]).2) := by rw [hBw.cell hg]; exact hg1
  have f0' : w1.frozen? ⟨g, i * 2, none⟩ = false := by rw [hBw.frozen hg]; exact hf0
  have f1' : w1.frozen? ⟨g, i * 2 + 1, none⟩ = false := by rw [hBw.frozen hg]; exact hf1
  have HBW := hide hBw
  have hsz := hB1.size
  generalize (S.filters[i]).1 = x0 at g0'
  generalize (S.filters[i]).2 = x1 at g1'
  clear hB1 hBw hg0 hg1 hf0 hf1 c0
  have HQ := hide hq
  clear hq
  go_wp2
  go_region
  all_goals
    go_wp2
    go_ret
    have hgh : V.has sb g := Or.inr (Or.inl (by rw [HQ.out]; rfl))
    exact ⟨rfl, ((But.of_below HBW.out).trans ((But.set w1 ⟨g, i * 2, none⟩ _ hgh).trans (But.set _ ⟨g, i * 2 + 1, none⟩ _ hgh) (fun _ _ h => h)) (fun _ _ h => h)).drew, ((H.out.below HBW.out).setFil HQ.out f hil).drew⟩

set_option maxHeartbeats 1600000 in
set_option maxRecDepth 100000 in
theorem take_full (sb : Nat) (V : SesV) (S : Ses) (f : List UInt8 × Int) (w : World) (h : SesAt w sb V S) (hi : S.filters.findIdx? (fun g => g.1 == f.1) = none) (h6 : 6 ≤ S.filters.length) :
    Calls Tryz.prog 214 #[.pointer (some ⟨sb, 0, none⟩), .agg #[.string (bs f.1), .int .i64 f.2]] w fun e w' => e = .returned (.bool false) ∧ Below w.heap.size w w' := by
  have c0 : w.cell? ⟨sb, 0, none⟩ = some V.fv := blk_cell h.blk rfl
  have hlt := cell_blt c0
  simp only at hlt
  have cF := hide fun w' (hB : Below w.heap.size w w') => findFilter_any sb V.fv S.filters f.1 w' (by rw [hB.cell hlt]; exact c0) (h.below hB).fil
  have HB := hide fun o => (Below.refl w.heap.size w).alloc (Nat.le_refl _) o
  obtain ⟨q, cap, hq⟩ := own_form h.fil
  have hidx : idx (fun g => g.1 == f.1) S.filters = -1 := by unfold idx; rw [hi]
  have hd : (6 : Int) ≤ (S.filters.length : Int) := by omega
  rw [hidx] at cF
  rw [hq] at c0
  clear hidx hi h hq
  go_enter Tryz.func214, Tryz.ntmps214
  go_wp2_with fail
  refine (cF.out _ (HB.out _)).mono ?_
  rintro e w1 ⟨rfl, hB1⟩
  have hBw := (HB.out (.cells #[.string (bs f.1), .int .i64 f.2] 95)).trans (hB1.mono (by simp))
  have c0' : w1.cell? ⟨sb, 0, none⟩ = some (.slice q S.filters.length cap) := by rw [hBw.cell hlt]; exact c0
  have HBW := hide hBw
  clear hB1 hBw c0
  go_wp2
  go_ret
  exact ⟨rfl, HBW.out⟩

set_option maxHeartbeats 1600000 in
set_option maxRecDepth 100000 in
theorem take_new (sb : Nat) (V : SesV) (S : Ses) (f : List UInt8 × Int) (w : World) (h : SesAt w sb V S) (hi : S.filters.findIdx? (fun g => g.1 == f.1) = none) (h6 : ¬ 6 ≤ S.filters.length) :
    Calls Tryz.prog 214 #[.pointer (some ⟨sb, 0, none⟩), .agg #[.string (bs f.1), .int .i64 f.2]] w fun e w' => e = .returned (.bool true) ∧ But (V.has sb) w w' ∧ ∃ fv', SesAt w' sb { V with fv := fv' } { S with filters := S.filters ++ [f] } ∧ (fv'.ownBlock = V.fv.ownBlock ∨ ∃ b, fv'.ownBlock = some b ∧ w.heap.size ≤ b) := by
  have H := hide h
  have c0 : w.cell? ⟨sb, 0, none⟩ = some V.fv := blk_cell h.blk rfl
  have f0 : w.frozen? ⟨sb, 0, none⟩ = false := blk_frozen h.blk
  have hlt := cell_blt c0
  simp only at hlt
  have cF := hide fun w' (hB : Below w.heap.size w w') => findFilter_any sb V.fv S.filters f.1 w' (by rw [hB.cell hlt]; exact c0) (h.below hB).fil
  have HB := hide fun o => (Below.refl w.heap.size w).alloc (Nat.le_refl _) o
  obtain ⟨q, cap, hq⟩ := own_form h.fil
  have hidx : idx (fun g => g.1 == f.1) S.filters = -1 := by unfold idx; rw [hi]
  have hd : ¬ (6 : Int) ≤ (S.filters.length : Int) := by omega
  have h63 : S.filters.length < 6 := by omega
  rw [hidx] at cF
  obtain ⟨i0, hi0, hz0, hz1, hz2⟩ := info_parts infoFil
  clear hidx hi h
  go_enter Tryz.func214, Tryz.ntmps214
  go_wp2_with fail
  refine (cF.out _ (HB.out _)).mono ?_
  rintro e w1 ⟨rfl, hB1⟩
  have hBw := (HB.out (.cells #[.string (bs f.1), .int .i64 f.2] 95)).trans (hB1.mono (by simp))
  have p0 : w1.cell? ⟨w.heap.size, 0, none⟩ = some (.string (bs f.1)) := by rw [hB1.cell (by simp)]; exact cell_new _ _ _ rfl
  have p1 : w1.cell? ⟨w.heap.size, 1, none⟩ = some (.int .i64 f.2) := by rw [hB1.cell (by simp)]; exact cell_new _ _ _ rfl
  have c0' : w1.cell? ⟨sb, 0, none⟩ = some V.fv := by rw [hBw.cell hlt]; exact c0
  have c0q := c0'
  rw [hq] at c0q
  have f0' : w1.frozen? ⟨sb, 0, none⟩ = false := by rw [hBw.frozen hlt]; exact f0
  have hlt1 : sb < w1.heap.size := Nat.lt_of_lt_of_le hlt hBw.size
  have HBW := hide hBw
  have HS1 := hide (H.out.below hBw)
  clear hB1 hBw c0 f0
  have HQ := hide hq
  clear hq c0'
  go_wp2_with fail
  have HN := hide (news_new w1 #[.string (bs f.1), .int .i64 f.2] 95)
  have hA := fun o => alloc_cell c0q o
  have HFIL := hide (show w1.ownsRow 0 95 2 (.slice q S.filters.length cap) S.filters.length (filK S.filters) by rw [← HQ.out]; exact HS1.out.fil)
  have HQB := hide (congrArg Value.ownBlock HQ.out)
  go_region_law (
    refine step_append_at rfl (.tmp 29) (.tmp 31) 33 rfl 0 95 i0 (.agg #[.string ByteArray.empty, .int .i64 0]) 2 24 Tryz.underlying33 hi0 hz0 hz1 hz2 rfl (by decide) (.slice q S.filters.length cap) S.filters.length (filK S.filters) ?s1 ?s2 ⟨w1.heap.size, 0, none⟩ 1 1 [.string (bs f.1), .int .i64 f.2] ?s3 rfl ?s4 ?s5 ?s6 ?s7 ?s8 ?_
    case s1 => simp [Act.eval]
    case s3 => simp [Act.eval]
    case s2 => exact HFIL.out.alloc _
    case s4 => exact HN.out
    case s5 => intro u hu; simp at hu; rcases hu with rfl | rfl <;> rfl
    case s6 => unfold maxLen; omega
    case s7 => omega
    case s8 => exact Nat.zero_le _
    intro v' w8 hown' hgrow hloc
    obtain ⟨q', cap', rfl⟩ := own_form hown'
    have hg8 : (w1.alloc (.cells #[.string (bs f.1), .int .i64 f.2] 95)).grownBy w8 (Value.slice q S.filters.length cap).ownBlock := ⟨hgrow.os, hgrow.tape, hgrow.output, hgrow.size, hgrow.block⟩
    have HG := hide hg8
    have hne : (Value.slice q S.filters.length cap).ownBlock ≠ some sb := by rw [← HQ.out]; exact H.out.own_ne.1
    have hbk : w8.heap[sb]? = w1.heap[sb]? := (hg8.block sb (by simp; omega) (fun e => hne e.symm)).trans (Below.heap_alloc _ _ _ hlt1)
    have c8 : w8.cell? ⟨sb, 0, none⟩ = some (.slice q S.filters.length cap) := by rw [World.cell?_of_block (w := w1) hbk]; exact c0q
    have f8 : w8.frozen? ⟨sb, 0, none⟩ = false := by rw [World.frozen?_of_block (w := w1) hbk]; exact f0'
    have HOW := hide hown'
    have HLOC := hide hloc
    clear c0q f0' p0 p1 hA HN hgrow hg8 hown' hloc hne hbk)
  all_goals
    go_wp2
    go_ret
    have hg : w1.grownBy w8 V.fv.ownBlock := ⟨HG.out.os, HG.out.tape, HG.out.output, Nat.le_trans (by simp) HG.out.size, fun k hk hne => (HG.out.block k (by simp; omega) (by rw [← HQB.out]; exact hne)).trans (Below.heap_alloc _ _ _ hk)⟩
    have hsz1 := HBW.out.size
    refine ⟨rfl, (But.of_below HBW.out).trans ((But.of_grown (F := V.has sb) hg (fun b hb => Or.inr (Or.inl hb))).trans (But.set _ ⟨sb, 0, none⟩ _ (Or.inl rfl)) (fun _ _ h => h)) (fun _ _ h => h), .slice q' (S.filters.length + 1) cap', HS1.out.addFil hg (by simpa [filK] using HOW.out), ?_⟩
    rcases HLOC.out with h | h
    · exact Or.inl (h.trans HQB.out.symm)
    · exact Or.inr ⟨_, h, by simp; omega⟩

theorem take_any (sb : Nat) (V : SesV) (S : Ses) (f : List UInt8 × Int) (w : World) (h : SesAt w sb V S) :
    Calls Tryz.prog 214 #[.pointer (some ⟨sb, 0, none⟩), .agg #[.string (bs f.1), .int .i64 f.2]] w fun e w' => e = .returned (.bool (takeS S.filters f).isSome) ∧ But (V.has sb) w w' ∧ ∃ fv', SesAt w' sb { V with fv := fv' } { S with filters := (takeS S.filters f).getD S.filters } ∧ (fv'.ownBlock = V.fv.ownBlock ∨ ∃ b, fv'.ownBlock = some b ∧ w.heap.size ≤ b) := by
  cases hi : S.filters.findIdx? (fun g => g.1 == f.1) with
  | some i =>
    have htk : takeS S.filters f = some (S.filters.set i f) := by unfold takeS; rw [hi]
    rw [htk]
    exact (take_old sb V S f w h i hi).mono fun e w' ⟨h1, h2, h3⟩ => ⟨h1, h2, V.fv, h3, Or.inl rfl⟩
  | none =>
    by_cases h6 : 6 ≤ S.filters.length
    · have htk : takeS S.filters f = none := by unfold takeS; rw [hi]; simp [h6]
      rw [htk]
      exact (take_full sb V S f w h hi h6).mono fun e w' ⟨h1, h2⟩ => ⟨h1, But.of_below h2, V.fv, h.below h2, Or.inl rfl⟩
    · have htk : takeS S.filters f = some (S.filters ++ [f]) := by unfold takeS; rw [hi]; simp [h6]
      rw [htk]
      exact (take_new sb V S f w h hi h6).mono fun e w' ⟨h1, h2, h3⟩ => ⟨h1, h2, h3⟩
end Go.Proofs.YtnmfmoimjkoieaaGreatDoor.br

/- Nothing is retained: Matching, tellRetained. -/
namespace Go.Proofs.YtnmfmoimjkoieaaGreatDoor.br
open Go.RowKit Go.Proofs.YtnmfmoimjkoieaaGreatDoor.topPlain Go.Proofs.YtnmfmoimjkoieaaGreatDoor.topWalks

theorem matching_none (B : Nat) (q : Option Addr) (c : Nat) (f : List UInt8) (w : World) (h : w.cell? ⟨B, 11, none⟩ = some (.slice q 0 c)) :
    Calls Tryz.prog 241 #[.pointer (some ⟨B, 11, none⟩), .string (bs f)] w fun e w' => e = .returned (.slice none 0 0) ∧ Below w.heap.size w w' := by
  have HB := hide (Below.refl w.heap.size w)
  go_enter Tryz.func241, Tryz.ntmps241
  go_wp2_with fail
  go_loopw [5, 13] (fun v i wx => v = .slice none 0 0 ∧ i = .int .i64 0 ∧ wx = w) (fun _ _ _ => 0)
  case atStart => exact ⟨rfl, rfl, rfl⟩
  case round =>
    obtain ⟨rfl, rfl, rfl⟩ := hrel
    go_wp2
    go_ret
    exact ⟨rfl, HB.out⟩
theorem tellRetained_none (B sb : Nat) (q : Option Addr) (c : Nat) (f : List UInt8 × Int) (w : World) (h : w.cell? ⟨B, 11, none⟩ = some (.slice q 0 c)) :
    Calls Tryz.prog 215 #[.pointer (some ⟨B, 0, none⟩), .pointer (some ⟨sb, 0, none⟩), .agg #[.string (bs f.1), .int .i64 f.2]] w fun e w' => e = .returned (.tuple #[]) ∧ Below w.heap.size w w' := by
  have HB := hide fun o => (Below.refl w.heap.size w).alloc (Nat.le_refl _) o
  have hA := fun o => alloc_cell h o
  have cM := hide fun w h => matching_none B q c f.1 w h
  go_enter Tryz.func215, Tryz.ntmps215
  go_wp2_with fail
  go_region_with (
    refine (cM.out _ (by exact hA _)).mono ?_
    rintro e w1 ⟨rfl, hB1⟩
    have HBW : Hid (Below w.heap.size w w1) := ((HB.out _).drew.trans (hB1.mono (by simp [World.drew])))
    clear hB1)
  all_goals
    go_wp2_with fail
    conv => arg 4; simp [Act.put]
    go_loopw [15] (fun i wx => i = .int .i64 0 ∧ wx = w1) (fun _ _ => 0)
    case atStart => exact ⟨rfl, rfl⟩
    case round =>
      obtain ⟨rfl, rfl⟩ := hrel
      go_wp2
      go_end0
      exact ⟨rfl, HBW.out⟩
end Go.Proofs.YtnmfmoimjkoieaaGreatDoor.br

/- The caller's line: joins, by what Open and sends do. -/
namespace Go.Proofs.YtnmfmoimjkoieaaGreatDoor.br
open Go.RowKit Go.Proofs.YtnmfmoimjkoieaaGreatDoor.topPlain Go.Proofs.YtnmfmoimjkoieaaGreatDoor.topWalks Go.Proofs.YtnmfmoimjkoieaaGreatDoor.decPlain Go.Maps

/-- CONNECT -/
def helloS (client : List UInt8) (clean : Bool) : Pkt := { zP with kind := 1, clean := clean, client := client }
/-- a CONNACK was heard -/
structure Heard1 (w : World) (lb k g cap : Nat) (V : LineV) (kind code : Int) : Prop where
  line : LineAt w lb V
  bad : V.bad = false
  got : V.got k = .slice (some ⟨g, 0, none⟩) 1 cap
  cap1 : 1 ≤ cap
  capm : cap ≤ maxLen
  kind : w.cell? ⟨g, 0, none⟩ = some (.int .i64 kind)
  code : w.cell? ⟨g, 6, none⟩ = some (.int .i64 code)
  ne : g ≠ lb
set_option maxHeartbeats 800000 in
set_option maxRecDepth 100000 in
theorem joins_any (lb k : Nat) (client : List UInt8) (clean : Bool) (V : LineV) (w : World) (Q0 R : World → Prop) (h : LineAt w lb V) (hk : k < 8)
    (hO : Calls Tryz.prog 23 #[.pointer (some ⟨V.b, 0, none⟩), .int .i64 (k : Int)] w fun e w' => e = .returned (.int .i64 0) ∧ Q0 w')
    (hQ0 : ∀ w', Q0 w' → LineAt w' lb V)
    (hS : ∀ w', Q0 w' → Calls Tryz.prog 50 #[.pointer (some ⟨lb, 0, none⟩), .int .i64 (k : Int), .agg (pkK (helloS client clean))] (w'.setCell ⟨lb, 9 + k, none⟩ (.bool false)) fun e w'' => e = .returned (.tuple #[]) ∧ R w'' ∧ ∃ g cap V', Heard1 w'' lb k g cap V' 2 0) :
    Calls Tryz.prog 48 #[.pointer (some ⟨lb, 0, none⟩), .int .i64 (k : Int), .string (bs client), .bool clean] w fun e w' => ∃ v w1, e = .returned (.tuple #[v, .bool true]) ∧ R w1 ∧ w' = w1.setCell ⟨lb, 1 + k, none⟩ (.slice none 0 0) := by
  have c0 : w.cell? ⟨lb, 0, none⟩ = some (.pointer (some ⟨V.b, 0, none⟩)) := blk_cell h rfl
  have h8 : (k : Int) < 8 := by omega
  have HO := hide hO
  have HQ0 := hide hQ0
  have HS := hide hS
  have HK := hide hk
  simp only [pkK, helloS, zP] at HS
  clear hO hQ0 hS h
  go_enter Tryz.func48, Tryz.ntmps48
  go_wp2_with fail
  refine HO.out.mono ?_
  rintro e w1 ⟨rfl, hq0⟩
  have hl1 := HQ0.out _ hq0
  have f9 : w1.frozen? ⟨lb, 9 + k, none⟩ = false := blk_frozen hl1
  have l9 : w1.cell? ⟨lb, 9 + k, none⟩ = some (.bool (V.off k)) := blk_cell hl1 (lineC_off V HK.out)
  have HQA := hide hq0
  clear hq0 hl1 c0
  go_wp2_with fail
  refine (HS.out _ HQA.out).mono ?_
  rintro e w2 ⟨rfl, hR, g, cap, V', hH⟩
  have HR := hide hR
  have HH := hide hH
  have cH := hide (heard_any lb k V' w2 hH.line HK.out ⟨_, _, _, hH.got⟩)
  rw [hH.got] at cH
  clear hR hH f9 l9
  go_wp2_with fail
  refine cH.out.mono ?_
  rintro e w3 ⟨rfl, hw3, hl3⟩
  have m0 : w3.cell? ⟨g, 0, none⟩ = some (.int .i64 2) := by
    rw [hw3, World.cell?_of_block (w := w2) (Below.heap_setCell _ _ _ _ HH.out.ne)]; exact HH.out.kind
  have m6 : w3.cell? ⟨g, 6, none⟩ = some (.int .i64 0) := by
    rw [hw3, World.cell?_of_block (w := w2) (Below.heap_setCell _ _ _ _ HH.out.ne)]; exact HH.out.code
  have m17 : w3.cell? ⟨lb, 17, none⟩ = some (.bool false) := by rw [← HH.out.bad]; exact blk_cell hl3 rfl
  have hcap1 := HH.out.cap1
  have hcapm : cap ≤ 9223372036854775807 := by have := HH.out.capm; unfold maxLen at this; omega
  have HW3 := hide hw3
  clear hw3 hl3 cH
  go_wp2_with fail
  all_goals
    go_ret2
    exact ⟨⟨_, rfl⟩, w2, HR.out, HW3.out⟩
end Go.Proofs.YtnmfmoimjkoieaaGreatDoor.br

/- The caller's line: asks, by what sends does. -/
namespace Go.Proofs.YtnmfmoimjkoieaaGreatDoor.br
open Go.RowKit Go.Proofs.YtnmfmoimjkoieaaGreatDoor.topPlain Go.Proofs.YtnmfmoimjkoieaaGreatDoor.topWalks Go.Proofs.YtnmfmoimjkoieaaGreatDoor.decPlain Go.Maps

/-- SUBSCRIBE -/
def askS (fv : Value) : Pkt := { zP with kind := 8, id := 1, fv := fv }
/-- a SUBACK was heard -/
structure Heard2 (w : World) (lb k g cap cg cc : Nat) (V : LineV) (qos : Int) : Prop where
  line : LineAt w lb V
  bad : V.bad = false
  got : V.got k = .slice (some ⟨g, 0, none⟩) 1 cap
  cap1 : 1 ≤ cap
  capm : cap ≤ maxLen
  kind : w.cell? ⟨g, 0, none⟩ = some (.int .i64 9)
  codes : w.cell? ⟨g, 14, none⟩ = some (.slice (some ⟨cg, 0, none⟩) 1 cc)
  code : w.cell? ⟨cg, 0, none⟩ = some (.int .i64 qos)
  cc1 : 1 ≤ cc
  ne : g ≠ lb
  ne2 : cg ≠ lb
set_option maxHeartbeats 800000 in
set_option maxRecDepth 100000 in
theorem asks_line (lb k : Nat) (f : List UInt8) (qos : Int) (w : World) (R : World → Prop) (hk : k < 8)
    (hS : Calls Tryz.prog 50 #[.pointer (some ⟨lb, 0, none⟩), .int .i64 (k : Int), .agg (pkK (askS (.slice (some ⟨w.heap.size, 0, none⟩) 1 1)))] (w.alloc (.cells #[.string (bs f), .int .i64 qos] 95)) fun e w'' => e = .returned (.tuple #[]) ∧ R w'' ∧ ∃ g cap cg cc V', Heard2 w'' lb k g cap cg cc V' qos) :
    Calls Tryz.prog 49 #[.pointer (some ⟨lb, 0, none⟩), .int .i64 (k : Int), .string (bs f), .int .i64 qos] w fun e w' => ∃ w1, e = .returned (.bool true) ∧ R w1 ∧ w' = w1.setCell ⟨lb, 1 + k, none⟩ (.slice none 0 0) := by
  have h8 : (k : Int) < 8 := by omega
  have HS := hide hS
  have HK := hide hk
  simp only [pkK, askS, zP] at HS
  clear hS
  go_enter Tryz.func49, Tryz.ntmps49
  go_wp2_with fail
  refine HS.out.mono ?_
  rintro e w2 ⟨rfl, hR, g, cap, cg, cc, V', hH⟩
  have HR := hide hR
  have HH := hide hH
  have cH := hide (heard_any lb k V' w2 hH.line HK.out ⟨_, _, _, hH.got⟩)
  rw [hH.got] at cH
  clear hR hH
  go_wp2_with fail
  refine cH.out.mono ?_
  rintro e w3 ⟨rfl, hw3, hl3⟩
  have m0 : w3.cell? ⟨g, 0, none⟩ = some (.int .i64 9) := by
    rw [hw3, World.cell?_of_block (w := w2) (Below.heap_setCell _ _ _ _ HH.out.ne)]; exact HH.out.kind
  have m14 : w3.cell? ⟨g, 14, none⟩ = some (.slice (some ⟨cg, 0, none⟩) 1 cc) := by
    rw [hw3, World.cell?_of_block (w := w2) (Below.heap_setCell _ _ _ _ HH.out.ne)]; exact HH.out.codes
  have mc : w3.cell? ⟨cg, 0, none⟩ = some (.int .i64 qos) := by
    rw [hw3, World.cell?_of_block (w := w2) (Below.heap_setCell _ _ _ _ HH.out.ne2)]; exact HH.out.code
  have m17 : w3.cell? ⟨lb, 17, none⟩ = some (.bool false) := by rw [← HH.out.bad]; exact blk_cell hl3 rfl
  have hcap1 := HH.out.cap1
  have hcapm : cap ≤ 9223372036854775807 := by have := HH.out.capm; unfold maxLen at this; omega
  have hcc1 := HH.out.cc1
  have HW3 := hide hw3
  clear hw3 hl3 cH
  go_wp2_with fail
  go_ret
  exact ⟨w2, rfl, HR.out, HW3.out⟩
end Go.Proofs.YtnmfmoimjkoieaaGreatDoor.br

/- begin: a message goes under way. -/
namespace Go.Proofs.YtnmfmoimjkoieaaGreatDoor.br
open Go.RowKit Go.Proofs.YtnmfmoimjkoieaaGreatDoor.topPlain Go.Proofs.YtnmfmoimjkoieaaGreatDoor.topWalks Go.Proofs.YtnmfmoimjkoieaaGreatDoor.decPlain

theorem infoUw : (Tryz.prog.info? 252).map (fun i => (i.zero, i.size, i.bytes)) = some (some (.agg #[.int .i64 0, .int .i64 0, .bool false, .string ByteArray.empty, .string ByteArray.empty, .int .i64 0, .bool false]), 7, 72) := by kernel_rfl
def beginS (S : Ses) (m : Msg) : Ses := { S with last := nextS S.last S.under, under := S.under ++ [⟨nextS S.last S.under, m.qos, false, m⟩] }

theorem SesAt.addUw {w w1 : World} {sb : Nat} {V : SesV} {S : Ses} {uv' : Value} {l' : List Uw} (h : SesAt w sb V S) (hB : w.grownBy w1 V.uv.ownBlock) (ho : w1.ownsRow 0 252 7 uv' l'.length (l'.flatMap uwC)) :
    SesAt (w1.setCell ⟨sb, 5, none⟩ uv') sb { V with uv := uv' } { S with under := l' } := by
  obtain ⟨n1, n2, n3, n4, _, n6, n7⟩ := h.own_ne
  have hk1 : ∀ b, V.has sb b → V.uv.ownBlock ≠ some b → w1.heap[b]? = w.heap[b]? := fun b hb hn => hB.block b (h.lt hb) (fun e => hn e.symm)
  have hk2 : ∀ b, b ≠ sb → (w1.setCell ⟨sb, 5, none⟩ uv').heap[b]? = w1.heap[b]? := fun b hb => Below.heap_setCell _ _ _ _ (fun e => hb e)
  have hblk := (hk1 sb (Or.inl rfl) n2).trans h.blk
  refine ⟨by rw [blk_set _ hblk]; rfl, own_keep h.fil (fun b hb => ?_), own_keep ho (fun b hb => hk2 b (fun e => ?_)), ?_, ?_⟩
  · exact (hk2 b (fun e => n1 (e ▸ hb))).trans (hk1 b (Or.inr (Or.inl hb)) (n6 b hb).1)
  · obtain ⟨cur, hc⟩ := own_blk ho hb; rw [e, hblk] at hc; simp at hc
  · obtain ⟨D, ⟨es, clock, hb, j1, j2, j3⟩, j4⟩ := h.kno
    exact ⟨D, ⟨es, clock, ((hk2 _ n3).trans (hk1 _ (Or.inr (Or.inr (Or.inl rfl))) (fun e => (n7 _ e).1 rfl))).trans hb, j1, j2, j3⟩, j4⟩
  · obtain ⟨s, r, hb⟩ := h.chn
    exact ⟨s, r, ((hk2 _ n4).trans (hk1 _ (Or.inr (Or.inr (Or.inr (Or.inl rfl)))) (fun e => (n7 _ e).2 rfl))).trans hb⟩
set_option maxHeartbeats 800000 in
/-- all behind the append -/
theorem begin_end {N0 : Nat} (sb B cb : Nat) (n idn : Int) (m : Msg) (d : List UInt8) (V : SesV) (S S2 : Ses) (BV : BrV) (ov : Value) (L : List (OutS × Value)) (w w2 w8 : World) (hs : SesAt w sb V S) (h : BlkAt w B BV ov L) (hE : EncOK N0 w (pktS m idn) d) (hV : ∀ b, V.has sb b → N0 ≤ b) (hS : SinkO w B cb n V.snd) (hL : L.length < 1000000000000)
    (hs2 : SesAt w2 sb V { S with last := idn }) (hF2 : But (fun b => b = sb) w w2) (hls : w.heap.size < w2.heap.size) (p0 : w2.cell? ⟨w.heap.size, 0, none⟩ = some (.string (bs m.topic))) (p1 : w2.cell? ⟨w.heap.size, 1, none⟩ = some (.string (bs m.payload))) (p2 : w2.cell? ⟨w.heap.size, 2, none⟩ = some (.int .i64 m.qos)) (p3 : w2.cell? ⟨w.heap.size, 3, none⟩ = some (.bool m.retain))
    (hg : w2.grownBy w8 V.uv.ownBlock) (hbm : w8.heap[w.heap.size]? = w2.heap[w.heap.size]?) (q' : Option Addr) (cap' : Nat) (how : w8.ownsRow 0 252 7 (.slice q' (S.under.length + 1) cap') (S.under.length + 1) (S.under.flatMap uwC ++ [.int .i64 idn, .int .i64 m.qos, .bool false, .string (bs m.topic), .string (bs m.payload), .int .i64 m.qos, .bool m.retain]))
    (hloc : (Value.slice q' (S.under.length + 1) cap').ownBlock = V.uv.ownBlock ∨ ∃ b, (Value.slice q' (S.under.length + 1) cap').ownBlock = some b ∧ w2.heap.size ≤ b) (hS2 : S2 = { S with last := idn, under := S.under ++ [⟨idn, m.qos, false, m⟩] })
    (u1 u2 u4 u5 u6 u7 u8 u9 u10 u11 u12 u13 u14 u15 u16 u17 u18 u19 u20 u21 u22 u23 u24 u25 u26 u27 u28 u29 u30 u31 u32 u33 : Value) :
    Code.wp Tryz.prog (dropS 3 (Tryz.f197.body.getD .skip)) (bodyPost Tryz.prog Tryz.f197 fun e w' => e = .returned (.tuple #[]) ∧ Wrote (V.has sb) w B BV ov L (outTo n V.snd [d]) w' ∧ ∃ uv', SesAt w' sb { V with uv := uv' } S2 ∧ (uv'.ownBlock = V.uv.ownBlock ∨ ∃ b, uv'.ownBlock = some b ∧ w.heap.size ≤ b)) ⟨#[.pointer (some ⟨sb, 0, none⟩), u1, u2, .pointer (some ⟨w.heap.size, 0, none⟩), u4, u5, u6, u7, u8, u9, u10, u11, u12, u13, u14, u15, u16, u17, u18, u19, u20, u21, u22, u23, u24, u25, u26, u27, u28, u29, u30, u31, u32, u33], []⟩ (w8.setCell ⟨sb, 5, none⟩ (.slice q' (S.under.length + 1) cap')) := by
  have hsz := hF2.size
  have hu9 : SesAt (w8.setCell ⟨sb, 5, none⟩ (.slice q' (S.under.length + 1) cap')) sb { V with uv := .slice q' (S.under.length + 1) cap' } S2 := by
    have := hs2.addUw (uv' := .slice q' (S.under.length + 1) cap') (l' := S.under ++ [⟨idn, m.qos, false, m⟩]) hg (by simpa [uwC] using how)
    rw [hS2]; exact this
  have hb9 : But (V.has sb) w (w8.setCell ⟨sb, 5, none⟩ (.slice q' (S.under.length + 1) cap')) :=
    (hF2.wide (fun _ _ e => Or.inl e)).trans ((But.of_grown (F := V.has sb) hg (fun b hb => Or.inr (Or.inr (Or.inr (Or.inr hb))))).trans (But.set _ ⟨sb, 5, none⟩ _ (Or.inl rfl)) (fun _ _ h => h)) (fun _ _ h => h)
  have hne : w.heap.size ≠ sb := by have := blk_lt hs.blk; omega
  have hkm : (w8.setCell ⟨sb, 5, none⟩ (.slice q' (S.under.length + 1) cap')).heap[w.heap.size]? = w2.heap[w.heap.size]? := (Below.heap_setCell _ _ _ _ (fun e => hne e)).trans hbm
  have hblk : BlkAt (w8.setCell ⟨sb, 5, none⟩ (.slice q' (S.under.length + 1) cap')) B BV ov L :=
    h.but hb9 (hs.clear h)
  refine begin_tail (N0 := N0) sb B cb w.heap.size n idn m d { V with uv := .slice q' (S.under.length + 1) cap' } S2 BV ov L _ _ ?_ hu9 hblk ?_ hL (by rw [hS2]) ?_ ?_ ?_ ?_ ?_ ?_ _ _ _ _ _ _ _ _ _ _ _ _ _ _ _ _ _ _ _ _ _ _ _ _ _ _ _ _ _ _ _ _
  · exact hE.but hb9 hV
  · exact hS.but hb9 (fun x y k => ⟨(k.free hs).1, (k.free hs).2.1, (k.free hs).2.2⟩)
  · rw [World.cell?_of_block (w := w2) hkm]; exact p0
  · rw [World.cell?_of_block (w := w2) hkm]; exact p1
  · rw [World.cell?_of_block (w := w2) hkm]; exact p2
  · rw [World.cell?_of_block (w := w2) hkm]; exact p3
  · rintro (e | e)
    · have := blk_lt h.blk; omega
    · obtain ⟨cur, hc⟩ := own_blk h.out.row e; have := blk_lt hc; omega
  · rintro w' ⟨ov', M, k1, k2, k3, k4, k5⟩
    have hs9 := hb9.size
    refine ⟨rfl, ⟨ov', M, k1, k2, (hb9.wide (fun _ _ f => Or.inl f)).trans k3 (fun b _ f => f.imp (fun g => g.elim) id), k4.imp id (fun ⟨b, e1, e2⟩ => ⟨b, e1, Nat.le_trans hs9 e2⟩), fun o ho b hb => Nat.le_trans hs9 (k5 o ho b hb)⟩, .slice q' (S.under.length + 1) cap', ?_, ?_⟩
    · exact hu9.but k3 (fun b hb f => f.elim id (fun g => hu9.apart hblk hb g))
    · exact hloc.imp id (fun ⟨b, e1, e2⟩ => ⟨b, e1, by omega⟩)

end Go.Proofs.YtnmfmoimjkoieaaGreatDoor.br

/- The caller's head: sure, by what the line's functions do. -/
namespace Go.Proofs.YtnmfmoimjkoieaaGreatDoor.br
open Go.RowKit Go.Proofs.YtnmfmoimjkoieaaGreatDoor.topPlain Go.Proofs.YtnmfmoimjkoieaaGreatDoor.topWalks Go.Proofs.YtnmfmoimjkoieaaGreatDoor.decPlain Go.Maps

/-- PUBLISH a/x hi, QoS 2, Id 9 -/
def hiS : Pkt := { zP with kind := 3, qos := 2, id := 9, topic := [97, 47, 120], payload := [104, 105] }
/-- what both have heard -/
structure Heard3 (w : World) (lb g0 c0 g1 c1 : Nat) (V : LineV) : Prop where
  line : LineAt w lb V
  bad : V.bad = false
  got0 : V.got 0 = .slice (some ⟨g0, 0, none⟩) 1 c0
  got1 : V.got 1 = .slice (some ⟨g1, 0, none⟩) 1 c1
  cap0 : 1 ≤ c0
  cap1 : 1 ≤ c1
  k0 : w.cell? ⟨g0, 0, none⟩ = some (.int .i64 3)
  q0 : w.cell? ⟨g0, 8, none⟩ = some (.int .i64 1)
  p0 : w.cell? ⟨g0, 11, none⟩ = some (.string (bs [104, 105]))
  i0 : w.cell? ⟨g0, 12, none⟩ = some (.int .i64 1)
  k1 : w.cell? ⟨g1, 0, none⟩ = some (.int .i64 5)
  i1 : w.cell? ⟨g1, 12, none⟩ = some (.int .i64 9)
  n0 : g0 ≠ lb
  n1 : g1 ≠ lb
set_option maxHeartbeats 1600000 in
set_option maxRecDepth 100000 in
theorem sure_any (w : World) (QA QB QC QD QE : Nat → World → Prop) (RR : World → Prop)
    (hOp : Calls Tryz.prog 22 #[.int .i64 1, .int .i64 1] w fun e w1 => ∃ lb, e = .returned (.pointer (some ⟨lb, 0, none⟩)) ∧ QA lb w1)
    (hJ1 : ∀ lb w1, QA lb w1 → Calls Tryz.prog 48 #[.pointer (some ⟨lb, 0, none⟩), .int .i64 0, .string (bs [99]), .bool false] w1 fun e w2 => ∃ v, e = .returned (.tuple #[v, .bool true]) ∧ QB lb w2)
    (hA : ∀ lb w2, QB lb w2 → Calls Tryz.prog 49 #[.pointer (some ⟨lb, 0, none⟩), .int .i64 0, .string (bs [97, 47, 43]), .int .i64 1] w2 fun e w3 => e = .returned (.bool true) ∧ QC lb w3)
    (hJ2 : ∀ lb w3, QC lb w3 → Calls Tryz.prog 48 #[.pointer (some ⟨lb, 0, none⟩), .int .i64 1, .string (bs [100]), .bool true] w3 fun e w4 => ∃ v, e = .returned (.tuple #[v, .bool true]) ∧ QD lb w4)
    (hS : ∀ lb w4, QD lb w4 → Calls Tryz.prog 50 #[.pointer (some ⟨lb, 0, none⟩), .int .i64 1, .agg (pkK hiS)] w4 fun e w5 => e = .returned (.tuple #[]) ∧ QE lb w5 ∧ ∃ g0 c0 g1 c1 V, Heard3 w5 lb g0 c0 g1 c1 V)
    (hC : ∀ lb w5 V, QE lb w5 → LineAt w5 lb V → Calls Tryz.prog 52 #[.pointer (some ⟨V.b, 0, none⟩), .int .i64 0] ((w5.setCell ⟨lb, 1, none⟩ (.slice none 0 0)).setCell ⟨lb, 2, none⟩ (.slice none 0 0)) fun e w' => ∃ g c, e = .returned (.tuple #[.slice (some ⟨g, 0, none⟩) 1 c, .int .i64 0]) ∧ 1 ≤ c ∧ w'.cell? ⟨g, 0, none⟩ = some (.int .i64 0) ∧ w'.cell? ⟨g, 2, none⟩ = some (.bool true) ∧ RR w') :
    Calls Tryz.prog 18 #[] w fun e w' => e = .returned (.bool true) ∧ RR w' := by
  have HOp := hide hOp
  have HJ1 := hide hJ1
  have HA := hide hA
  have HJ2 := hide hJ2
  have HS := hide hS
  have HC := hide hC
  simp only [pkK, hiS, zP] at HS
  clear hOp hJ1 hA hJ2 hS hC
  go_enter Tryz.func18, Tryz.ntmps18
  go_wp2_with fail
  refine HOp.out.mono ?_
  rintro e w1 ⟨lb, rfl, hQA⟩
  have HQA := hide hQA
  clear hQA
  go_wp2_with fail
  refine (HJ1.out _ _ HQA.out).mono ?_
  rintro e w2 ⟨v2, rfl, hQB⟩
  have HQB := hide hQB
  clear hQB
  go_wp2_with fail
  refine (HA.out _ _ HQB.out).mono ?_
  rintro e w3 ⟨rfl, hQC⟩
  have HQC := hide hQC
  clear hQC
  go_wp2_with fail
  refine (HJ2.out _ _ HQC.out).mono ?_
  rintro e w4 ⟨v4, rfl, hQD⟩
  have HQD := hide hQD
  clear hQD
  go_wp2_with fail
  refine (HS.out _ _ HQD.out).mono ?_
  rintro e w5 ⟨rfl, hQE, g0, c0, g1, c1, V, hH⟩
  have HQE := hide hQE
  have HH := hide hH
  have cH0 := hide (heard_any lb 0 V w5 hH.line (by omega) ⟨_, _, _, hH.got0⟩)
  rw [hH.got0] at cH0
  clear hQE hH
  go_wp2_with fail
  refine cH0.out.mono ?_
  rintro e w6 ⟨rfl, hw6, hl6⟩
  have cH1 := hide (heard_any lb 1 (V.setGot 0 (.slice none 0 0)) w6 hl6 (by omega) ⟨_, _, _, HH.out.got1⟩)
  rw [show (V.setGot 0 (.slice none 0 0)).got 1 = .slice (some ⟨g1, 0, none⟩) 1 c1 from HH.out.got1] at cH1
  have HW6 := hide hw6
  clear hw6 hl6 cH0
  go_wp2_with fail
  refine cH1.out.mono ?_
  rintro e w7 ⟨rfl, hw7, hl7⟩
  have hkp : ∀ g i x, g ≠ lb → w5.cell? ⟨g, i, none⟩ = some x → w7.cell? ⟨g, i, none⟩ = some x := fun g i x hg hx => by
    rw [hw7, World.cell?_of_block (w := w6) (Below.heap_setCell _ _ _ _ hg), HW6.out, World.cell?_of_block (w := w5) (Below.heap_setCell _ _ _ _ hg)]; exact hx
  have a0 := hkp _ _ _ HH.out.n0 HH.out.k0
  have a8 := hkp _ _ _ HH.out.n0 HH.out.q0
  have a11 : w7.cell? ⟨g0, 11, none⟩ = some (.string ⟨#[104, 105]⟩) := hkp _ _ _ HH.out.n0 HH.out.p0
  have a12 := hkp _ _ _ HH.out.n0 HH.out.i0
  have b0 := hkp _ _ _ HH.out.n1 HH.out.k1
  have b12 := hkp _ _ _ HH.out.n1 HH.out.i1
  have l17 : w7.cell? ⟨lb, 17, none⟩ = some (.bool false) := by rw [← HH.out.bad]; exact blk_cell hl7 rfl
  have l0 : w7.cell? ⟨lb, 0, none⟩ = some (.pointer (some ⟨V.b, 0, none⟩)) := blk_cell hl7 rfl
  have hc0 := HH.out.cap0
  have hc1 := HH.out.cap1
  have HW7 := hide hw7
  clear hw7 hl7 cH1 hkp
  go_wp2_with fail
  rw [HW7.out, HW6.out]
  refine (HC.out _ _ _ HQE.out HH.out.line).mono ?_
  rintro e w8 ⟨g, c, rfl, hcc, z0, z2, hRR⟩
  have HRR := hide hRR
  clear hRR
  go_wp2
  go_ret
  exact ⟨rfl, HRR.out⟩
end Go.Proofs.YtnmfmoimjkoieaaGreatDoor.br

/- The caller's line: opened. -/
namespace Go.Proofs.YtnmfmoimjkoieaaGreatDoor.br
open Go.RowKit Go.Proofs.YtnmfmoimjkoieaaGreatDoor.topPlain Go.Proofs.YtnmfmoimjkoieaaGreatDoor.topWalks Go.Proofs.YtnmfmoimjkoieaaGreatDoor.decPlain Go.Maps

set_option maxHeartbeats 800000 in
set_option maxRecDepth 100000 in
theorem opened_any (win que : Int) (w : World) (h1 : 1 ≤ win) (h2 : win ≤ 8) (h3 : 0 ≤ que) (h4 : que ≤ 8) :
    Calls Tryz.prog 22 #[.int .i64 win, .int .i64 que] w fun e w' => ∃ lb B mb, e = .returned (.pointer (some ⟨lb, 0, none⟩)) ∧ Below w.heap.size w w' ∧ w.heap.size ≤ B ∧ w.heap.size ≤ mb ∧ w.heap.size ≤ lb ∧ lb ≠ B ∧ lb ≠ mb ∧ LineAt w' lb ⟨B, fun _ => .slice none 0 0, fun _ => false, false⟩ ∧ BlkAt w' B ⟨win, que, fun _ => .pointer none, mb, .slice none 0 0, 0⟩ (.slice none 0 0) [] ∧ w'.ownsMap Tryz.prog 9 ptrElem mb 0 (.map []) := by
  have cN := hide fun w => new_any win que w h1 h2 h3 h4
  go_enter Tryz.func22, Tryz.ntmps22
  go_wp2_with fail
  refine (cN.out _).mono ?_
  rintro e w1 ⟨B, mb, rfl, hB1, hB, hmb, hblk, hmap⟩
  have HB1 := hide hB1
  have HBk := hide hblk
  have HMp := hide hmap
  have HlB := hide (show B < w1.heap.size from blk_lt hblk.blk)
  clear hB1 hblk hmap
  go_wp2_with fail
  go_ret
  have hA := (Below.refl w1.heap.size w1).alloc (Nat.le_refl _) (.cells (lineC ⟨B, fun _ => .slice none 0 0, fun _ => false, false⟩) 60)
  have hlm : mb < w1.heap.size := by obtain ⟨es, cl, k1, _⟩ := HMp.out; exact blk_lt k1
  have hs := HB1.out.size
  have hlB := HlB.out
  exact ⟨w1.heap.size, B, mb, rfl, HB1.out.trans (hA.mono hs), hB, hmb, hs, by omega, by omega, heap_alloc_new _ _, HBk.out.below hA, by obtain ⟨es, cl, k1, k2⟩ := HMp.out; exact ⟨es, cl, (hA.block _ (blk_lt k1)).trans k1, k2⟩⟩
end Go.Proofs.YtnmfmoimjkoieaaGreatDoor.br
