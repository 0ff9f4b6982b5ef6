import Derived.Test.YtnmfmoimjkoieaaGreatDoorK03
import Derived.Test.YtnmfmoimjkoieaaGreatDoorK22
import Derived.Test.YtnmfmoimjkoieaaGreatDoorK09
import Derived.Deep.RegionHeld3
import Derived.Deep.RegionWith
import Derived.Deep.LoopGhost
import Derived.Deep.RegionLawGrows
/- The caller's line: takes, where each of what came out is a whole packet. -/
namespace Go.Proofs.YtnmfmoimjkoieaaGreatDoor.br
open Go.RowKit Go.Proofs.YtnmfmoimjkoieaaGreatDoor.topPlain Go.Proofs.YtnmfmoimjkoieaaGreatDoor.topWalks Go.Proofs.YtnmfmoimjkoieaaGreatDoor.decPlain Go.Maps

theorem infoPkt : (Tryz.prog.info? 36).map (fun i => (i.zero, i.size, i.bytes)) = some (some (.agg #[.int .i64 0, .bool false, .bool false, .int .i64 0, .string ByteArray.empty, .bool false, .int .i64 0, .bool false, .int .i64 0, .bool false, .string ByteArray.empty, .string ByteArray.empty, .int .i64 0, .slice none 0 0, .slice none 0 0]), 15, 168) := by kernel_rfl
theorem outC_at {L : List (OutS × Value)} {k : Nat} {o : OutS × Value} (h : L[k]? = some o) : (outC L)[k * 3]? = some (.int .i64 o.1.conn) ∧ (outC L)[k * 3 + 1]? = some o.2 ∧ (outC L)[k * 3 + 2]? = some (.bool o.1.closed) := by
  induction L generalizing k with
  | nil => simp at h
  | cons a t ih =>
    cases k with
    | zero => simp at h; subst h; simp [outC]
    | succ k =>
      have := ih (k := k) (by simpa using h)
      simp only [outC, List.flatMap_cons] at this ⊢
      have e1 : (k + 1) * 3 = k * 3 + 3 := by omega
      rw [e1]
      simpa using this
/-- what stands ahead of round i -/
structure TakeIn (lb : Nat) (ov : Value) (L : List (OutS × Value)) (w : World) (o : OutS × Value) (n : Nat) (V : LineV) : Prop where
  line : LineAt w lb V
  outs : OutsAt w ov L
  conn : o.1.conn = (n : Int)
  lt : n < 2
  closed : o.1.closed = false
  off : V.off n = false
  got : V.got n = .slice none 0 0
  dat : ∃ q c, o.2 = .slice (some q) o.1.data.length c
  pos : 0 < o.1.data.length
set_option maxHeartbeats 800000 in
set_option maxRecDepth 100000 in
theorem takes_any (lb : Nat) (ov : Value) (L : List (OutS × Value)) (V : LineV) (w : World) (J : Nat → World → Prop) (D : Nat → Pkt → World → Prop) (hO : OutsAt w ov L) (h : LineAt w lb V) (hbad : V.bad = false) (hJ0 : J 0 (w.setCell ⟨lb, 17, none⟩ (.bool false)))
    (hD : ∀ i w' o, J i w' → L[i]? = some o → Calls Tryz.prog 20 #[o.2] w'.drew fun e w'' => ∃ (P : Pkt) (f1 : Option Addr) (f2 f3 : Nat) (c1 : Option Addr) (c2 c3 : Nat), P.fv = .slice f1 f2 f3 ∧ P.cv = .slice c1 c2 c3 ∧ e = .returned (.tuple #[.agg (pkK P), .int .i64 (o.1.data.length : Int), .int .i64 0]) ∧ Below w'.heap.size w' w'' ∧ D i P w'')
    (hN : ∀ i o (n : Nat) P w1 w8 v', L[i]? = some o → o.1.conn = (n : Int) → D i P w1 → Below w1.heap.size w1 w8 → w8.ownsRow w1.heap.size 36 15 v' 1 (pkK P).toList → J (i + 1) (w8.setCell ⟨lb, 1 + n, none⟩ v'))
    (hJ : ∀ i w' o, J i w' → L[i]? = some o → ∃ n V', TakeIn lb ov L w' o n V') :
    Calls Tryz.prog 65 #[.pointer (some ⟨lb, 0, none⟩), ov, .int .i64 0] w fun e w' => e = .returned (.tuple #[]) ∧ J L.length w' := by
  obtain ⟨q, kap, rfl⟩ := own_form hO.row
  have c17 : w.cell? ⟨lb, 17, none⟩ = some (.bool false) := by rw [← hbad]; exact blk_cell h rfl
  have f17 : w.frozen? ⟨lb, 17, none⟩ = false := blk_frozen h
  have HJ0 := hide hJ0
  have HJ := hide hJ
  have HD := hide hD
  have HNX := hide hN
  clear h hO hJ0 hJ hD hN
  go_enter Tryz.func65, Tryz.ntmps65
  go_wp2_with fail
  generalize w.setCell ⟨lb, 17, none⟩ (.bool false) = W0 at *
  go_loopw [6] (fun i wx => ∃ k : Nat, k ≤ L.length ∧ i = .int .i64 k ∧ J k wx) (fun i _ => L.length - (intOf i).toNat)
  case atStart => exact ⟨0, Nat.zero_le _, rfl, HJ0.out⟩
  case round =>
    obtain ⟨k, hk, rfl, hJk⟩ := hrel
    have HJK := hide hJk
    clear hJk
    by_cases hlt : k < L.length
    · obtain ⟨o, hoo⟩ : ∃ o, L[k]? = some o := ⟨_, List.getElem?_eq_getElem hlt⟩
      obtain ⟨n, V', hT⟩ := HJ.out k wr o HJK.out hoo
      obtain ⟨g, hqg, hg, hkc, hcm, hcell⟩ := own_at hT.outs.row (by omega)
      subst hqg
      unfold maxLen at hcm
      obtain ⟨oa, ob, oc⟩ := outC_at hoo
      have o0 : wr.cell? ⟨g, k * 3, none⟩ = some (.int .i64 (n : Int)) := by rw [← hT.conn]; exact hcell _ _ oa
      obtain ⟨dq, dc, hdv⟩ := hT.dat
      have o1 : wr.cell? ⟨g, k * 3 + 1, none⟩ = some (.slice (some dq) o.1.data.length dc) := by rw [← hdv]; exact hcell _ _ ob
      have o2 : wr.cell? ⟨g, k * 3 + 2, none⟩ = some (.bool false) := by rw [← hT.closed]; exact hcell _ _ oc
      have l9 : wr.cell? ⟨lb, 9 + n, none⟩ = some (.bool false) := by rw [← hT.off]; exact blk_cell hT.line (lineC_off V' (by have := hT.lt; omega))
      have hpos := hT.pos
      have HT := hide hT
      have HOO := hide hoo
      have HDV := hide hdv
      have cD := hide (HD.out k wr o HJK.out hoo)
      rw [hdv] at cD
      have e0 : ((o.1.data.length : Int) == 0) = false := by simp; intro h; rw [h] at hpos; simp at hpos
      clear hT hoo hdv oa ob oc hcell
      generalize o.1.data.length = dl at *
      have h01 : n = 0 ∨ n = 1 := by have := HT.out.lt; omega
      rcases h01 with rfl | rfl
      · have o0' : wr.cell? ⟨g, k * 3, none⟩ = some (.int .i64 0) := o0
        have l9' : wr.cell? ⟨lb, 9, none⟩ = some (.bool false) := l9
        clear o0 l9
        go_wp2_with fail
        go_region_held3 (fun w' => w'.cell? ⟨lb, 9, none⟩ = some (.bool false) ∧ w'.cell? ⟨g, k * 3 + 1, none⟩ = some (.slice (some dq) dl dc) ∧ w'.cell? ⟨g, k * 3 + 2, none⟩ = some (.bool false)) (go_keep) (fail)
        go_wp2_with fail
        refine cD.out.mono ?_
        rintro e w1 ⟨P, f1, f2, f3, c1, c2, c3, hPf, hPc, rfl, hB1, hDD⟩
        have q1 : w1.cell? ⟨g, k * 3 + 1, none⟩ = some (.slice (some dq) dl dc) := by rw [hB1.cell (cell_blt o1)]; exact o1
        have lg : w1.cell? ⟨lb, 1, none⟩ = some (.slice none 0 0) := by
          have := blk_cell HT.out.line (lineC_got V' (show 0 < 8 by omega))
          rw [HT.out.got] at this
          rw [hB1.cell (cell_blt this)]; exact this
        have hln : w1.heap[lb]? = some (.cells (lineC V') 60) := (hB1.block _ (blk_lt HT.out.line)).trans HT.out.line
        have fg : w1.frozen? ⟨lb, 1, none⟩ = false := blk_frozen hln
        have qA := fun o => alloc_cell q1 o
        have hg1 : g < w1.heap.size := cell_blt q1
        have hlb1 : lb < w1.heap.size := blk_lt hln
        obtain ⟨q0, k0, hq0⟩ : ∃ (q0 : Option Addr) (k0 : Nat), (Value.slice none 0 0) = .slice q0 0 k0 := ⟨_, _, rfl⟩
        have HRW : Hid (∀ W : World, W.ownsRow w1.heap.size 36 15 (.slice q0 0 k0) 0 []) := fun W => by rw [← hq0]; exact ⟨rfl, Or.inl ⟨rfl, rfl⟩⟩
        have HOB : Hid ((Value.slice q0 0 k0).ownBlock = none) := by rw [← hq0]; rfl
        rw [hq0] at lg
        clear hq0
        have fA : ∀ o, (w1.alloc o).frozen? ⟨lb, 1, none⟩ = false := fun o => by rw [World.frozen?_of_block (w := w1) (Below.heap_alloc _ _ _ hlb1)]; exact fg
        have lA := fun o => alloc_cell lg o
        have HLN := hide hln
        clear hln
        have hls := blk_lt HT.out.line
        have hsz1 := hB1.size
        simp only [pkK, hPf, hPc]
        have HB1 := hide hB1
        have HDD := hide hDD
        have HPf := hide hPf
        have HPc := hide hPc
        clear hB1 hDD hPf hPc o1 o2 l9' o0' cD
        go_wp2_with fail
        have hnw := heap_alloc_new w1 (.cells #[.int .i64 P.kind, .bool P.clean, .bool P.will, .int .i64 P.keep, .string (bs P.client), .bool P.present, .int .i64 P.code, .bool P.dup, .int .i64 P.qos, .bool P.retain, .string (bs P.topic), .string (bs P.payload), .int .i64 P.id, .slice f1 f2 f3, .slice c1 c2 c3] 36)
        have hA1 := (Below.refl w1.heap.size w1).alloc (Nat.le_refl _) (.cells #[.int .i64 P.kind, .bool P.clean, .bool P.will, .int .i64 P.keep, .string (bs P.client), .bool P.present, .int .i64 P.code, .bool P.dup, .int .i64 P.qos, .bool P.retain, .string (bs P.topic), .string (bs P.payload), .int .i64 P.id, .slice f1 f2 f3, .slice c1 c2 c3] 36)
        have lg' := lA (.cells #[.int .i64 P.kind, .bool P.clean, .bool P.will, .int .i64 P.keep, .string (bs P.client), .bool P.present, .int .i64 P.code, .bool P.dup, .int .i64 P.qos, .bool P.retain, .string (bs P.topic), .string (bs P.payload), .int .i64 P.id, .slice f1 f2 f3, .slice c1 c2 c3] 36)
        have fg' := fA (.cells #[.int .i64 P.kind, .bool P.clean, .bool P.will, .int .i64 P.keep, .string (bs P.client), .bool P.present, .int .i64 P.code, .bool P.dup, .int .i64 P.qos, .bool P.retain, .string (bs P.topic), .string (bs P.payload), .int .i64 P.id, .slice f1 f2 f3, .slice c1 c2 c3] 36)
        clear qA lA fA
        generalize w1.alloc (.cells #[.int .i64 P.kind, .bool P.clean, .bool P.will, .int .i64 P.keep, .string (bs P.client), .bool P.present, .int .i64 P.code, .bool P.dup, .int .i64 P.qos, .bool P.retain, .string (bs P.topic), .string (bs P.payload), .int .i64 P.id, .slice f1 f2 f3, .slice c1 c2 c3] 36) = W1 at *
        have p0 : W1.cell? ⟨w1.heap.size, 0, none⟩ = some (.int .i64 P.kind) := blk_cell hnw rfl
        have p1 : W1.cell? ⟨w1.heap.size, 1, none⟩ = some (.bool P.clean) := blk_cell hnw rfl
        have p2 : W1.cell? ⟨w1.heap.size, 2, none⟩ = some (.bool P.will) := blk_cell hnw rfl
        have p3 : W1.cell? ⟨w1.heap.size, 3, none⟩ = some (.int .i64 P.keep) := blk_cell hnw rfl
        have p4 : W1.cell? ⟨w1.heap.size, 4, none⟩ = some (.string (bs P.client)) := blk_cell hnw rfl
        have p5 : W1.cell? ⟨w1.heap.size, 5, none⟩ = some (.bool P.present) := blk_cell hnw rfl
        have p6 : W1.cell? ⟨w1.heap.size, 6, none⟩ = some (.int .i64 P.code) := blk_cell hnw rfl
        have p7 : W1.cell? ⟨w1.heap.size, 7, none⟩ = some (.bool P.dup) := blk_cell hnw rfl
        have p8 : W1.cell? ⟨w1.heap.size, 8, none⟩ = some (.int .i64 P.qos) := blk_cell hnw rfl
        have p9 : W1.cell? ⟨w1.heap.size, 9, none⟩ = some (.bool P.retain) := blk_cell hnw rfl
        have p10 : W1.cell? ⟨w1.heap.size, 10, none⟩ = some (.string (bs P.topic)) := blk_cell hnw rfl
        have p11 : W1.cell? ⟨w1.heap.size, 11, none⟩ = some (.string (bs P.payload)) := blk_cell hnw rfl
        have p12 : W1.cell? ⟨w1.heap.size, 12, none⟩ = some (.int .i64 P.id) := blk_cell hnw rfl
        have p13 : W1.cell? ⟨w1.heap.size, 13, none⟩ = some (.slice f1 f2 f3) := blk_cell hnw rfl
        have p14 : W1.cell? ⟨w1.heap.size, 14, none⟩ = some (.slice c1 c2 c3) := blk_cell hnw rfl
        have hlw := blk_lt hnw
        have hlbw : lb < W1.heap.size := cell_blt lg'
        have HA1 := hide hA1
        have HNW := hide hnw
        have HNN := hide (news_new W1 #[.int .i64 P.kind, .bool P.clean, .bool P.will, .int .i64 P.keep, .string (bs P.client), .bool P.present, .int .i64 P.code, .bool P.dup, .int .i64 P.qos, .bool P.retain, .string (bs P.topic), .string (bs P.payload), .int .i64 P.id, .slice f1 f2 f3, .slice c1 c2 c3] 36)
        have hA := fun o => alloc_cell lg' o
        obtain ⟨i0, hi0, hz0, hz1, hz2⟩ := info_parts infoPkt
        clear hA1 hnw q1 lg fg
        go_region_law (
          refine step_append_at rfl (.tmp 107) (.tmp 109) 56 rfl w1.heap.size 36 i0 (.agg #[.int .i64 0, .bool false, .bool false, .int .i64 0, .string ByteArray.empty, .bool false, .int .i64 0, .bool false, .int .i64 0, .bool false, .string ByteArray.empty, .string ByteArray.empty, .int .i64 0, .slice none 0 0, .slice none 0 0]) 15 168 Tryz.underlying56 hi0 hz0 hz1 hz2 rfl (by decide) (.slice q0 0 k0) 0 [] ?s1 ?s2 ⟨W1.heap.size, 0, none⟩ 1 1 [.int .i64 P.kind, .bool P.clean, .bool P.will, .int .i64 P.keep, .string (bs P.client), .bool P.present, .int .i64 P.code, .bool P.dup, .int .i64 P.qos, .bool P.retain, .string (bs P.topic), .string (bs P.payload), .int .i64 P.id, .slice f1 f2 f3, .slice c1 c2 c3] ?s3 rfl ?s4 ?s5 ?s6 ?s7 ?s8 ?_
          case s1 => simp [Act.eval]
          case s3 => simp [Act.eval]
          case s2 => exact HRW.out _
          case s4 => exact HNN.out
          case s5 => intro u hu; simp at hu; rcases hu with rfl | rfl | rfl | rfl | rfl | rfl | rfl | rfl | rfl | rfl | rfl | rfl | rfl | rfl | rfl <;> rfl
          case s6 => unfold maxLen; omega
          case s7 => omega
          case s8 => have := HA1.out.size; simp [World.drew]; omega
          intro v' w8 hown' hgrow hloc
          obtain ⟨q', cap', rfl⟩ := own_form hown'
          have hg8 := (But.of_grown (F := fun _ => False) hgrow (fun b hb => by rw [HOB.out] at hb; cases hb)).below'
          have hbk : w8.heap[lb]? = W1.heap[lb]? := (hg8.block lb (by simp; omega)).trans (Below.heap_alloc _ _ _ hlbw)
          have l8 : w8.cell? ⟨lb, 1, none⟩ = some (.slice q0 0 k0) := by rw [World.cell?_of_block (w := W1) hbk]; exact lg'
          have f8 : w8.frozen? ⟨lb, 1, none⟩ = false := by rw [World.frozen?_of_block (w := W1) hbk]; exact fg'
          have HOW := hide hown'
          have HG8 := hide hg8
          clear hown' hgrow hloc hg8 hbk)
        all_goals
          go_wp2_with fail
          have hB8 : Below w1.heap.size w1 w8 := by
            have hx := ((Below.refl W1.heap.size W1).alloc (Nat.le_refl _) (.cells #[.int .i64 P.kind, .bool P.clean, .bool P.will, .int .i64 P.keep, .string (bs P.client), .bool P.present, .int .i64 P.code, .bool P.dup, .int .i64 P.qos, .bool P.retain, .string (bs P.topic), .string (bs P.payload), .int .i64 P.id, .slice f1 f2 f3, .slice c1 c2 c3] 36))
            have hy : Below W1.heap.size W1 w8 := by
              first
                | exact hx.trans (HG8.out.mono hx.size)
                | exact hx.drew.trans (HG8.out.mono hx.size)
            exact HA1.out.trans (hy.mono HA1.out.size)
          refine ⟨⟨k + 1, by omega, by go_num, HNX.out k o 0 P w1 w8 _ HOO.out HT.out.conn HDD.out hB8 ?_⟩, by simp [intOf]; omega⟩
          simp only [pkK, HPf.out, HPc.out]
          exact HOW.out
      · have o0' : wr.cell? ⟨g, k * 3, none⟩ = some (.int .i64 1) := o0
        have l9' : wr.cell? ⟨lb, 10, none⟩ = some (.bool false) := l9
        clear o0 l9
        go_wp2_with fail
        go_region_held3 (fun w' => w'.cell? ⟨lb, 10, none⟩ = some (.bool false) ∧ w'.cell? ⟨g, k * 3 + 1, none⟩ = some (.slice (some dq) dl dc) ∧ w'.cell? ⟨g, k * 3 + 2, none⟩ = some (.bool false)) (go_keep) (fail)
        go_wp2_with fail
        refine cD.out.mono ?_
        rintro e w1 ⟨P, f1, f2, f3, c1, c2, c3, hPf, hPc, rfl, hB1, hDD⟩
        have q1 : w1.cell? ⟨g, k * 3 + 1, none⟩ = some (.slice (some dq) dl dc) := by rw [hB1.cell (cell_blt o1)]; exact o1
        have lg : w1.cell? ⟨lb, 2, none⟩ = some (.slice none 0 0) := by
          have := blk_cell HT.out.line (lineC_got V' (show 1 < 8 by omega))
          rw [HT.out.got] at this
          rw [hB1.cell (cell_blt this)]; exact this
        have hln : w1.heap[lb]? = some (.cells (lineC V') 60) := (hB1.block _ (blk_lt HT.out.line)).trans HT.out.line
        have fg : w1.frozen? ⟨lb, 2, none⟩ = false := blk_frozen hln
        have qA := fun o => alloc_cell q1 o
        have hg1 : g < w1.heap.size := cell_blt q1
        have hlb1 : lb < w1.heap.size := blk_lt hln
        obtain ⟨q0, k0, hq0⟩ : ∃ (q0 : Option Addr) (k0 : Nat), (Value.slice none 0 0) = .slice q0 0 k0 := ⟨_, _, rfl⟩
        have HRW : Hid (∀ W : World, W.ownsRow w1.heap.size 36 15 (.slice q0 0 k0) 0 []) := fun W => by rw [← hq0]; exact ⟨rfl, Or.inl ⟨rfl, rfl⟩⟩
        have HOB : Hid ((Value.slice q0 0 k0).ownBlock = none) := by rw [← hq0]; rfl
        rw [hq0] at lg
        clear hq0
        have fA : ∀ o, (w1.alloc o).frozen? ⟨lb, 2, none⟩ = false := fun o => by rw [World.frozen?_of_block (w := w1) (Below.heap_alloc _ _ _ hlb1)]; exact fg
        have lA := fun o => alloc_cell lg o
        have HLN := hide hln
        clear hln
        have hls := blk_lt HT.out.line
        have hsz1 := hB1.size
        simp only [pkK, hPf, hPc]
        have HB1 := hide hB1
        have HDD := hide hDD
        have HPf := hide hPf
        have HPc := hide hPc
        clear hB1 hDD hPf hPc o1 o2 l9' o0' cD
        go_wp2_with fail
        have hnw := heap_alloc_new w1 (.cells #[.int .i64 P.kind, .bool P.clean, .bool P.will, .int .i64 P.keep, .string (bs P.client), .bool P.present, .int .i64 P.code, .bool P.dup, .int .i64 P.qos, .bool P.retain, .string (bs P.topic), .string (bs P.payload), .int .i64 P.id, .slice f1 f2 f3, .slice c1 c2 c3] 36)
        have hA1 := (Below.refl w1.heap.size w1).alloc (Nat.le_refl _) (.cells #[.int .i64 P.kind, .bool P.clean, .bool P.will, .int .i64 P.keep, .string (bs P.client), .bool P.present, .int .i64 P.code, .bool P.dup, .int .i64 P.qos, .bool P.retain, .string (bs P.topic), .string (bs P.payload), .int .i64 P.id, .slice f1 f2 f3, .slice c1 c2 c3] 36)
        have lg' := lA (.cells #[.int .i64 P.kind, .bool P.clean, .bool P.will, .int .i64 P.keep, .string (bs P.client), .bool P.present, .int .i64 P.code, .bool P.dup, .int .i64 P.qos, .bool P.retain, .string (bs P.topic), .string (bs P.payload), .int .i64 P.id, .slice f1 f2 f3, .slice c1 c2 c3] 36)
        have fg' := fA (.cells #[.int .i64 P.kind, .bool P.clean, .bool P.will, .int .i64 P.keep, .string (bs P.client), .bool P.present, .int .i64 P.code, .bool P.dup, .int .i64 P.qos, .bool P.retain, .string (bs P.topic), .string (bs P.payload), .int .i64 P.id, .slice f1 f2 f3, .slice c1 c2 c3] 36)
        clear qA lA fA
        generalize w1.alloc (.cells #[.int .i64 P.kind, .bool P.clean, .bool P.will, .int .i64 P.keep, .string (bs P.client), .bool P.present, .int .i64 P.code, .bool P.dup, .int .i64 P.qos, .bool P.retain, .string (bs P.topic), .string (bs P.payload), .int .i64 P.id, .slice f1 f2 f3, .slice c1 c2 c3] 36) = W1 at *
        have p0 : W1.cell? ⟨w1.heap.size, 0, none⟩ = some (.int .i64 P.kind) := blk_cell hnw rfl
        have p1 : W1.cell? ⟨w1.heap.size, 1, none⟩ = some (.bool P.clean) := blk_cell hnw rfl
        have p2 : W1.cell? ⟨w1.heap.size, 2, none⟩ = some (.bool P.will) := blk_cell hnw rfl
        have p3 : W1.cell? ⟨w1.heap.size, 3, none⟩ = some (.int .i64 P.keep) := blk_cell hnw rfl
        have p4 : W1.cell? ⟨w1.heap.size, 4, none⟩ = some (.string (bs P.client)) := blk_cell hnw rfl
        have p5 : W1.cell? ⟨w1.heap.size, 5, none⟩ = some (.bool P.present) := blk_cell hnw rfl
        have p6 : W1.cell? ⟨w1.heap.size, 6, none⟩ = some (.int .i64 P.code) := blk_cell hnw rfl
        have p7 : W1.cell? ⟨w1.heap.size, 7, none⟩ = some (.bool P.dup) := blk_cell hnw rfl
        have p8 : W1.cell? ⟨w1.heap.size, 8, none⟩ = some (.int .i64 P.qos) := blk_cell hnw rfl
        have p9 : W1.cell? ⟨w1.heap.size, 9, none⟩ = some (.bool P.retain) := blk_cell hnw rfl
        have p10 : W1.cell? ⟨w1.heap.size, 10, none⟩ = some (.string (bs P.topic)) := blk_cell hnw rfl
        have p11 : W1.cell? ⟨w1.heap.size, 11, none⟩ = some (.string (bs P.payload)) := blk_cell hnw rfl
        have p12 : W1.cell? ⟨w1.heap.size, 12, none⟩ = some (.int .i64 P.id) := blk_cell hnw rfl
        have p13 : W1.cell? ⟨w1.heap.size, 13, none⟩ = some (.slice f1 f2 f3) := blk_cell hnw rfl
        have p14 : W1.cell? ⟨w1.heap.size, 14, none⟩ = some (.slice c1 c2 c3) := blk_cell hnw rfl
        have hlw := blk_lt hnw
        have hlbw : lb < W1.heap.size := cell_blt lg'
        have HA1 := hide hA1
        have HNW := hide hnw
        have HNN := hide (news_new W1 #[.int .i64 P.kind, .bool P.clean, .bool P.will, .int .i64 P.keep, .string (bs P.client), .bool P.present, .int .i64 P.code, .bool P.dup, .int .i64 P.qos, .bool P.retain, .string (bs P.topic), .string (bs P.payload), .int .i64 P.id, .slice f1 f2 f3, .slice c1 c2 c3] 36)
        have hA := fun o => alloc_cell lg' o
        obtain ⟨i0, hi0, hz0, hz1, hz2⟩ := info_parts infoPkt
        clear hA1 hnw q1 lg fg
        go_region_law (
          refine step_append_at rfl (.tmp 107) (.tmp 109) 56 rfl w1.heap.size 36 i0 (.agg #[.int .i64 0, .bool false, .bool false, .int .i64 0, .string ByteArray.empty, .bool false, .int .i64 0, .bool false, .int .i64 0, .bool false, .string ByteArray.empty, .string ByteArray.empty, .int .i64 0, .slice none 0 0, .slice none 0 0]) 15 168 Tryz.underlying56 hi0 hz0 hz1 hz2 rfl (by decide) (.slice q0 0 k0) 0 [] ?s1 ?s2 ⟨W1.heap.size, 0, none⟩ 1 1 [.int .i64 P.kind, .bool P.clean, .bool P.will, .int .i64 P.keep, .string (bs P.client), .bool P.present, .int .i64 P.code, .bool P.dup, .int .i64 P.qos, .bool P.retain, .string (bs P.topic), .string (bs P.payload), .int .i64 P.id, .slice f1 f2 f3, .slice c1 c2 c3] ?s3 rfl ?s4 ?s5 ?s6 ?s7 ?s8 ?_
          case s1 => simp [Act.eval]
          case s3 => simp [Act.eval]
          case s2 => exact HRW.out _
          case s4 => exact HNN.out
          case s5 => intro u hu; simp at hu; rcases hu with rfl | rfl | rfl | rfl | rfl | rfl | rfl | rfl | rfl | rfl | rfl | rfl | rfl | rfl | rfl <;> rfl
          case s6 => unfold maxLen; omega
          case s7 => omega
          case s8 => have := HA1.out.size; simp [World.drew]; omega
          intro v' w8 hown' hgrow hloc
          obtain ⟨q', cap', rfl⟩ := own_form hown'
          have hg8 := (But.of_grown (F := fun _ => False) hgrow (fun b hb => by rw [HOB.out] at hb; cases hb)).below'
          have hbk : w8.heap[lb]? = W1.heap[lb]? := (hg8.block lb (by simp; omega)).trans (Below.heap_alloc _ _ _ hlbw)
          have l8 : w8.cell? ⟨lb, 2, none⟩ = some (.slice q0 0 k0) := by rw [World.cell?_of_block (w := W1) hbk]; exact lg'
          have f8 : w8.frozen? ⟨lb, 2, none⟩ = false := by rw [World.frozen?_of_block (w := W1) hbk]; exact fg'
          have HOW := hide hown'
          have HG8 := hide hg8
          clear hown' hgrow hloc hg8 hbk)
        all_goals
          go_wp2_with fail
          have hB8 : Below w1.heap.size w1 w8 := by
            have hx := ((Below.refl W1.heap.size W1).alloc (Nat.le_refl _) (.cells #[.int .i64 P.kind, .bool P.clean, .bool P.will, .int .i64 P.keep, .string (bs P.client), .bool P.present, .int .i64 P.code, .bool P.dup, .int .i64 P.qos, .bool P.retain, .string (bs P.topic), .string (bs P.payload), .int .i64 P.id, .slice f1 f2 f3, .slice c1 c2 c3] 36))
            have hy : Below W1.heap.size W1 w8 := by
              first
                | exact hx.trans (HG8.out.mono hx.size)
                | exact hx.drew.trans (HG8.out.mono hx.size)
            exact HA1.out.trans (hy.mono HA1.out.size)
          refine ⟨⟨k + 1, by omega, by go_num, HNX.out k o 1 P w1 w8 _ HOO.out HT.out.conn HDD.out hB8 ?_⟩, by simp [intOf]; omega⟩
          simp only [pkK, HPf.out, HPc.out]
          exact HOW.out
    · go_wp2
      go_end0
      have hkl : k = L.length := by omega
      subst hkl
      exact ⟨rfl, HJK.out⟩
end Go.Proofs.YtnmfmoimjkoieaaGreatDoor.br
