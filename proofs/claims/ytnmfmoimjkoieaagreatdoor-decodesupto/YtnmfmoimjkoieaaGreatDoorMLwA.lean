/- Small functions of package courantlaw: num, digit, hand. courantlaw.lent: the bytes of a text in new memory, with two places behind them. The caller's book in package courantlaw: lists that came out, and bytes that were handed in, each as the caller wrote it; what leaves it as it is. -/
import Derived.Test.YtnmfmoimjkoieaaGreatDoorMTopH
import Derived.Lib.BufferWrite
import Derived.Deep.OwnRows
import Derived.Deep.WholeRow
import Derived.Test.YtnmfmoimjkoieaaGreatDoorMRdK
namespace Go.Proofs.YtnmfmoimjkoieaaGreatDoor.lw
open Go.RowKit Go.Proofs.YtnmfmoimjkoieaaGreatDoor.topPlain Go.Proofs.YtnmfmoimjkoieaaGreatDoor.topWalks

set_option maxHeartbeats 400000 in
theorem num_any (e : Int) (w : World) : Calls Tryz.prog 38 #[.int .i64 e] w fun r w' => r = .returned (.int .i64 e) ∧ w' = w := by
  go_enter Tryz.func38, Tryz.ntmps38
  go_wp2
  go_ret
  exact ⟨rfl, rfl⟩

theorem ret_int {k : IntKind} {a b : Int} (h : a = b) : Ending.returned (.int k a) = .returned (.int k b) := by rw [h]
/-- the i-th byte of the n-th list -/
def digitN (n i : Nat) : Nat := 1 + n / 250 ^ (i % 3) % 250
theorem digitN_lt (n i : Nat) : digitN n i < 256 := by
  unfold digitN
  have := Nat.mod_lt (n / 250 ^ (i % 3)) (show 0 < 250 by decide)
  omega

set_option maxHeartbeats 800000 in
set_option maxRecDepth 100000 in
theorem digit_any (n i : Nat) (w : World) (hn : n ≤ 4611686018427387904) (hi : i ≤ 4611686018427387904) :
    Calls Tryz.prog 39 #[.int .i64 (n : Int), .int .i64 (i : Int)] w fun r w' => r = .returned (.int .u8 (digitN n i : Int)) ∧ w' = w := by
  have hm : i % 3 < 3 := Nat.mod_lt _ (by decide)
  have hdm : (i : Int) % 3 = ((i % 3 : Nat) : Int) := by omega
  unfold digitN
  generalize i % 3 = c at *
  go_enter Tryz.func39, Tryz.ntmps39
  go_wp2
  go_loop [0, 5] (fun t k => ∃ j m : Nat, j ≤ c ∧ k = .int .i64 (j : Int) ∧ t = .int .i64 (m : Int) ∧ m ≤ 4611686018427387904 ∧ m / 250 ^ j = n / 250 ^ c) (fun _ k => (intOf k).toNat)
  case atStart => exact ⟨c, n, Nat.le_refl _, by rw [hdm], rfl, hn, rfl⟩
  case round =>
    obtain ⟨j, m, hj, rfl, rfl, hml, hmd⟩ := hrel
    have HMD := hide hmd
    clear hmd
    cases j with
    | zero =>
      have hd : m = n / 250 ^ c := by have := HMD.out; simpa using this
      have HD := hide hd
      clear hd
      go_wp2
      go_ret
      have hd := HD.out
      subst hd
      exact ⟨ret_int (by push_cast; rfl), rfl⟩
    | succ j =>
      go_wp2
      go_round
      case rel => exact ⟨j, m / 250, by omega, by go_num, by go_num, by omega, by rw [← HMD.out, Nat.div_div_eq_div_mul, Nat.pow_succ, Nat.mul_comm]⟩
      case measure => simp [intOf]

set_option maxHeartbeats 400000 in
theorem hand_none (v : Value) (s : ByteArray) (w : World) (h : s.size = 0) : Calls Tryz.prog 32 #[v, .string s] w fun r w' => r = .returned (.slice none 0 0) ∧ w' = w := by
  have hz : ((s.size : Int) == 0) = true := beq_iff_eq.2 (by omega)
  clear h
  go_enter Tryz.func32, Tryz.ntmps32
  go_wp2
  go_ret
  exact ⟨rfl, rfl⟩
set_option maxHeartbeats 400000 in
theorem hand_some (b cap n : Nat) (s : ByteArray) (w : World) (h : 0 < s.size) (hn : s.size ≤ n) (hc : n ≤ cap) :
    Calls Tryz.prog 32 #[.slice (some ⟨b, 0, none⟩) n cap, .string s] w fun r w' => r = .returned (.slice (some ⟨b, 0, none⟩) s.size cap) ∧ w' = w := by
  have hz : ((s.size : Int) == 0) = false := beq_eq_false_iff_ne.2 (by omega)
  go_enter Tryz.func32, Tryz.ntmps32
  go_wp2
  go_ret
  exact ⟨rfl, rfl⟩
end Go.Proofs.YtnmfmoimjkoieaaGreatDoor.lw

namespace Go.Proofs.YtnmfmoimjkoieaaGreatDoor.lw
open Go.RowKit Go.Proofs.YtnmfmoimjkoieaaGreatDoor.topPlain Go.Proofs.YtnmfmoimjkoieaaGreatDoor.topWalks

theorem infoU8 : (Tryz.prog.info? 5).map (fun i => (i.zero, i.size, i.bytes)) = some (some (.int .u8 0), 1, 1) := by kernel_rfl
theorem infoU8s : (Tryz.prog.info? 5).map (·.size) = some 1 := by kernel_rfl
/-- the i-th byte -/
def lentF (l : List UInt8) (i : Nat) : Value := if i < l.length then .int .u8 ((l.getD i 0).toNat : Int) else if i = l.length then .int .u8 252 else .int .u8 253

set_option maxHeartbeats 800000 in
set_option maxRecDepth 100000 in
theorem lent_any (s : ByteArray) (w : World) (hs : s.size ≤ 1099511627776) :
    Calls Tryz.prog 31 #[.string s] w fun e w' => e = .returned (.slice (some ⟨w.heap.size, 0, none⟩) (s.size + 2) (s.size + 2)) ∧ w'.rowIs w.heap.size 5 (s.size + 2) (lentF s.data.toList) ∧ Below w.heap.size w w' ∧ w'.heap.size = w.heap.size + 1 := by
  have hmk : ∀ w, (Instr.makeSlice 45 (.int .i64 ((s.size : Int) + 2)) (.int .i64 ((s.size : Int) + 2))).run Tryz.prog w = .ok (.slice (some ⟨w.heap.size, 0, none⟩) (s.size + 2) (s.size + 2)) (w.alloc (.cells (madeCells #[.int .u8 0] (s.size + 2)) 5)) := fun w => by
    have h := run_make_row' (P := Tryz.prog) 45 5 (.int .u8 0) 1 Tryz.underlying45 infoU8 rfl .i64 .i64 (s.size + 2) (by omega) (by omega) w
    rw [show ((s.size + 2 : Nat) : Int) = (s.size : Int) + 2 by omega] at h
    exact h
  have hcp := Lib.run_copy_row_string (P := Tryz.prog) (w.alloc (.cells (madeCells #[.int .u8 0] (s.size + 2)) 5)) 45 9 3 5 w.heap.size 0 (s.size + 2) (s.size + 2) s (madeCells #[.int .u8 0] (s.size + 2)) 5 Tryz.underlying45 infoU8s (Go.Deep.blk_alloc_new _ _) (by omega) (by rw [size_madeCells]; omega)
  rw [World.setRow_alloc_new] at hcp
  have hsz : s.size = s.data.toList.length := Lib.size_eq s
  obtain ⟨W2, hW2⟩ : ∃ W2, W2 = w.alloc (.cells (List.take 0 (madeCells #[Value.int .u8 0] (s.size + 2)).toList ++ Lib.byteCells s.data.toList ++ List.drop (0 + s.size) (madeCells #[Value.int .u8 0] (s.size + 2)).toList).toArray 5) := ⟨_, rfl⟩
  rw [← hW2] at hcp
  have hR2 : W2.rowIs w.heap.size 5 (s.size + 2) (fun i => if i < s.size then .int .u8 ((s.data.toList.getD i 0).toNat : Int) else .int .u8 0) := by
    rw [hW2]
    refine ⟨_, Go.Deep.blk_alloc_new _ _, ?_, fun i hi => ?_⟩
    · have : (madeCells #[Value.int .u8 0] (s.size + 2)).size = s.size + 2 := size_madeCells _ _
      simp [Lib.byteCells_length, this]
    · have hm : (madeCells #[Value.int .u8 0] (s.size + 2)).size = s.size + 2 := size_madeCells _ _
      rw [List.getElem?_toArray, List.take_zero, List.nil_append]
      show _ = some (if i < s.size then Value.int .u8 ((s.data.toList.getD i 0).toNat : Int) else .int .u8 0)
      by_cases hlt : i < s.size
      · rw [if_pos hlt, List.getElem?_append_left (by rw [Lib.byteCells_length]; omega)]
        have : s.data.toList[i]? = some (s.data.toList.getD i 0) := by
          rw [List.getD_eq_getElem?_getD, List.getElem?_eq_getElem (by omega)]; rfl
        simp only [Lib.byteCells, List.getElem?_map, this, Option.map_some]
      · rw [if_neg hlt, List.getElem?_append_right (by rw [Lib.byteCells_length]; omega), Lib.byteCells_length, List.getElem?_drop]
        have he : 0 + s.size + (i - s.data.toList.length) = i := by omega
        rw [he]
        simp [madeCells, hi, Nat.mod_one]
  have hB2 : Below w.heap.size w W2 := by rw [hW2]; exact (Below.refl _ _).alloc (Nat.le_refl _) _
  have hS2 : W2.heap.size = w.heap.size + 1 := by rw [hW2]; simp
  have HR2 := hide hR2
  have HB2 := hide hB2
  have k1 := hR2.cell (i := s.size) (by omega)
  have f1 := hR2.frozen s.size
  have hR3 := hR2.set s.size (.int .u8 252)
  have HR4 := hide (hR3.set (s.size + 1) (.int .u8 253))
  have k2 := hR3.cell (i := s.size + 1) (by omega)
  have f2 := hR3.frozen (s.size + 1)
  simp only [Nat.lt_irrefl, if_false] at k1
  simp only [show ¬(s.size + 1 = s.size) by omega, if_false, show ¬(s.size + 1 < s.size) by omega] at k2
  have HSZ := hide hsz
  clear hR2 hR3 hB2 hW2 hsz
  go_enter Tryz.func31, Tryz.ntmps31
  go_wp2_with fail
  go_ret
  have hsz := HSZ.out
  refine ⟨rfl, ?_, ?_, ?_⟩
  · refine HR4.out.congr fun i hi => ?_
    unfold lentF
    by_cases h1 : i = s.size + 1
    · rw [if_pos h1, if_neg (by omega), if_neg (by omega)]
    · rw [if_neg h1]
      by_cases h2 : i = s.size
      · rw [if_pos h2, if_neg (by omega), if_pos (by omega)]
      · rw [if_neg h2, if_pos (by omega), if_pos (by omega)]
  · exact (HB2.out.setCell (Nat.le_refl _) _).setCell (Nat.le_refl _) _
  · simp [hS2]
end Go.Proofs.YtnmfmoimjkoieaaGreatDoor.lw

namespace Go.Proofs.YtnmfmoimjkoieaaGreatDoor.lw
open Go.RowKit Go.Proofs.YtnmfmoimjkoieaaGreatDoor.topPlain Go.Proofs.YtnmfmoimjkoieaaGreatDoor.topWalks Go.Proofs.YtnmfmoimjkoieaaGreatDoor.decPlain Go.Proofs.YtnmfmoimjkoieaaGreatDoor.rd

/-- lists, each cell of which is as it was written -/
def Held (w : World) (sz : Nat) (f : Nat → Nat → Value) (xs : List Value) (out : Nat → Prop) : Prop :=
  ∀ (i : Nat) u, xs[i]? = some u → ∃ ad n c, u = .slice ad n c ∧ n ≤ 1099511627780 ∧ (n = 0 ∨ ∃ g, ad = some ⟨g, 0, none⟩ ∧ out g ∧ g < w.heap.size ∧ ∀ j, j < n * sz → w.cell? ⟨g, j, none⟩ = some (f i j))
def subF (i j : Nat) : Value := if j % 2 = 0 then .string ⟨#[]⟩ else .int .i64 (-1 - ((i / 4 * 4 : Nat) : Int))
def codF (i _j : Nat) : Value := .int .i64 (-1 - ((i / 4 * 4 : Nat) : Int))
def turF (_i _j : Nat) : Value := .int .u8 251
/-- a block that holds no part of the book itself -/
def OutB (bw : Nat) (vs vc vt : Value) (g : Nat) : Prop := g ≠ bw ∧ vs.ownBlock ≠ some g ∧ vc.ownBlock ≠ some g ∧ vt.ownBlock ≠ some g

structure Wd (w : World) (bw : Nat) (vs vc vt : Value) (ss cc tt : List Value) : Prop where
  blk : w.heap[bw]? = some (.cells #[.slice none 0 0, .slice none 0 0, .slice none 0 0, vs, vc, vt, .slice none 0 0, .slice none 0 0] 29)
  os : w.ownsRow (bw + 1) 33 1 vs ss.length ss
  oc : w.ownsRow (bw + 1) 34 1 vc cc.length cc
  ot : w.ownsRow (bw + 1) 45 1 vt tt.length tt
  n1 : ∀ b, vs.ownBlock = some b → vc.ownBlock ≠ some b
  n2 : ∀ b, vs.ownBlock = some b → vt.ownBlock ≠ some b
  n3 : ∀ b, vc.ownBlock = some b → vt.ownBlock ≠ some b
  hs : Held w 2 subF ss (OutB bw vs vc vt)
  hc : Held w 1 codF cc (OutB bw vs vc vt)
  ht : Held w 1 turF tt (OutB bw vs vc vt)
  ls : ss.length ≤ 1000
  lc : cc.length ≤ 1000
  lt : tt.length ≤ 1000
  hd : ∀ u, u ∈ ss ∨ u ∈ cc ∨ u ∈ tt → ∀ b, u.ownBlock = some b → b < w.heap.size

/-- a block that the book does not touch -/
def Free (bw : Nat) (vs vc vt : Value) (ss cc tt : List Value) (b : Nat) : Prop := OutB bw vs vc vt b ∧ ∀ u, u ∈ ss ∨ u ∈ cc ∨ u ∈ tt → u.ownBlock ≠ some b
theorem Held.keep {w w' : World} {sz : Nat} {f : Nat → Nat → Value} {xs : List Value} {out out' : Nat → Prop} (h : Held w sz f xs out) (hs : w.heap.size ≤ w'.heap.size) (ho : ∀ u g, u ∈ xs → u.ownBlock = some g → out g → g < w.heap.size → out' g ∧ w'.heap[g]? = w.heap[g]?) : Held w' sz f xs out' := by
  intro i u hu
  obtain ⟨ad, n, c, e, hn, hh⟩ := h i u hu
  refine ⟨ad, n, c, e, hn, ?_⟩
  rcases hh with h0 | ⟨g, e1, hog, hl, hc⟩
  · exact Or.inl h0
  · obtain ⟨k1, k2⟩ := ho u g (List.mem_of_getElem? hu) (by rw [e, e1]; rfl) hog hl
    exact Or.inr ⟨g, e1, k1, by omega, fun j hj => by rw [World.cell?_of_block (w := w) k2]; exact hc j hj⟩
theorem Wd.below {w w' : World} {bw : Nat} {vs vc vt : Value} {ss cc tt : List Value} (h : Wd w bw vs vc vt ss cc tt) (hb : Below w.heap.size w w') : Wd w' bw vs vc vt ss cc tt :=
  ⟨(hb.block _ (Array.getElem?_eq_some_iff.1 h.blk).1).trans h.blk, own_below h.os hb, own_below h.oc hb, own_below h.ot hb, h.n1, h.n2, h.n3, h.hs.keep hb.size (fun _ g _ _ o hl => ⟨o, hb.block g hl⟩), h.hc.keep hb.size (fun _ g _ _ o hl => ⟨o, hb.block g hl⟩), h.ht.keep hb.size (fun _ g _ _ o hl => ⟨o, hb.block g hl⟩), h.ls, h.lc, h.lt, fun u hu b e => Nat.lt_of_lt_of_le (h.hd u hu b e) hb.size⟩
theorem Wd.lt' {w : World} {bw : Nat} {vs vc vt : Value} {ss cc tt : List Value} (h : Wd w bw vs vc vt ss cc tt) : bw < w.heap.size := (Array.getElem?_eq_some_iff.1 h.blk).1
theorem wd_cells {w : World} {bw : Nat} {v0 v1 v2 v3 v4 v5 v6 v7 : Value} (h : w.heap[bw]? = some (.cells #[v0, v1, v2, v3, v4, v5, v6, v7] 29)) : w.cell? ⟨bw, 0, none⟩ = some v0 ∧ w.cell? ⟨bw, 1, none⟩ = some v1 ∧ w.cell? ⟨bw, 2, none⟩ = some v2 ∧ w.cell? ⟨bw, 3, none⟩ = some v3 ∧ w.cell? ⟨bw, 4, none⟩ = some v4 ∧ w.cell? ⟨bw, 5, none⟩ = some v5 ∧ w.cell? ⟨bw, 6, none⟩ = some v6 ∧ w.cell? ⟨bw, 7, none⟩ = some v7 := by
  refine ⟨?_, ?_, ?_, ?_, ?_, ?_, ?_, ?_⟩
  all_goals simp [World.cell?, h]
/-- a new block is free -/
theorem Wd.free {w : World} {bw : Nat} {vs vc vt : Value} {ss cc tt : List Value} (h : Wd w bw vs vc vt ss cc tt) {b : Nat} (hb : w.heap.size ≤ b) : Free bw vs vc vt ss cc tt b :=
  ⟨⟨by have := h.lt'; omega, fun e => by have := (h.os.lt b e).2; omega, fun e => by have := (h.oc.lt b e).2; omega, fun e => by have := (h.ot.lt b e).2; omega⟩, fun u hu e => by have := h.hd u hu b e; omega⟩
/-- an element of a list of the book -/
theorem own_elem {w : World} {B : Nat} {e : TypeId} {v : Value} {xs : List Value} (h : w.ownsRow B e 1 v xs.length xs) (i : Nat) (u : Value) (hu : xs[i]? = some u) : ∃ g cap, v = .slice (some ⟨g, 0, none⟩) xs.length cap ∧ g < w.heap.size ∧ w.cell? ⟨g, i, none⟩ = some u := by
  have hi : i < xs.length := (List.getElem?_eq_some_iff.1 hu).1
  rcases h.2 with ⟨_, h0⟩ | ⟨g, cap, cur, e1, _, hh, h1, _, h3, h4⟩
  · omega
  · refine ⟨g, cap, e1, (Array.getElem?_eq_some_iff.1 hh).1, ?_⟩
    have h5 : cur.toList[i]? = some u := by
      rw [← hu, ← h4, List.getElem?_take_of_lt (by omega)]
    simp [World.cell?, hh]
    simpa using h5

set_option maxHeartbeats 3200000 in
set_option maxRecDepth 100000 in
theorem handed_any (w : World) (bw : Nat) (vs vc vt : Value) (ss cc tt : List Value) (h : Wd w bw vs vc vt ss cc tt) :
    Calls Tryz.prog 40 #[.pointer (some ⟨bw, 0, none⟩)] w fun e w' => e = .returned (.bool true) ∧ ∃ n, w' = w.drewN n := by
  obtain ⟨c0, c1, c2, c3, c4, c5, c6, c7⟩ := wd_cells h.blk
  clear h c0 c1 c2 c3 c4 c5
  go_enter Tryz.func40, Tryz.ntmps40
  go_wp2_with fail
  go_loopw [3] (fun i wx => i = .int .i64 0 ∧ ∃ n, wx = w.drewN n) (fun _ _ => 0)
  case atStart => exact ⟨rfl, 0, rfl⟩
  case round =>
    obtain ⟨rfl, n, rfl⟩ := hrel
    go_wp2
    go_ret
    exact ⟨rfl, n, rfl⟩
end Go.Proofs.YtnmfmoimjkoieaaGreatDoor.lw
