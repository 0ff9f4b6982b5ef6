import Derived.Test.YtnmfmoimjkoieaaGreatDoorJ18
import Derived.Test.YtnmfmoimjkoieaaGreatDoorJ20
import Derived.Test.YtnmfmoimjkoieaaGreatDoorJ22
import Derived.Deep.QuietTactic
import Derived.BigQuiet
/- courantlaw.encodes, its second half: the lists that were handed in are held against those that came in, turned over, and stand in the caller's book; then all lists are looked at, and the bytes that came out are kept. -/
namespace Go.Proofs.YtnmfmoimjkoieaaGreatDoor.lb
open Go.RowKit Go.Proofs.YtnmfmoimjkoieaaGreatDoor.topPlain Go.Proofs.YtnmfmoimjkoieaaGreatDoor.topWalks Go.Proofs.YtnmfmoimjkoieaaGreatDoor.decPlain Go.Proofs.YtnmfmoimjkoieaaGreatDoor.rd Go.Proofs.YtnmfmoimjkoieaaGreatDoor.lw
open Go.Proofs.YtnmfmoimjkoieaaGreatDoor.rfe (FilX IntX)

theorem infoFils : (Tryz.prog.info? 33).map (fun i => (i.zero, i.size, i.bytes)) = some (some (.slice none 0 0), 1, 24) := by kernel_rfl
theorem infoIntl : (Tryz.prog.info? 34).map (fun i => (i.zero, i.size, i.bytes)) = some (some (.slice none 0 0), 1, 24) := by kernel_rfl
def dropSeqE : Nat → Code → Code
  | 0, c => c
  | n + 1, .seq _ c => dropSeqE n c
  | _, c => c
/-- blocks that the book does not touch may be written into -/
theorem Book.keep {w w' : World} {bw : Nat} {sv : Value} {v : Nat → Value} {xs : Nat → List Value} {T : Nat → Prop} (h : Book w bw sv v xs) (hT : ∀ b, T b → Free7 bw v xs b) (hs : w.heap.size ≤ w'.heap.size) (hk : ∀ b, b < w.heap.size → ¬ T b → w'.heap[b]? = w.heap[b]?) : Book w' bw sv v xs := by
  have hno : ∀ b, ¬ Free7 bw v xs b → ¬ T b := fun b h1 h2 => h1 (hT b h2)
  refine ⟨(hk bw h.lt' (hno _ (fun f => f.1.1 rfl))).trans h.blk, fun k hk7 => ?_, h.ne, fun k hk7 => (h.held k hk7).keep hs (fun u g hu hub ho hl => ⟨ho, hk g hl (hno _ (fun f => f.2 k hk7 u hu hub))⟩), h.len, fun k hk7 u hu b e => Nat.lt_of_lt_of_le (h.hd k hk7 u hu b e) hs⟩
  have hu := h.own k hk7
  refine ⟨hu.1, ?_⟩
  rcases hu.2 with h1 | ⟨g, cap, cur, e1, g1, g2, g3⟩
  · exact Or.inl h1
  · have hgo : (v k).ownBlock = some g := by rw [e1]; rfl
    exact Or.inr ⟨g, cap, cur, e1, g1, (hk g (hu.lt g hgo).2 (hno _ (fun f => f.1.2 k hk7 hgo))).trans g2, g3⟩
/-- the cells of the lists that are handed in: what came in, a place more -/
def filO (fs : List (List UInt8 × Int)) (j : Nat) : Value := (filC fs ++ [Value.string ⟨#[]⟩, Value.int .i64 0]).getD j (.bool false)
def intO (cs : List Int) (j : Nat) : Value := (ints cs ++ [Value.int .i64 0]).getD j (.bool false)
theorem filO_at {fs : List (List UInt8 × Int)} {k : Nat} {f : List UInt8 × Int} (h : fs[k]? = some f) : filO fs (k * 2) = .string (bs f.1) ∧ filO fs (k * 2 + 1) = .int .i64 f.2 := by
  have hk : k < fs.length := (List.getElem?_eq_some_iff.1 h).1
  obtain ⟨a, b⟩ := lw.filC_get fs k f h
  unfold filO
  rw [List.getD_eq_getElem?_getD, List.getD_eq_getElem?_getD, List.getElem?_append_left (by rw [filC_length]; omega), List.getElem?_append_left (by rw [filC_length]; omega), a, b]
  exact ⟨rfl, rfl⟩
theorem intO_at {cs : List Int} {k : Nat} {c : Int} (h : cs[k]? = some c) : intO cs k = .int .i64 c := by
  have hk : k < cs.length := (List.getElem?_eq_some_iff.1 h).1
  unfold intO
  rw [List.getD_eq_getElem?_getD, List.getElem?_append_left (by simp [ints]; omega)]
  simp [ints, h]
theorem grown_drewN {w w' : World} {r : Option Nat} (h : w.grownBy w' r) (n : Nat) : w.grownBy (w'.drewN n) r := ⟨h.os, h.tape, h.output, h.size, h.block⟩
theorem rowIs_drewN {w : World} {g n : Nat} {e : TypeId} {f : Nat → Value} (h : w.rowIs g e n f) (k : Nat) : (w.drewN k).rowIs g e n f := h

theorem filO_last (fs : List (List UInt8 × Int)) : filO fs (fs.length * 2) = .string ⟨#[]⟩ ∧ filO fs (fs.length * 2 + 1) = .int .i64 0 := by
  unfold filO
  rw [List.getD_eq_getElem?_getD, List.getD_eq_getElem?_getD, List.getElem?_append_right (by rw [filC_length]; omega), List.getElem?_append_right (by rw [filC_length]; omega), filC_length]
  simp
theorem intO_last (cs : List Int) : intO cs cs.length = .int .i64 0 := by
  unfold intO
  rw [List.getD_eq_getElem?_getD, List.getElem?_append_right (by simp [ints])]
  simp [ints]
theorem rowIs_own2 {w : World} {C : Nat} {e : TypeId} {g n sz : Nat} {f F : Nat → Value} (h : w.rowIs g e (n * sz) f) (hC : C ≤ g) (hm : n ≤ maxLen) (hf : ∀ j, j < n * sz → f j = F j) : w.ownsRow C e sz (.slice (some ⟨g, 0, none⟩) n n) n (fillL F (n * sz)) := by
  obtain ⟨cur, hb, hs, hc⟩ := h
  refine ⟨by rw [fillL_length], Or.inr ⟨g, n, cur, rfl, hC, hb, Nat.le_refl _, hm, hs, ?_⟩⟩
  apply List.ext_getElem?
  intro j
  by_cases hj : j < n * sz
  · rw [List.getElem?_take_of_lt (by omega), fillL_get F hj, Array.getElem?_toList, hc j hj, hf j hj]
  · rw [List.getElem?_eq_none (by simp; omega), List.getElem?_eq_none (by rw [fillL_length]; omega)]
theorem cell_one_setG (t : TypeId) (w : World) (b o : Nat) (v x : Value) : ∀ j u, [x][j]? = some u → ((w.setCell ⟨b, o, none⟩ v).alloc (.cells #[x] t)).cell? ((⟨w.heap.size, 0, none⟩ : Addr).add j) = some u := by
  have h := cell_one_new (w.setCell ⟨b, o, none⟩ v) x t
  rw [show (w.setCell ⟨b, o, none⟩ v).heap.size = w.heap.size by simp [World.setCell]] at h
  exact h
/-- a list of the caller's own, as it stands, ahead of its being put on shelf c -/
theorem Kk.start {w : World} {bw C n c : Nat} {e : TypeId} {sz : Nat} {f : Nat → Value} {sv : Value} {v : Nat → Value} {xs : Nat → List Value} {u : Value} (h : Book w bw sv v xs) (hc : In7 c) (hu : w.ownsRow C e sz u n (fillL f (n * sz))) (hC : bw < C) (hfr : ∀ b, u.ownBlock = some b → Free7 bw v xs b) : Kk w w bw C n 0 0 c e sz f sv v (v c) u u (xs c) [] :=
  ⟨by rw [upd_self]; exact h.blk, by rw [List.append_nil]; exact h.own c hc, hu, rfl, fun b e e2 => (hfr b e2).1.2 c hc e, fun b e => Or.inl e, fun b e => Or.inl e, fun x hx => by simp at hx, fun _ _ _ _ _ => rfl, fun x hx => by simp at hx, hC, Nat.le_refl _, rfl, rfl, rfl⟩
/-- the row of filters behind k of them turned over -/
def filT (fs : List (List UInt8 × Int)) (k j : Nat) : Value := if j < k * 2 then givF 0 j else filO fs j
def intT (cs : List Int) (k j : Nat) : Value := if j < k then .int .i64 (-7) else intO cs j

set_option maxHeartbeats 3200000 in
set_option maxRecDepth 100000 in
theorem enc_tail (w wx : World) (bw bp bl bc C nb : Nat) (sv : Value) (v : Nat → Value) (xs : Nat → List Value) (fs : List (List UInt8 × Int)) (cs : List Int) (qf qc : Option Addr) (kf kc : Nat) (vb : Value) (yb : List Value)
    (hBk : Book wx bw sv v xs) (hbw : Below bw w wx) (hbpl : bp ≠ bl) (hbpc : bp ≠ bc) (hblc : bl ≠ bc) (hbl : bw < bl) (hbc : bw < bc) (hbls : bl < wx.heap.size) (hbcs : bc < wx.heap.size) (hfl : fs.length ≤ 1048576) (hcl : cs.length ≤ 1048576)
    (c13 : wx.cell? ⟨bp, 13, none⟩ = some (.slice qf fs.length kf)) (c14 : wx.cell? ⟨bp, 14, none⟩ = some (.slice qc cs.length kc))
    (hf : ∀ (j : Nat) f, fs[j]? = some f → ∃ g o, qf = some ⟨g, o, none⟩ ∧ g ≠ bl ∧ g ≠ bc ∧ wx.cell? ⟨g, o + j * 2, none⟩ = some (.string (bs f.1)) ∧ wx.cell? ⟨g, o + j * 2 + 1, none⟩ = some (.int .i64 f.2))
    (hc : ∀ (j : Nat) c, cs[j]? = some c → ∃ g o, qc = some ⟨g, o, none⟩ ∧ g ≠ bl ∧ g ≠ bc ∧ wx.cell? ⟨g, o + j, none⟩ = some (.int .i64 c))
    (hrl : wx.rowIs bl 95 ((fs.length + 1) * 2) (filO fs)) (hrc : wx.rowIs bc 3 (cs.length + 1) (intO cs)) (hFl : Free7 bw v xs bl) (hFc : Free7 bw v xs bc)
    (hvb : wx.ownsRow C 5 1 vb nb yb) (hCb : bw < C) (hCs : C ≤ wx.heap.size) (hFb : ∀ b, vb.ownBlock = some b → Free7 bw v xs b ∧ b ≠ bl ∧ b ≠ bc) (hnb : nb ≤ 1000000000000)
    (hgs : (xs 7).length = (xs 6).length) (h2 : xs 2 = []) (h14 : (xs 1).length % 4 = 0) (h19 : (xs 1).length + 4 ≤ 4000000000000) (h69 : (xs 6).length + 1 ≤ 4000000000000) (u1 u2 u4 u7 u9 u10 u11 u12 u14 u15 u16 u17 u18 u19 u20 u21 u22 u23 u24 u25 u26 u27 u28 u29 u30 u31 u32 u33 u34 u35 u36 u37 u38 u39 u40 u41 u42 u43 u44 u45 u46 u47 u48 u49 u50 u51 u52 u53 u54 u55 u56 u57 u58 u59 u60 u61 u62 u63 u64 u65 u66 u67 u68 u69 u70 u71 u72 u73 u74 u75 u76 u77 u78 u79 u80 u81 u82 u83 u84 u85 u86 u87 u88 u89 u90 u91 u92 u93 u94 u95 u96 u97 u98 u99 u100 u101 u102 u103 u104 u105 u106 u107 u108 u109 u110 u111 u112 u113 u114 u115 u116 u117 u118 u119 u120 u121 u122 u123 u124 u125 u126 u127 u128 u129 u130 u131 u132 u133 u134 u135 u136 u137 u138 u139 u140 u141 u142 u143 u144 u145 u146 u147 u148 u149 u150 u151 u152 u153 u154 u155 u156 u157 u158 u159 u160 u161 u162 u163 u164 u165 u166 u167 u168 u169 u170 u171 u172 u173 u174 u175 u176 u177 u178 u179 u180 u181 u182 u183 u184 u185 u186 u187 u188 u189 u190 u191 u192 u193 u194 u195 u196 u197 u198 u199 u200 u201 u202 u203 u204 u205 u206 u207 : Value) :
    Code.wp Tryz.prog (dropSeqE 13 (Tryz.f14.body.getD .skip)) (bodyPost Tryz.prog Tryz.f14 (fun e w' => e = .returned (.bool true) ∧ Below bw w w' ∧ ∃ v' xs', Book w' bw sv v' xs' ∧ (xs' 1).length = (xs 1).length + 4 ∧ (xs' 6).length = (xs 6).length + 1 ∧ (xs' 7).length = (xs 7).length + 1 ∧ xs' 2 = [])) ⟨#[.pointer (some ⟨bw, 0, none⟩), u1, u2, .pointer (some ⟨bp, 0, none⟩), u4, .slice (some ⟨bl, 0, none⟩) (fs.length + 1) (fs.length + 1), .slice (some ⟨bc, 0, none⟩) (cs.length + 1) (cs.length + 1), u7, vb, u9, u10, u11, u12, .bool true, u14, u15, u16, u17, u18, u19, u20, u21, u22, u23, u24, u25, u26, u27, u28, u29, u30, u31, u32, u33, u34, u35, u36, u37, u38, u39, u40, u41, u42, u43, u44, u45, u46, u47, u48, u49, u50, u51, u52, u53, u54, u55, u56, u57, u58, u59, u60, u61, u62, u63, u64, u65, u66, u67, u68, u69, u70, u71, u72, u73, u74, u75, u76, u77, u78, u79, u80, u81, u82, u83, u84, u85, u86, u87, u88, u89, u90, u91, u92, u93, u94, u95, u96, u97, u98, u99, u100, u101, u102, u103, u104, u105, u106, u107, u108, u109, u110, u111, u112, u113, u114, u115, u116, u117, u118, u119, u120, u121, u122, u123, u124, u125, u126, u127, u128, u129, u130, u131, u132, u133, u134, u135, u136, u137, u138, u139, u140, u141, u142, u143, u144, u145, u146, u147, u148, u149, u150, u151, u152, u153, u154, u155, u156, u157, u158, u159, u160, u161, u162, u163, u164, u165, u166, u167, u168, u169, u170, u171, u172, u173, u174, u175, u176, u177, u178, u179, u180, u181, u182, u183, u184, u185, u186, u187, u188, u189, u190, u191, u192, u193, u194, u195, u196, u197, u198, u199, u200, u201, u202, u203, u204, u205, u206, u207], []⟩ wx := by
  have HBK := hide hBk
  have HBW := hide hbw
  have HF := hide hf
  have HC := hide hc
  have HRC := hide hrc
  have HFL := hide hFl
  have HFC := hide hFc
  have HVB := hide hvb
  have HFB := hide hFb
  have HGS := hide hgs
  have H2 := hide h2
  obtain ⟨pb, cb, rfl⟩ := own_form1 hvb
  clear hBk hbw hf hc hrc hFl hFc hvb hFb hgs h2
  conv => arg 2; whnf
  go_wp2_with fail
  go_loopw [13, 14] (fun ok i wr => ∃ k : Nat, k ≤ fs.length + 1 ∧ ok = .bool true ∧ i = .int .i64 k ∧ wx.grownBy wr (some bl) ∧ wr.rowIs bl 95 ((fs.length + 1) * 2) (filT fs k)) (fun _ i _ => fs.length + 1 - (intOf i).toNat)
  case atStart => exact ⟨0, Nat.zero_le _, rfl, rfl, grown_refl _ _, hrl.congr (fun j _ => by simp [filT])⟩
  case round =>
    obtain ⟨k, hk, rfl, rfl, hg, hrow⟩ := hrel
    by_cases hlt : k < fs.length + 1
    · have q1 := hrow.cell (i := k * 2) (by omega)
      have q2 := hrow.cell (i := k * 2 + 1) (by omega)
      have f1 := hrow.frozen (k * 2)
      have f2 := hrow.frozen (k * 2 + 1)
      have e1 : filT fs k (k * 2) = filO fs (k * 2) := by unfold filT; rw [if_neg (by omega)]
      have e2 : filT fs k (k * 2 + 1) = filO fs (k * 2 + 1) := by unfold filT; rw [if_neg (by omega)]
      rw [e1] at q1
      rw [e2] at q2
      have d13 : wr.cell? ⟨bp, 13, none⟩ = some (.slice qf fs.length kf) := hg.cell c13 (by simp; exact hbpl)
      have hlti : (k : Int) < (fs.length : Int) + 1 := by omega
      have HG := hide hg
      have HROW := hide hrow
      clear hg hrow e1 e2
      have HR2 := hide fun n => ((rowIs_drewN HROW.out n).set (k * 2) (.string ⟨#[116, 117, 114, 110, 101, 100]⟩)).set (k * 2 + 1) (.int .i64 0)
      have HG2 := hide fun n => grown_trans (grown_trans (grown_drewN HG.out n) (grown_set _ bl (k * 2) (.string ⟨#[116, 117, 114, 110, 101, 100]⟩))) (grown_set _ bl (k * 2 + 1) (.int .i64 0))
      have HCG : Hid (∀ j, (if j = k * 2 + 1 then Value.int .i64 0 else if j = k * 2 then .string ⟨#[116, 117, 114, 110, 101, 100]⟩ else filT fs k j) = filT fs (k + 1) j) := fun j => by
        by_cases h1 : j = k * 2 + 1
        · rw [if_pos h1]
          unfold filT givF
          rw [if_pos (by omega), if_neg (by omega)]
        · rw [if_neg h1]
          by_cases h2 : j = k * 2
          · rw [if_pos h2]
            unfold filT givF
            rw [if_pos (by omega), if_pos (by omega)]
            rfl
          · rw [if_neg h2]
            unfold filT
            by_cases h3 : j < k * 2
            · rw [if_pos h3, if_pos (by omega)]
            · rw [if_neg h3, if_neg (by omega)]
      by_cases hlast : k = fs.length
      · subst hlast
        have hb1 : ((fs.length : Int) == (fs.length : Int)) = true := by simp
        obtain ⟨a1, a2⟩ := filO_last fs
        rw [a1] at q1
        rw [a2] at q2
        clear a1 a2
        go_wp2
        go_quiet (fail)
        go_wp2
        go_roundw
        case rel => exact ⟨fs.length + 1, by omega, rfl, by go_num, HG2.out _, (HR2.out _).congr (fun j _ => HCG.out j)⟩
        case measure => simp [intOf]
      · have hb1 : ((k : Int) == (fs.length : Int)) = false := beq_eq_false_iff_ne.2 (by omega)
        obtain ⟨f, hf⟩ : ∃ f, fs[k]? = some f := ⟨_, List.getElem?_eq_getElem (by omega)⟩
        obtain ⟨g, o, rfl, hgl, hgc, m1, m2⟩ := HF.out k f hf
        have m1' : wr.cell? ⟨g, o + k * 2, none⟩ = some (.string (bs f.1)) := HG.out.cell m1 (by simp; exact hgl)
        have m2' : wr.cell? ⟨g, o + k * 2 + 1, none⟩ = some (.int .i64 f.2) := HG.out.cell m2 (by simp; exact hgl)
        obtain ⟨a1, a2⟩ := filO_at hf
        rw [a1] at q1
        rw [a2] at q2
        have hltf : (k : Int) < (fs.length : Int) := by omega
        clear a1 a2 m1 m2 hf
        go_wp2
        go_quiet (fail)
        go_wp2
        go_roundw
        case rel => exact ⟨k + 1, by omega, rfl, by go_num, HG2.out _, (HR2.out _).congr (fun j _ => HCG.out j)⟩
        case measure => simp [intOf]; omega
    · have hke : k = fs.length + 1 := by omega
      subst hke
      have HG := hide hg
      have hrow1 : wr.rowIs bl 95 ((fs.length + 1) * 2) (givF 0) := hrow.congr (fun j hj => by unfold filT; rw [if_pos hj])
      have HROW := hide hrow1
      have d14 : wr.cell? ⟨bp, 14, none⟩ = some (.slice qc cs.length kc) := hg.cell c14 (by simp; exact hbpl)
      have hrc1 : wr.rowIs bc 3 (cs.length + 1) (intO cs) := HRC.out.of_block (hg.block bc hbcs (by simp; exact fun e => hblc e.symm))
      have hnl : ¬ ((fs.length : Int) + 1 < (fs.length : Int) + 1) := by omega
      clear hg hrow hrow1 c13 c14 hlt
      go_wp2_with fail
      clear hnl
      generalize hwa : wr = wa at *
      clear hwa
      go_loopw [13, 15] (fun ok i wr => ∃ k : Nat, k ≤ cs.length + 1 ∧ ok = .bool true ∧ i = .int .i64 k ∧ wa.grownBy wr (some bc) ∧ wr.rowIs bc 3 (cs.length + 1) (intT cs k)) (fun _ i _ => cs.length + 1 - (intOf i).toNat)
      case atStart => exact ⟨0, Nat.zero_le _, rfl, rfl, grown_refl _ _, hrc1.congr (fun j _ => by simp [intT])⟩
      case round =>
        obtain ⟨k, hk, rfl, rfl, hg, hrow⟩ := hrel
        by_cases hlt : k < cs.length + 1
        · have q1 := hrow.cell (i := k) (by omega)
          have f1 := hrow.frozen k
          have e1 : intT cs k k = intO cs k := by unfold intT; rw [if_neg (by omega)]
          rw [e1] at q1
          have d14' : wr.cell? ⟨bp, 14, none⟩ = some (.slice qc cs.length kc) := hg.cell d14 (by simp; exact hbpc)
          have hlti : (k : Int) < (cs.length : Int) + 1 := by omega
          have HGc := hide hg
          have HR2 := hide fun n => (rowIs_drewN hrow n).set k (.int .i64 (-7))
          have HG2 := hide fun n => grown_trans (grown_drewN hg n) (grown_set _ bc k (.int .i64 (-7)))
          have HCG : Hid (∀ j, (if j = k then Value.int .i64 (-7) else intT cs k j) = intT cs (k + 1) j) := fun j => by
            by_cases h1 : j = k
            · rw [if_pos h1]
              unfold intT
              rw [if_pos (by omega)]
            · rw [if_neg h1]
              unfold intT
              by_cases h3 : j < k
              · rw [if_pos h3, if_pos (by omega)]
              · rw [if_neg h3, if_neg (by omega)]
          clear hg hrow e1
          by_cases hlast : k = cs.length
          · subst hlast
            have hb1 : ((cs.length : Int) == (cs.length : Int)) = true := by simp
            rw [intO_last cs] at q1
            go_wp2
            go_quiet (fail)
            go_wp2
            go_roundw
            case rel => exact ⟨cs.length + 1, by omega, rfl, by go_num, HG2.out _, (HR2.out _).congr (fun j _ => HCG.out j)⟩
            case measure => simp [intOf]
          · have hb1 : ((k : Int) == (cs.length : Int)) = false := beq_eq_false_iff_ne.2 (by omega)
            obtain ⟨f, hf⟩ : ∃ f, cs[k]? = some f := ⟨_, List.getElem?_eq_getElem (by omega)⟩
            obtain ⟨g, o, rfl, hgl, hgc, m1⟩ := HC.out k f hf
            have m1' : wr.cell? ⟨g, o + k, none⟩ = some (.int .i64 f) := HGc.out.cell (HG.out.cell m1 (by simp; exact hgl)) (by simp; exact hgc)
            rw [intO_at hf] at q1
            have hltf : (k : Int) < (cs.length : Int) := by omega
            clear m1 hf
            go_wp2
            go_quiet (fail)
            go_wp2
            go_roundw
            case rel => exact ⟨k + 1, by omega, rfl, by go_num, HG2.out _, (HR2.out _).congr (fun j _ => HCG.out j)⟩
            case measure => simp [intOf]; omega
        · have hke : k = cs.length + 1 := by omega
          subst hke
          have hsa := HG.out.size
          have hsb := hg.size
          have hkeep : ∀ b, b < wx.heap.size → ¬ (b = bl ∨ b = bc) → wr.heap[b]? = wx.heap[b]? := fun b hb hn => (hg.block b (by omega) (by simp; exact fun e => hn (Or.inr e))).trans (HG.out.block b hb (by simp; exact fun e => hn (Or.inl e)))
          have hBb : Book wr bw sv v xs := HBK.out.keep (T := fun b => b = bl ∨ b = bc) (fun b hb => by rcases hb with rfl | rfl; exact HFL.out; exact HFC.out) (by omega) hkeep
          have hBelow : Below bw w wr := HBW.out.trans ⟨hg.os.trans HG.out.os, hg.tape.trans HG.out.tape, hg.output.trans HG.out.output, by omega, fun b hb => hkeep b (by omega) (by omega)⟩
          have hrl2 : wr.rowIs bl 95 ((fs.length + 1) * 2) (givF 0) := HROW.out.of_block (hg.block bl (by omega) (by simp; exact hblc))
          have hrc2 : wr.rowIs bc 3 ((cs.length + 1) * 1) (sumF 0) := by rw [Nat.mul_one]; exact hrow.congr (fun j hj => by unfold intT sumF; rw [if_pos hj])
          have hvb2 : wr.ownsRow C 5 1 (.slice pb nb cb) nb yb := by
            refine ⟨HVB.out.1, ?_⟩
            rcases HVB.out.2 with h0 | ⟨g, cap, cur, e1, g1, g2, g3⟩
            · exact Or.inl h0
            · have := HFB.out g (by rw [e1]; rfl)
              exact Or.inr ⟨g, cap, cur, e1, g1, (hkeep g (Array.getElem?_eq_some_iff.1 g2).1 (by omega)).trans g2, g3⟩
          have hown6 := hBb.own 6 ⟨by omega, by omega⟩
          obtain ⟨p6, m6, q6, e6⟩ := rd.own_slice hown6
          obtain ⟨_, _, _, _, _, _, d6, _⟩ := hBb.cells
          have hK0 := Kk.start hBb (c := 6) ⟨by omega, by omega⟩ (rowIs_own2 (C := bw + 1) (F := givF 0) hrl2 (by omega) (by unfold maxLen; omega) (fun _ _ => rfl)) (by omega) (fun b e => by have := Option.some.inj e; simp at this; rw [← this]; exact HFL.out)
          rw [e6] at hown6 d6 hK0
          obtain ⟨i0, hi, hz0, hz1, hz2⟩ := info_parts infoFils
          obtain ⟨i1, hj, hy0, hy1, hy2⟩ := info_parts infoIntl
          have HOL := hide (rowIs_own2 (C := bw + 1) (F := givF 0) hrl2 (by omega) (by unfold maxLen; omega) (fun _ _ => rfl))
          have HK0 := hide hK0
          have HBB := hide hBb
          have HBL := hide hBelow
          have HVB2 := hide hvb2
          have HRC2 := hide hrc2
          have E6 := hide e6
          have hbl6 := hBb.lt'
          have hnl : ¬ ((cs.length : Int) + 1 < (cs.length : Int) + 1) := by omega
          have HO6 := hide hown6
          clear hK0 hBb hBelow hvb2 hrc2 hrl2 hkeep e6 hown6 hg hrow d14 hrc1 hlt hrl
          go_wp2_with (first
            | (at_builtin; refine wpList_append_keep _ rfl _ _ 26 rfl (bw + 1) 33 i0 (.slice none 0 0) 1 24 Tryz.underlying26 hi hz0 hz1 hz2 rfl (by decide) _ (xs 6).length (xs 6) rfl (HO6.out.alloc _) ⟨wr.heap.size, 0, none⟩ 1 1 (by decide) [.slice (some ⟨bl, 0, none⟩) (fs.length + 1) (fs.length + 1)] rfl rfl (cell_one_new _ _ _) (fun u hu => by rw [List.mem_singleton.1 hu]; rfl) (by unfold maxLen; omega) (by omega) (by simp; omega) ?_))
          intro u1 w3 hown1 hgrow1 hat1
          have hvb6 : (Value.slice p6 m6 q6).ownBlock ≠ some bw := fun e => by have := (HO6.out.lt bw e).1; omega
          have hK1 := HK0.out.put ⟨by omega, by omega⟩ (by rw [List.append_nil]; exact hown1) hgrow1 (hat1.imp (fun e => e) (fun e => ⟨by rw [e.1]; simp, e.2⟩))
          have hK1' : Kk wr (w3.setCell ⟨bw, 6, none⟩ u1) bw (bw + 1) (fs.length + 1) 1 0 6 95 2 (givF 0) sv v u1 (.slice (some ⟨bl, 0, none⟩) (fs.length + 1) (fs.length + 1)) (.slice (some ⟨bl, 0, none⟩) (fs.length + 1) (fs.length + 1)) (xs 6) [(.slice (some ⟨bl, 0, none⟩) (fs.length + 1) (fs.length + 1))] := hK1
          have hB1 := Kk.book HBB.out (c := 6) ⟨by omega, by omega⟩ hK1' rfl (fun i j _ _ => rfl) HOL.out (fun b e => by have := Option.some.inj e; simp at this; rw [← this]; exact HFL.out) (by omega) h69
          have hb3 : w3.heap[bw]? = _ := (hgrow1.block bw (by simp; omega) (fun e => hvb6 e.symm)).trans ((Below.heap_alloc _ _ _ hbl6).trans HBB.out.blk)
          obtain ⟨_, _, _, _, _, _, d6', d7'⟩ := wd_cells hb3
          have f6' : w3.frozen? ⟨bw, 6, none⟩ = false := by simp [World.frozen?, hb3]
          have f7' : w3.frozen? ⟨bw, 7, none⟩ = false := by simp [World.frozen?, hb3]
          have hs3 : wr.heap.size < w3.heap.size := Nat.lt_of_lt_of_le (by simp) hgrow1.size
          obtain ⟨hB1, hkp1, hbe1⟩ := hB1
          have hown7 := hB1.own 7 ⟨by omega, by omega⟩
          rw [upd_other _ _ (by omega), upd_other _ _ (by omega)] at hown7
          obtain ⟨p7, m7, q7, e7⟩ := rd.own_slice hown7
          rw [e7] at hown7 d7'
          obtain ⟨g1, cap1, rfl⟩ := own_form hown1 (by omega)
          obtain ⟨kc1, kc2⟩ := hkp1 bc (by omega) HFC.out (fun e => hblc (Option.some.inj e))
          have hrc3 := HRC2.out.of_block kc1
          have hK07 := Kk.start hB1 (c := 7) ⟨by omega, by omega⟩ (rowIs_own2 (C := bw + 1) (F := sumF 0) hrc3 (by omega) (by unfold maxLen; omega) (fun _ _ => rfl)) (by omega) (fun b e => by have := Option.some.inj e; simp at this; rw [← this]; exact kc2)
          rw [upd_other _ _ (by omega), upd_other _ _ (by omega), e7] at hK07
          have HOC := hide (rowIs_own2 (C := bw + 1) (F := sumF 0) hrc3 (by omega) (by unfold maxLen; omega) (fun _ _ => rfl))
          have HKC2 := hide kc2
          have HK07 := hide hK07
          have HB1 := hide hB1
          have HKP1 := hide hkp1
          have HBE1 := hide hbe1
          have HO7 := hide hown7
          have E7 := hide e7
          clear hK1 hK1' hB1 hkp1 hbe1 hown7 e7 hb3 hK07 kc1 kc2 hrc3 hown1 hgrow1 hat1 d6
          go_wp2_with (first
            | (at_builtin; refine wpList_append_keep _ rfl _ _ 27 rfl (bw + 1) 34 i1 (.slice none 0 0) 1 24 Tryz.underlying27 hj hy0 hy1 hy2 rfl (by decide) _ (xs 7).length (xs 7) rfl (HO7.out.alloc _) ⟨w3.heap.size, 0, none⟩ 1 1 (by decide) [.slice (some ⟨bc, 0, none⟩) (cs.length + 1) (cs.length + 1)] rfl rfl (cell_one_setG _ _ _ _ _ _) (fun u hu => by rw [List.mem_singleton.1 hu]; rfl) (by unfold maxLen; have := HGS.out; omega) (by have := HGS.out; omega) (by simp; omega) ?_))
          intro u2 w5 hown2 hgrow2 hat2
          have hvb7 : (Value.slice p7 m7 q7).ownBlock ≠ some bw := fun e => by have := (HO7.out.lt bw e).1; omega
          have hK2 := HK07.out.put ⟨by omega, by omega⟩ (by rw [List.append_nil]; exact hown2) hgrow2 (hat2.imp (fun e => e) (fun e => ⟨by rw [e.1]; simp, e.2⟩))
          have hx7 : (upd xs 6 (xs 6 ++ [.slice (some ⟨bl, 0, none⟩) (fs.length + 1) (fs.length + 1)])) 7 = xs 7 := upd_other _ _ (by omega)
          have hB2 := Kk.book (kk := 1) (m := 0) (L := [(.slice (some ⟨bc, 0, none⟩) (cs.length + 1) (cs.length + 1))]) HB1.out (c := 7) ⟨by omega, by omega⟩ (by rw [hx7]; exact hK2) rfl (fun i j _ _ => rfl) HOC.out (fun b e => by have := Option.some.inj e; simp at this; rw [← this]; exact HKC2.out) (by omega) (by rw [hx7, HGS.out]; exact h69)
          have hbl5 := HB1.out.lt'
          have hb5 : w5.heap[bw]? = _ := (hgrow2.block bw (by simp at hbl5 ⊢; omega) (fun e => hvb7 e.symm)).trans ((Below.heap_alloc _ _ _ hbl5).trans HB1.out.blk)
          obtain ⟨_, _, _, _, _, _, _, d7''⟩ := wd_cells hb5
          have f7'' : w5.frozen? ⟨bw, 7, none⟩ = false := by simp [World.frozen?, hb5]
          obtain ⟨g2, cap2, rfl⟩ := own_form hown2 (by omega)
          obtain ⟨hB2, hkp2, hbe2⟩ := hB2
          have hlen6 : (upd (upd xs 6 (xs 6 ++ [.slice (some ⟨bl, 0, none⟩) (fs.length + 1) (fs.length + 1)])) 7 ((upd xs 6 (xs 6 ++ [.slice (some ⟨bl, 0, none⟩) (fs.length + 1) (fs.length + 1)])) 7 ++ [(.slice (some ⟨bc, 0, none⟩) (cs.length + 1) (cs.length + 1))]) 6).length = (xs 6).length + 1 := by rw [upd_other _ _ (by omega), upd_same]; simp
          have hlen7 : (upd (upd xs 6 (xs 6 ++ [.slice (some ⟨bl, 0, none⟩) (fs.length + 1) (fs.length + 1)])) 7 ((upd xs 6 (xs 6 ++ [.slice (some ⟨bl, 0, none⟩) (fs.length + 1) (fs.length + 1)])) 7 ++ [(.slice (some ⟨bc, 0, none⟩) (cs.length + 1) (cs.length + 1))]) 7).length = (xs 7).length + 1 := by rw [upd_same, hx7]; simp
          have hlen1 : upd (upd xs 6 (xs 6 ++ [.slice (some ⟨bl, 0, none⟩) (fs.length + 1) (fs.length + 1)])) 7 ((upd xs 6 (xs 6 ++ [.slice (some ⟨bl, 0, none⟩) (fs.length + 1) (fs.length + 1)])) 7 ++ [(.slice (some ⟨bc, 0, none⟩) (cs.length + 1) (cs.length + 1))]) 1 = xs 1 := by rw [upd_other _ _ (by omega), upd_other _ _ (by omega)]
          have hlen2 : upd (upd xs 6 (xs 6 ++ [.slice (some ⟨bl, 0, none⟩) (fs.length + 1) (fs.length + 1)])) 7 ((upd xs 6 (xs 6 ++ [.slice (some ⟨bl, 0, none⟩) (fs.length + 1) (fs.length + 1)])) 7 ++ [(.slice (some ⟨bc, 0, none⟩) (cs.length + 1) (cs.length + 1))]) 2 = [] := by rw [upd_other _ _ (by omega), upd_other _ _ (by omega)]; exact H2.out
          revert hB2 hkp2 hlen6 hlen7 hlen1 hlen2
          generalize upd (upd xs 6 (xs 6 ++ [.slice (some ⟨bl, 0, none⟩) (fs.length + 1) (fs.length + 1)])) 7 ((upd xs 6 (xs 6 ++ [.slice (some ⟨bl, 0, none⟩) (fs.length + 1) (fs.length + 1)])) 7 ++ [(.slice (some ⟨bc, 0, none⟩) (cs.length + 1) (cs.length + 1))]) = xs2
          intro hB2 hkp2 hlen6 hlen7 hlen1 hlen2
          have hfb : ∀ b, (Value.slice pb nb cb).ownBlock = some b → (w5.setCell ⟨bw, 7, none⟩ (.slice (some ⟨g2, 0, none⟩) ((xs 7).length + 1) cap2)).heap[b]? = wr.heap[b]? ∧ Free7 bw _ xs2 b := fun b e => by
            have h1 := HFB.out b e
            have h2 := HVB2.out.lt b e
            obtain ⟨a1, a2⟩ := HKP1.out b h2.2 h1.1 (fun e => h1.2.1 (Option.some.inj e).symm)
            obtain ⟨b1, b2⟩ := hkp2 b (by simp [World.setCell]; omega) a2 (fun e => h1.2.2 (Option.some.inj e).symm)
            exact ⟨b1.trans a1, b2⟩
          have hvb5 : (w5.setCell ⟨bw, 7, none⟩ (.slice (some ⟨g2, 0, none⟩) ((xs 7).length + 1) cap2)).ownsRow C 5 1 (.slice pb nb cb) nb yb := by
            refine ⟨HVB2.out.1, ?_⟩
            rcases HVB2.out.2 with h0 | ⟨g, cap, cur, e1, g1', g2', g3'⟩
            · exact Or.inl h0
            · exact Or.inr ⟨g, cap, cur, e1, g1', (hfb g (by rw [e1]; rfl)).1.trans g2', g3'⟩
          have HB2 := hide hB2
          have HFB2 := hide fun b e => (hfb b e).2
          have HVB5 := hide hvb5
          have HBE := hide (HBL.out.trans (HBE1.out.trans hbe2))
          have hs5 : w3.heap.size < w5.heap.size := Nat.lt_of_lt_of_le (by simp) hgrow2.size
          clear hK2 hB2 hkp2 hbe2 hx7 hb5 hown2 hgrow2 hat2 hfb hvb5 d7' d6' f6' f7'
          go_wp2_with fail
          refine (kept_any _ bw sv _ xs2 HB2.out (by rw [hlen6, hlen7, HGS.out]) hlen2).mono ?_
          rintro e w7 ⟨rfl, n7, rfl⟩
          go_wp2_with fail
          refine (keepBytes_book _ bw C nb sv _ xs2 (.slice pb nb cb) yb (HB2.out.below (below_drewN (Below.refl _ _) n7)) (own_below HVB5.out (below_drewN (Below.refl _ _) n7)) hCb HFB2.out hnb (by rw [hlen1]; exact h14) (by rw [hlen1]; exact h19) (by simp [World.setCell, World.drewN]; omega)).mono ?_
          rintro e w8 ⟨rfl, vc', L, hL, hB3, _, hbe3⟩
          have HB3 := hide hB3
          have HBE3 := hide ((below_drewN HBE.out n7).trans hbe3)
          have HL := hide hL
          clear hB3 hbe3 hL
          go_wp2
          go_ret
          refine ⟨rfl, HBE3.out, _, _, HB3.out, ?_, ?_, ?_, ?_⟩
          · rw [upd_same, hlen1, List.length_append, HL.out]
          · rw [upd_other _ _ (by omega)]; exact hlen6
          · rw [upd_other _ _ (by omega)]; exact hlen7
          · rw [upd_other _ _ (by omega)]; exact hlen2
end Go.Proofs.YtnmfmoimjkoieaaGreatDoor.lb
