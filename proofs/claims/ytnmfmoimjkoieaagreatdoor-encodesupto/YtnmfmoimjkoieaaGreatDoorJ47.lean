import Derived.Test.YtnmfmoimjkoieaaGreatDoorJ46
/- courantlaw.encodes, in the middle: the program and the document at the packet, their answers side by side. -/
namespace Go.Proofs.YtnmfmoimjkoieaaGreatDoor.lb
open Go.RowKit Go.Proofs.YtnmfmoimjkoieaaGreatDoor.topPlain Go.Proofs.YtnmfmoimjkoieaaGreatDoor.topWalks Go.Proofs.YtnmfmoimjkoieaaGreatDoor.decPlain Go.Proofs.YtnmfmoimjkoieaaGreatDoor.rd Go.Proofs.YtnmfmoimjkoieaaGreatDoor.lw Go.Proofs.YtnmfmoimjkoieaaGreatDoor.encPlain
open Go.Proofs.YtnmfmoimjkoieaaGreatDoor.rfe (FilX IntX I64 rEncode_any pk15)
open Go.Proofs.YtnmfmoimjkoieaaGreatDoor.rf (FilV IntV)
open Go.Proofs.YtnmfmoimjkoieaaGreatDoor.ew (CePost cEncode_any fwW cbW fw_same cb_same u8s)

theorem encL_len {fw cb : UInt8} {p : Pkt} {fs : List (List UInt8 × Int)} {cs : List Int} {b : List UInt8} (h : encL fw cb p fs cs = some b) : b.length ≤ 303 := by
  unfold encL at h
  by_cases h3 : 300 < (bodyW cb p fs cs).length
  · rw [if_pos h3] at h; exact absurd h (by simp)
  · rw [if_neg h3] at h
    split at h
    · exact absurd h (by simp)
    · split at h
      · injection h with h
        rw [← h]
        have := @lenW_len (bodyW cb p fs cs).length
        simp only [List.length_cons, List.length_append, this]
        split <;> omega
      · exact absurd h (by simp)
theorem conv_nil (w : World) : (convert 45 9 (.slice none 0 0)).run Tryz.prog w = .ok (.string (bs [])) w := run_convert_bytes_nil (P := Tryz.prog) w 45 5 Tryz.underlying45 Tryz.underlying5 0 0 9 Tryz.underlying9
theorem conv_own {w : World} {C : Nat} {v : Value} {b : List UInt8} (h : w.ownsRow C 5 1 v b.length (u8s b)) : (convert 45 9 v).run Tryz.prog w = .ok (.string (bs b)) w := by
  rcases h.2 with ⟨rfl, h0⟩ | ⟨g, cap, cur, rfl, g1, g2, g3, g4, g5, g6⟩
  · have hb : b = [] := List.eq_nil_of_length_eq_zero h0
    subst hb
    exact conv_nil w
  · have h := rfe.conv_bytes (w := w) (b := g) (off := 0) (cap := cap) (n := b.length) (l := b) (Nat.le_refl _) (fun j x hx => by
      have hj : j < b.length := (List.getElem?_eq_some_iff.1 hx).1
      have e : cur[j]? = some (.int .u8 (x.toNat : Int)) := by
        rw [← Array.getElem?_toList, ← List.getElem?_take_of_lt (show j < b.length * 1 by omega), g6]
        simp [u8s, hx]
      simp [World.cell?, g2, e])
    rw [List.take_of_length_le (Nat.le_refl _)] at h
    exact h
theorem row_filO {w : World} {g : Nat} {fs : List (List UInt8 × Int)} (h : w.heap[g]? = some (.cells (filNew fs) 95)) : w.rowIs g 95 ((fs.length + 1) * 2) (filO fs) := by
  refine ⟨_, h, ?_, fun j hj => ?_⟩
  · unfold filNew; simp [filC_length]; omega
  · unfold filNew filO
    rw [List.getElem?_toArray, List.getD_eq_getElem?_getD]
    rw [List.getElem?_eq_getElem (by simp [filC_length]; omega)]
    rfl
theorem row_intO {w : World} {g : Nat} {cs : List Int} (h : w.heap[g]? = some (.cells (intNew cs) 3)) : w.rowIs g 3 (cs.length + 1) (intO cs) := by
  refine ⟨_, h, ?_, fun j hj => ?_⟩
  · unfold intNew; simp [ints]
  · unfold intNew intO
    rw [List.getElem?_toArray, List.getD_eq_getElem?_getD]
    rw [List.getElem?_eq_getElem (by simp [ints]; omega)]
    rfl

set_option maxHeartbeats 3200000 in
set_option maxRecDepth 100000 in
theorem enc_mid (ash aw : Addr) (w wq : World) (bw : Nat) (sv : Value) (v : Nat → Value) (xs : Nat → List Value) (kind : Int) (clean will : Bool) (keep : Int) (client : List UInt8) (present : Bool) (code : Int) (dup : Bool) (qos : Int) (retain : Bool) (topic payload : List UInt8) (id : Int) (fs : List (List UInt8 × Int)) (cs : List Int) (qf qc : Option Addr) (kf kc : Nat) (fv cv : Value)
    (hBk : Book w bw sv v xs) (hgs : (xs 7).length = (xs 6).length) (h2 : xs 2 = []) (h14 : (xs 1).length % 4 = 0) (h19 : (xs 1).length + 4 ≤ 4000000000000) (h69 : (xs 6).length + 1 ≤ 4000000000000)
    (hk : I64 keep) (hi : I64 id) (hl1 : client.length ≤ 1048576) (hl2 : topic.length ≤ 1048576) (hl3 : payload.length ≤ 1048576) (hlc : cs.length ≤ 1048576) (hll : fs.length ≤ 1048576) (hlf : ∀ f, f ∈ fs → f.1.length ≤ 1048576) (hf : FilX w (.slice qf fs.length kf) fs) (hc : IntX w (.slice qc cs.length kc) cs)
    (hE : Errs ash aw w) (hN : Env aw w.heap.size w)
    (hb : Below w.heap.size w wq) (hsq : wq.heap.size = w.heap.size + 4) (hP : wq.heap[w.heap.size]? = some (.cells #[.int .i64 kind, .bool clean, .bool will, .int .i64 keep, .string (bs client), .bool present, .int .i64 code, .bool dup, .int .i64 qos, .bool retain, .string (bs topic), .string (bs payload), .int .i64 id, .slice qf fs.length kf, .slice qc cs.length kc] 36)) (hL : wq.heap[w.heap.size + 1]? = some (.cells (filNew fs) 95)) (hCC : wq.heap[w.heap.size + 2]? = some (.cells (intNew cs) 3)) (hQ : wq.heap[w.heap.size + 3]? = some (.cells #[.int .i64 kind, .bool clean, .bool will, .int .i64 keep, .string (bs client), .bool present, .int .i64 code, .bool dup, .int .i64 qos, .bool retain, .string (bs topic), .string (bs payload), .int .i64 id, fv, cv] 36))
    (hfv : FilV wq fv fs) (hcv : IntV wq cv cs) (u1 u2 u4 u8 u9 u10 u11 u12 u13 u14 u15 u16 u17 u18 u19 u20 u21 u22 u23 u24 u25 u26 u27 u28 u29 u30 u31 u32 u33 u34 u35 u36 u37 u38 u39 u40 u41 u42 u43 u44 u45 u46 u47 u48 u49 u50 u51 u52 u53 u54 u55 u56 u57 u58 u59 u60 u61 u62 u63 u64 u65 u66 u67 u68 u69 u70 u71 u72 u73 u74 u75 u76 u77 u78 u79 u80 u81 u82 u83 u84 u85 u86 u87 u88 u89 u90 u91 u92 u93 u94 u95 u96 u97 u98 u99 u100 u101 u102 u103 u104 u105 u106 u107 u108 u109 u110 u111 u112 u113 u114 u115 u116 u117 u118 u119 u120 u121 u122 u123 u124 u125 u126 u127 u128 u129 u130 u131 u132 u133 u134 u135 u136 u137 u138 u139 u140 u141 u142 u143 u144 u145 u146 u147 u148 u149 u150 u151 u152 u153 u154 u155 u156 u157 u158 u159 u160 u161 u162 u163 u164 u165 u166 u167 u168 u169 u170 u171 u172 u173 u174 u175 u176 u177 u178 u179 u180 u181 u182 u183 u184 u185 u186 u187 u188 u189 u190 u191 u192 u193 u194 u195 u196 u197 u198 u199 u200 u201 u202 u203 u204 u205 u206 u207 : Value) :
    Code.wp Tryz.prog (dropSeqE 8 (Tryz.f14.body.getD .skip)) (bodyPost Tryz.prog Tryz.f14 (fun e w' => e = .returned (.bool true) ∧ Below bw w w' ∧ ∃ v' xs', Book w' bw sv v' xs' ∧ (xs' 1).length = (xs 1).length + 4 ∧ (xs' 6).length = (xs 6).length + 1 ∧ (xs' 7).length = (xs 7).length + 1 ∧ xs' 2 = [])) ⟨#[.pointer (some ⟨bw, 0, none⟩), u1, u2, .pointer (some ⟨w.heap.size, 0, none⟩), u4, .slice (some ⟨w.heap.size + 1, 0, none⟩) (fs.length + 1) (fs.length + 1), .slice (some ⟨w.heap.size + 2, 0, none⟩) (cs.length + 1) (cs.length + 1), .pointer (some ⟨w.heap.size + 3, 0, none⟩), u8, u9, u10, u11, u12, u13, u14, u15, u16, u17, u18, u19, u20, u21, u22, u23, u24, u25, u26, u27, u28, u29, u30, u31, u32, u33, u34, u35, u36, u37, u38, u39, u40, u41, u42, u43, u44, u45, u46, u47, u48, u49, u50, u51, u52, u53, u54, u55, u56, u57, u58, u59, u60, u61, u62, u63, u64, u65, u66, u67, u68, u69, u70, u71, u72, u73, u74, u75, u76, u77, u78, u79, u80, u81, u82, u83, u84, u85, u86, u87, u88, u89, u90, u91, u92, u93, u94, u95, u96, u97, u98, u99, u100, u101, u102, u103, u104, u105, u106, u107, u108, u109, u110, u111, u112, u113, u114, u115, u116, u117, u118, u119, u120, u121, u122, u123, u124, u125, u126, u127, u128, u129, u130, u131, u132, u133, u134, u135, u136, u137, u138, u139, u140, u141, u142, u143, u144, u145, u146, u147, u148, u149, u150, u151, u152, u153, u154, u155, u156, u157, u158, u159, u160, u161, u162, u163, u164, u165, u166, u167, u168, u169, u170, u171, u172, u173, u174, u175, u176, u177, u178, u179, u180, u181, u182, u183, u184, u185, u186, u187, u188, u189, u190, u191, u192, u193, u194, u195, u196, u197, u198, u199, u200, u201, u202, u203, u204, u205, u206, u207], []⟩ wq := by
  have hNq : Env aw wq.heap.size wq := by
    have hn := hN.below hb
    exact ⟨Nat.le_trans hn.low hb.size, Nat.le_refl _, hn.err, hn.inv⟩
  have hes : encL (fwW ⟨kind, clean, will, keep, client, present, code, dup, qos, retain, topic, payload, id, fv, cv⟩) (cbW ⟨kind, clean, will, keep, client, present, code, dup, qos, retain, topic, payload, id, fv, cv⟩) ⟨kind, clean, will, keep, client, present, code, dup, qos, retain, topic, payload, id, fv, cv⟩ fs cs = refL ⟨kind, clean, will, keep, client, present, code, dup, qos, retain, topic, payload, id, .slice qf fs.length kf, .slice qc cs.length kc⟩ fs cs := (enc_same _ _ _ fs cs fw_same cb_same).trans rfl
  have cE := cEncode_any ash aw ⟨kind, clean, will, keep, client, present, code, dup, qos, retain, topic, payload, id, fv, cv⟩ fs cs wq hfv hcv (hE.below hb) hNq
  have rE := hide fun w' (hb' : Below wq.heap.size wq w') => rEncode_any ⟨kind, clean, will, keep, client, present, code, dup, qos, retain, topic, payload, id, .slice qf fs.length kf, .slice qc cs.length kc⟩ fs cs w' hk hi hl1 hl2 hl3 hlc hlf ((hf.below hb).below hb') ((hc.below hb).below hb') (hNq.inv.below hb') (Nat.le_trans hNq.low hb'.size)
  have hlen : ∀ b, refL ⟨kind, clean, will, keep, client, present, code, dup, qos, retain, topic, payload, id, .slice qf fs.length kf, .slice qc cs.length kc⟩ fs cs = some b → b.length ≤ 303 := fun b e => encL_len (hes.trans e)
  rw [hes] at cE
  generalize refL ⟨kind, clean, will, keep, client, present, code, dup, qos, retain, topic, payload, id, .slice qf fs.length kf, .slice qc cs.length kc⟩ fs cs = R at *
  simp only [pkCells] at cE rE
  obtain ⟨a0, a1, a2, a3, a4, a5, a6, a7, a8, a9, a10, a11, a12, a13, a14⟩ := pk15 hQ
  have HP := hide hP
  have HL := hide hL
  have HCC := hide hCC
  have HF := hide hf
  have HC := hide hc
  have HB := hide hb
  have HBK := hide hBk
  have HGS := hide hgs
  have H2 := hide h2
  have HLEN := hide hlen
  have HCE := hide cE
  have HSQ := hide hsq
  clear hP hL hCC hQ hf hc hb hBk hgs h2 hlen hk hi hl1 hl2 hl3 hlf hE hN hNq hfv hcv hes cE hsq
  refine cut_body 5 (dropSeqE 8 (Tryz.f14.body.getD .skip)) ?_
  conv => arg 2; whnf; arg 2; whnf; arg 2; whnf; arg 2; whnf; arg 2; whnf
  cases R with
  | none =>
    have rE1 := fun w' hb' => rE.out w' hb'
    simp only [Option.getD_none, Option.isSome_none] at rE1
    go_wp2_with fail
    refine HCE.out.mono ?_
    rintro e w1 ⟨hb1, rfl⟩
    have hsq := HSQ.out
    have HQ1 := hide (hsq ▸ hb1)
    have HB2 := hide (HB.out.trans (hb1.mono HB.out.size))
    have hP1 := (hb1.block w.heap.size (by omega)).trans HP.out
    obtain ⟨c0, c1, c2, c3, c4, c5, c6, c7, c8, c9, c10, c11, c12, c13, c14⟩ := pk15 hP1
    have HS1 : Hid (w.heap.size + 4 ≤ w1.heap.size) := by have := hb1.size; show _ ≤ _; omega
    have HRE := hide (rE1 w1 hb1)
    clear rE1 hb1 hP1 a0 a1 a2 a3 a4 a5 a6 a7 a8 a9 a10 a11 a12 a13 a14 hsq
    go_wp2_with fail
    refine HRE.out.mono ?_
    rintro e w2 ⟨rfl, hb2⟩
    clear c0 c1 c2 c3 c4 c5 c6 c7 c8 c9 c10 c11 c12 c13 c14
    have HB := hide (HB2.out.trans (hb2.mono HB2.out.size))
    have hsz2 : w.heap.size + 4 ≤ w2.heap.size := Nat.le_trans HS1.out hb2.size
    have hbq : Below (w.heap.size + 4) wq w2 := HQ1.out.trans (hb2.mono HS1.out)
    have HQ2 := hide hbq
    have hP2 : w2.heap[w.heap.size]? = _ := (hbq.block _ (by omega)).trans HP.out
    have hL2 : w2.heap[w.heap.size + 1]? = _ := (hbq.block _ (by omega)).trans HL.out
    have hC2 : w2.heap[w.heap.size + 2]? = _ := (hbq.block _ (by omega)).trans HCC.out
    obtain ⟨p13, p14⟩ := (pk15 hP2).2.2.2.2.2.2.2.2.2.2.2.2.2
    have hrl : w2.rowIs (w.heap.size + 1) 95 ((fs.length + 1) * 2) (filO fs) := row_filO hL2
    have hrc : w2.rowIs (w.heap.size + 2) 3 (cs.length + 1) (intO cs) := row_intO hC2
    have q1 := hrl.cell (i := fs.length * 2) (by omega)
    have q2 := hrl.cell (i := fs.length * 2 + 1) (by omega)
    have q3 := hrc.cell (i := cs.length) (by omega)
    rw [(filO_last fs).1] at q1
    rw [(filO_last fs).2] at q2
    rw [intO_last cs] at q3
    have HRL := hide hrl
    have HRC := hide hrc
    have HO : Hid (w2.ownsRow (w.heap.size + 4) 5 1 (.slice none 0 0) 0 []) := ⟨rfl, Or.inl ⟨rfl, rfl⟩⟩
    have HFB : Hid (∀ b, (Value.slice none 0 0).ownBlock = some b → Free7 bw v xs b ∧ b ≠ w.heap.size + 1 ∧ b ≠ w.heap.size + 2) := fun b e => by simp [Value.ownBlock] at e
    have hcv := conv_nil w2
    clear hP2 hL2 hC2 hrl hrc hb2 hbq
    go_wp2_with fail
    have hbk := HBK.out.lt'
    exact enc_tail w w2 bw w.heap.size (w.heap.size + 1) (w.heap.size + 2) (w.heap.size + 4) 0 sv v xs fs cs qf qc kf kc _ [] (HBK.out.below HB.out) (HB.out.mono (by omega)) (by omega) (by omega) (by omega) (by omega) (by omega) (by omega) (by omega) hll hlc p13 p14
      (fun j f hf => by
        obtain ⟨q, k, e, _, hat⟩ := HF.out.below HB.out
        injection e with e1 e2 e3
        obtain ⟨g, o, a1, a2, a3, a4⟩ := hat j f hf
        obtain ⟨q', k', e', _, hat'⟩ := HF.out
        injection e' with e1' e2' e3'
        obtain ⟨g', o', a1', a2', _, _⟩ := hat' j f hf
        have e5 : some (⟨g, o, none⟩ : Addr) = some ⟨g', o', none⟩ := by rw [← a1, ← a1', ← e1, ← e1']
        injection e5 with e6
        injection e6 with e7 e8
        exact ⟨g, o, e1.trans a1, by omega, by omega, a3, a4⟩)
      (fun j f hf => by
        obtain ⟨q, k, e, _, hat⟩ := HC.out.below HB.out
        injection e with e1 e2 e3
        obtain ⟨g, o, a1, a2, a3⟩ := hat j f hf
        obtain ⟨q', k', e', _, hat'⟩ := HC.out
        injection e' with e1' e2' e3'
        obtain ⟨g', o', a1', a2', _⟩ := hat' j f hf
        have e5 : some (⟨g, o, none⟩ : Addr) = some ⟨g', o', none⟩ := by rw [← a1, ← a1', ← e1, ← e1']
        injection e5 with e6
        injection e6 with e7 e8
        exact ⟨g, o, e1.trans a1, by omega, by omega, a3⟩)
      HRL.out HRC.out (HBK.out.free (by omega)) (HBK.out.free (by omega)) HO.out (by omega) hsz2
      HFB.out (by omega) HGS.out H2.out h14 h19 h69 _ _ _ _ _ _ _ _ _ _ _ _ _ _ _ _ _ _ _ _ _ _ _ _ _ _ _ _ _ _ _ _ _ _ _ _ _ _ _ _ _ _ _ _ _ _ _ _ _ _ _ _ _ _ _ _ _ _ _ _ _ _ _ _ _ _ _ _ _ _ _ _ _ _ _ _ _ _ _ _ _ _ _ _ _ _ _ _ _ _ _ _ _ _ _ _ _ _ _ _ _ _ _ _ _ _ _ _ _ _ _ _ _ _ _ _ _ _ _ _ _ _ _ _ _ _ _ _ _ _ _ _ _ _ _ _ _ _ _ _ _ _ _ _ _ _ _ _ _ _ _ _ _ _ _ _ _ _ _ _ _ _ _ _ _ _ _ _ _ _ _ _ _ _ _ _ _ _ _ _ _ _ _ _ _ _ _ _ _ _ _ _ _ _ _ _ _ _ _ _ _ _

  | some b =>
    have rE1 := fun w' hb' => rE.out w' hb'
    simp only [Option.getD_some, Option.isSome_some] at rE1
    have hbl := HLEN.out b rfl
    go_wp2_with fail
    refine HCE.out.mono ?_
    rintro e w1 ⟨hb1, vb, rfl, ho⟩
    have hsq := HSQ.out
    have HO1 : Hid (w1.ownsRow (w.heap.size + 4) 5 1 vb b.length (u8s b)) := hsq ▸ ho
    have HQ1 := hide (hsq ▸ hb1)
    have HB2 := hide (HB.out.trans (hb1.mono HB.out.size))
    have hP1 := (hb1.block w.heap.size (by omega)).trans HP.out
    obtain ⟨c0, c1, c2, c3, c4, c5, c6, c7, c8, c9, c10, c11, c12, c13, c14⟩ := pk15 hP1
    have HS1 : Hid (w.heap.size + 4 ≤ w1.heap.size) := by have := hb1.size; show _ ≤ _; omega
    have HRE := hide (rE1 w1 hb1)
    clear rE1 hb1 hP1 ho a0 a1 a2 a3 a4 a5 a6 a7 a8 a9 a10 a11 a12 a13 a14 hsq
    go_wp2_with fail
    refine HRE.out.mono ?_
    rintro e w2 ⟨rfl, hb2⟩
    clear c0 c1 c2 c3 c4 c5 c6 c7 c8 c9 c10 c11 c12 c13 c14
    have HB := hide (HB2.out.trans (hb2.mono HB2.out.size))
    have hsz2 : w.heap.size + 4 ≤ w2.heap.size := Nat.le_trans HS1.out hb2.size
    have hbq : Below (w.heap.size + 4) wq w2 := HQ1.out.trans (hb2.mono HS1.out)
    have HQ2 := hide hbq
    have hP2 : w2.heap[w.heap.size]? = _ := (hbq.block _ (by omega)).trans HP.out
    have hL2 : w2.heap[w.heap.size + 1]? = _ := (hbq.block _ (by omega)).trans HL.out
    have hC2 : w2.heap[w.heap.size + 2]? = _ := (hbq.block _ (by omega)).trans HCC.out
    obtain ⟨p13, p14⟩ := (pk15 hP2).2.2.2.2.2.2.2.2.2.2.2.2.2
    have hrl : w2.rowIs (w.heap.size + 1) 95 ((fs.length + 1) * 2) (filO fs) := row_filO hL2
    have hrc : w2.rowIs (w.heap.size + 2) 3 (cs.length + 1) (intO cs) := row_intO hC2
    have q1 := hrl.cell (i := fs.length * 2) (by omega)
    have q2 := hrl.cell (i := fs.length * 2 + 1) (by omega)
    have q3 := hrc.cell (i := cs.length) (by omega)
    rw [(filO_last fs).1] at q1
    rw [(filO_last fs).2] at q2
    rw [intO_last cs] at q3
    have HRL := hide hrl
    have HRC := hide hrc
    have ho2 := own_below HO1.out (hb2)
    have HO := hide ho2
    have HFB : Hid (∀ b, vb.ownBlock = some b → Free7 bw v xs b ∧ b ≠ w.heap.size + 1 ∧ b ≠ w.heap.size + 2) := fun b e => by
      have := ho2.lt b e
      exact ⟨HBK.out.free (by omega), by omega, by omega⟩
    have hcv := conv_own ho2
    clear ho2
    clear hP2 hL2 hC2 hrl hrc hb2 hbq
    go_wp2_with fail
    have hbk := HBK.out.lt'
    exact enc_tail w w2 bw w.heap.size (w.heap.size + 1) (w.heap.size + 2) (w.heap.size + 4) b.length sv v xs fs cs qf qc kf kc _ (u8s b) (HBK.out.below HB.out) (HB.out.mono (by omega)) (by omega) (by omega) (by omega) (by omega) (by omega) (by omega) (by omega) hll hlc p13 p14
      (fun j f hf => by
        obtain ⟨q, k, e, _, hat⟩ := HF.out.below HB.out
        injection e with e1 e2 e3
        obtain ⟨g, o, a1, a2, a3, a4⟩ := hat j f hf
        obtain ⟨q', k', e', _, hat'⟩ := HF.out
        injection e' with e1' e2' e3'
        obtain ⟨g', o', a1', a2', _, _⟩ := hat' j f hf
        have e5 : some (⟨g, o, none⟩ : Addr) = some ⟨g', o', none⟩ := by rw [← a1, ← a1', ← e1, ← e1']
        injection e5 with e6
        injection e6 with e7 e8
        exact ⟨g, o, e1.trans a1, by omega, by omega, a3, a4⟩)
      (fun j f hf => by
        obtain ⟨q, k, e, _, hat⟩ := HC.out.below HB.out
        injection e with e1 e2 e3
        obtain ⟨g, o, a1, a2, a3⟩ := hat j f hf
        obtain ⟨q', k', e', _, hat'⟩ := HC.out
        injection e' with e1' e2' e3'
        obtain ⟨g', o', a1', a2', _⟩ := hat' j f hf
        have e5 : some (⟨g, o, none⟩ : Addr) = some ⟨g', o', none⟩ := by rw [← a1, ← a1', ← e1, ← e1']
        injection e5 with e6
        injection e6 with e7 e8
        exact ⟨g, o, e1.trans a1, by omega, by omega, a3⟩)
      HRL.out HRC.out (HBK.out.free (by omega)) (HBK.out.free (by omega)) HO.out (by omega) hsz2
      HFB.out (by omega) HGS.out H2.out h14 h19 h69 _ _ _ _ _ _ _ _ _ _ _ _ _ _ _ _ _ _ _ _ _ _ _ _ _ _ _ _ _ _ _ _ _ _ _ _ _ _ _ _ _ _ _ _ _ _ _ _ _ _ _ _ _ _ _ _ _ _ _ _ _ _ _ _ _ _ _ _ _ _ _ _ _ _ _ _ _ _ _ _ _ _ _ _ _ _ _ _ _ _ _ _ _ _ _ _ _ _ _ _ _ _ _ _ _ _ _ _ _ _ _ _ _ _ _ _ _ _ _ _ _ _ _ _ _ _ _ _ _ _ _ _ _ _ _ _ _ _ _ _ _ _ _ _ _ _ _ _ _ _ _ _ _ _ _ _ _ _ _ _ _ _ _ _ _ _ _ _ _ _ _ _ _ _ _ _ _ _ _ _ _ _ _ _ _ _ _ _ _ _ _ _ _ _ _ _ _ _ _ _ _ _

end Go.Proofs.YtnmfmoimjkoieaaGreatDoor.lb
