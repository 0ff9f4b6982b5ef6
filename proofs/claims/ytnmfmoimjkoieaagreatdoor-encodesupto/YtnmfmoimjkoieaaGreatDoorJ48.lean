import Derived.Test.YtnmfmoimjkoieaaGreatDoorJ47
import Derived.Laws.Cover3
/- courantlaw.encodes. -/
namespace Go.Proofs.YtnmfmoimjkoieaaGreatDoor.lb
open Go.RowKit Go.Proofs.YtnmfmoimjkoieaaGreatDoor.topPlain Go.Proofs.YtnmfmoimjkoieaaGreatDoor.topWalks Go.Proofs.YtnmfmoimjkoieaaGreatDoor.decPlain Go.Proofs.YtnmfmoimjkoieaaGreatDoor.rd Go.Proofs.YtnmfmoimjkoieaaGreatDoor.lw Go.Proofs.YtnmfmoimjkoieaaGreatDoor.encPlain
open Go.Proofs.YtnmfmoimjkoieaaGreatDoor.rfe (FilX IntX I64 rEncode_any pk15)
open Go.Proofs.YtnmfmoimjkoieaaGreatDoor.rf (FilV IntV)
open Go.Proofs.YtnmfmoimjkoieaaGreatDoor.ew (CePost cEncode_any fwW cbW fw_same cb_same u8s)

theorem fil_new {w : World} {g : Nat} {fs : List (List UInt8 × Int)} (h : w.heap[g]? = some (.cells (filNew fs) 95)) (hm : fs.length ≤ maxLen) (c : Nat) : FilV w (.slice (some ⟨g, 0, none⟩) fs.length c) fs :=
  ⟨_, _, rfl, hm, fun j f hf => by
    have hj : j < fs.length := (List.getElem?_eq_some_iff.1 hf).1
    have q1 := (row_filO h).cell (i := j * 2) (by omega)
    have q2 := (row_filO h).cell (i := j * 2 + 1) (by omega)
    rw [(filO_at hf).1] at q1
    rw [(filO_at hf).2] at q2
    exact ⟨g, rfl, (Array.getElem?_eq_some_iff.1 h).1, q1, q2⟩⟩
theorem int_new {w : World} {g : Nat} {cs : List Int} (h : w.heap[g]? = some (.cells (intNew cs) 3)) (hm : cs.length ≤ maxLen) (c : Nat) : IntV w (.slice (some ⟨g, 0, none⟩) cs.length c) cs :=
  ⟨_, _, rfl, hm, fun j f hf => by
    have hj : j < cs.length := (List.getElem?_eq_some_iff.1 hf).1
    have q1 := (row_intO h).cell (i := j) (by omega)
    rw [intO_at hf] at q1
    exact ⟨g, rfl, (Array.getElem?_eq_some_iff.1 h).1, q1⟩⟩
theorem fil_none {w w' : World} {k : Nat} {fs : List (List UInt8 × Int)} (h : FilX w (.slice none fs.length k) fs) : FilV w' (.slice none fs.length k) fs := by
  obtain ⟨q, c, e, hm, hat⟩ := h
  injection e with e1 e2 e3
  refine ⟨none, k, rfl, hm, fun j f hf => ?_⟩
  obtain ⟨g, o, a, _⟩ := hat j f hf
  rw [← e1] at a
  exact absurd a (by simp)
theorem int_none {w w' : World} {k : Nat} {cs : List Int} (h : IntX w (.slice none cs.length k) cs) : IntV w' (.slice none cs.length k) cs := by
  obtain ⟨q, c, e, hm, hat⟩ := h
  injection e with e1 e2 e3
  refine ⟨none, k, rfl, hm, fun j f hf => ?_⟩
  obtain ⟨g, o, a, _⟩ := hat j f hf
  rw [← e1] at a
  exact absurd a (by simp)

set_option maxHeartbeats 3200000 in
set_option maxRecDepth 100000 in
theorem encodes_any (ash aw : Addr) (w : World) (bw : Nat) (sv : Value) (v : Nat → Value) (xs : Nat → List Value) (p : Pkt) (fs : List (List UInt8 × Int)) (cs : List Int)
    (hBk : Book w bw sv v xs) (hgs : (xs 7).length = (xs 6).length) (h2 : xs 2 = []) (h14 : (xs 1).length % 4 = 0) (h19 : (xs 1).length + 4 ≤ 4000000000000) (h69 : (xs 6).length + 1 ≤ 4000000000000)
    (hk : I64 p.keep) (hi : I64 p.id) (hl1 : p.client.length ≤ 1048576) (hl2 : p.topic.length ≤ 1048576) (hl3 : p.payload.length ≤ 1048576) (hlc : cs.length ≤ 1048576) (hll : fs.length ≤ 1048576) (hlf : ∀ f, f ∈ fs → f.1.length ≤ 1048576) (hf : FilX w p.fv fs) (hc : IntX w p.cv cs)
    (hE : Errs ash aw w) (hN : Env aw w.heap.size w) :
    Calls Tryz.prog 14 #[.pointer (some ⟨bw, 0, none⟩), .agg (pkCells p)] w (fun e w' => e = .returned (.bool true) ∧ Below bw w w' ∧ ∃ v' xs', Book w' bw sv v' xs' ∧ (xs' 1).length = (xs 1).length + 4 ∧ (xs' 6).length = (xs 6).length + 1 ∧ (xs' 7).length = (xs 7).length + 1 ∧ xs' 2 = []) := by
  obtain ⟨kind, clean, will, keep, client, present, code, dup, qos, retain, topic, payload, id, fv, cv⟩ := p
  have HF := hide hf
  have HC := hide hc
  obtain ⟨qf, kf, rfl, hfl, hfc⟩ := hf
  obtain ⟨qc, kc, rfl, hcl, hcc⟩ := hc
  simp only [pkCells]
  have HBK := hide hBk
  clear hfc hcc hBk
  obtain ⟨oP, hoP⟩ : ∃ o, o = Obj.cells #[.int .i64 kind, .bool clean, .bool will, .int .i64 keep, .string (bs client), .bool present, .int .i64 code, .bool dup, .int .i64 qos, .bool retain, .string (bs topic), .string (bs payload), .int .i64 id, .slice qf fs.length kf, .slice qc cs.length kc] 36 := ⟨_, rfl⟩
  have hs1 : (w.alloc oP).heap.size = w.heap.size + 1 := by simp
  have hb1 : Below w.heap.size w (w.alloc oP) := (Below.refl _ _).alloc (Nat.le_refl _) _
  have hP1 : (w.alloc oP).heap[w.heap.size]? = some oP := Go.Deep.blk_alloc_new _ _
  have hm1 := mk_fil fs.length hll (w.alloc oP)
  have hc1 := cp_fil (w.alloc oP) qf kf fs (HF.out.below hb1) 3
  obtain ⟨WM, hWM⟩ : ∃ W, W = (w.alloc oP).alloc (.cells (madeCells (Value.agg #[.string ⟨#[]⟩, .int .i64 0]).cells ((fs.length + 1) * 2)) 95) := ⟨_, rfl⟩
  obtain ⟨WL, hWL⟩ : ∃ W, W = (w.alloc oP).alloc (.cells (filNew fs) 95) := ⟨_, rfl⟩
  rw [← hWM, hs1] at hm1
  rw [← hWM, ← hWL, hs1] at hc1
  have hbM : Below (w.heap.size + 1) (w.alloc oP) WM := by rw [hWM]; exact (Below.refl _ _).alloc (by simp) _
  have hbL : Below (w.heap.size + 1) (w.alloc oP) WL := by rw [hWL]; exact (Below.refl _ _).alloc (by simp) _
  have hsM : WM.heap.size = w.heap.size + 2 := by rw [hWM]; simp
  have hsL : WL.heap.size = w.heap.size + 2 := by rw [hWL]; simp
  have hPM : WM.heap[w.heap.size]? = some oP := (hbM.block _ (by omega)).trans hP1
  have hPL : WL.heap[w.heap.size]? = some oP := (hbL.block _ (by omega)).trans hP1
  have hbwL : Below w.heap.size w WL := hb1.trans (hbL.mono (by omega))
  have hm2 := mk_int cs.length hlc WL
  have hc2 := cp_int WL qc kc cs (HC.out.below hbwL) 3
  obtain ⟨WN, hWN⟩ : ∃ W, W = WL.alloc (.cells (madeCells #[.int .i64 0] (cs.length + 1)) 3) := ⟨_, rfl⟩
  obtain ⟨WC, hWC⟩ : ∃ W, W = WL.alloc (.cells (intNew cs) 3) := ⟨_, rfl⟩
  rw [← hWN, hsL] at hm2
  rw [← hWN, ← hWC, hsL] at hc2
  have hbN : Below (w.heap.size + 2) WL WN := by rw [hWN]; exact (Below.refl _ _).alloc (by omega) _
  have hbC : Below (w.heap.size + 2) WL WC := by rw [hWC]; exact (Below.refl _ _).alloc (by omega) _
  have hsC : WC.heap.size = w.heap.size + 3 := by rw [hWC]; simp [hsL]
  have hPN : WN.heap[w.heap.size]? = some oP := (hbN.block _ (by omega)).trans hPL
  have hPC : WC.heap[w.heap.size]? = some oP := (hbC.block _ (by omega)).trans hPL
  have HLr : Hid (WC.heap[w.heap.size + 1]? = some (.cells (filNew fs) 95)) := (hbC.block _ (by omega)).trans (by rw [hWL]; have := Go.Deep.blk_alloc_new (w.alloc oP) (.cells (filNew fs) 95); rw [hs1] at this; exact this)
  have HCr : Hid (WC.heap[w.heap.size + 2]? = some (.cells (intNew cs) 3)) := by rw [hWC]; have := Go.Deep.blk_alloc_new WL (.cells (intNew cs) 3); rw [hsL] at this; exact this
  have HBC : Hid (Below w.heap.size w WC) := hbwL.trans (hbC.mono (by omega))
  rw [hoP] at hP1 hPM hPL hPN hPC
  obtain ⟨p13, p14⟩ := (pk15 hP1).2.2.2.2.2.2.2.2.2.2.2.2.2
  obtain ⟨m13, m14⟩ := (pk15 hPM).2.2.2.2.2.2.2.2.2.2.2.2.2
  obtain ⟨l13, l14⟩ := (pk15 hPL).2.2.2.2.2.2.2.2.2.2.2.2.2
  obtain ⟨n13, n14⟩ := (pk15 hPN).2.2.2.2.2.2.2.2.2.2.2.2.2
  obtain ⟨c0, c1, c2, c3, c4, c5, c6, c7, c8, c9, c10, c11, c12, c13, c14⟩ := pk15 hPC
  have HPC := hide hPC
  have HE := hide hE
  have HN := hide hN
  have HSC := hide hsC
  have HLF := hide hlf
  have HGS := hide hgs
  have H2 := hide h2
  clear hP1 hPM hPL hPN hPC hWM hWL hWN hWC hbM hbL hbN hbC hb1 hbwL hsM hsL hs1 hE hN hlf hgs h2
  have HFM := hide hfl
  have HCM := hide hcl
  unfold maxLen at hfl hcl
  subst hoP
  go_enter Tryz.func14, Tryz.ntmps14
  refine cut_body 8 (Tryz.f14.body.getD .skip) ?_
  conv => arg 2; whnf; arg 2; whnf; arg 2; whnf; arg 2; whnf; arg 2; whnf; arg 2; whnf
  go_wp2_with fail
  have HAL : Hid (∀ o, (WC.alloc o).heap[w.heap.size]? = some (.cells #[.int .i64 kind, .bool clean, .bool will, .int .i64 keep, .string (bs client), .bool present, .int .i64 code, .bool dup, .int .i64 qos, .bool retain, .string (bs topic), .string (bs payload), .int .i64 id, .slice qf fs.length kf, .slice qc cs.length kc] 36) ∧ (WC.alloc o).heap[w.heap.size + 1]? = some (.cells (filNew fs) 95) ∧ (WC.alloc o).heap[w.heap.size + 2]? = some (.cells (intNew cs) 3) ∧ (WC.alloc o).heap[w.heap.size + 3]? = some o ∧ (WC.alloc o).heap.size = w.heap.size + 4 ∧ Below w.heap.size w (WC.alloc o)) := fun o => by
    have hs := HSC.out
    refine ⟨(Below.heap_alloc _ _ _ (by omega)).trans HPC.out, (Below.heap_alloc _ _ _ (by omega)).trans HLr.out, (Below.heap_alloc _ _ _ (by omega)).trans HCr.out, ?_, by simp [hs], HBC.out.alloc (by omega) o⟩
    have := Go.Deep.blk_alloc_new WC o
    rw [hs] at this
    exact this
  have hle1 : (fs.length : Int) ≤ (fs.length : Int) + 1 := by omega
  have hle2 : (cs.length : Int) ≤ (cs.length : Int) + 1 := by omega
  cases qf with
  | none =>
    cases qc with
    | none =>
      conv => arg 2; whnf; arg 2; whnf
      go_wp2_with fail
      obtain ⟨z1, z2, z3, z4, z5, z6⟩ := HAL.out (.cells #[.int .i64 kind, .bool clean, .bool will, .int .i64 keep, .string (bs client), .bool present, .int .i64 code, .bool dup, .int .i64 qos, .bool retain, .string (bs topic), .string (bs payload), .int .i64 id, .slice none fs.length kf, .slice none cs.length kc] 36)
      exact enc_mid ash aw w _ bw sv v xs kind clean will keep client present code dup qos retain topic payload id fs cs none none kf kc _ _ HBK.out HGS.out H2.out h14 h19 h69 hk hi hl1 hl2 hl3 hlc hll HLF.out HF.out HC.out HE.out HN.out z6 z5 z1 z2 z3 z4 (fil_none HF.out) (int_none HC.out) _ _ _ _ _ _ _ _ _ _ _ _ _ _ _ _ _ _ _ _ _ _ _ _ _ _ _ _ _ _ _ _ _ _ _ _ _ _ _ _ _ _ _ _ _ _ _ _ _ _ _ _ _ _ _ _ _ _ _ _ _ _ _ _ _ _ _ _ _ _ _ _ _ _ _ _ _ _ _ _ _ _ _ _ _ _ _ _ _ _ _ _ _ _ _ _ _ _ _ _ _ _ _ _ _ _ _ _ _ _ _ _ _ _ _ _ _ _ _ _ _ _ _ _ _ _ _ _ _ _ _ _ _ _ _ _ _ _ _ _ _ _ _ _ _ _ _ _ _ _ _ _ _ _ _ _ _ _ _ _ _ _ _ _ _ _ _ _ _ _ _ _ _ _ _ _ _ _ _ _ _ _ _ _ _ _ _ _ _ _ _ _ _ _ _ _ _ _ _ _ _ _ _
    | some ac =>
      conv => arg 2; whnf; arg 2; whnf
      go_wp2_with fail
      obtain ⟨z1, z2, z3, z4, z5, z6⟩ := HAL.out (.cells #[.int .i64 kind, .bool clean, .bool will, .int .i64 keep, .string (bs client), .bool present, .int .i64 code, .bool dup, .int .i64 qos, .bool retain, .string (bs topic), .string (bs payload), .int .i64 id, .slice none fs.length kf, .slice (some ⟨w.heap.size + 2, 0, none⟩) cs.length (cs.length + 1)] 36)
      exact enc_mid ash aw w _ bw sv v xs kind clean will keep client present code dup qos retain topic payload id fs cs none (some ac) kf kc _ _ HBK.out HGS.out H2.out h14 h19 h69 hk hi hl1 hl2 hl3 hlc hll HLF.out HF.out HC.out HE.out HN.out z6 z5 z1 z2 z3 z4 (fil_none HF.out) (int_new z3 HCM.out _) _ _ _ _ _ _ _ _ _ _ _ _ _ _ _ _ _ _ _ _ _ _ _ _ _ _ _ _ _ _ _ _ _ _ _ _ _ _ _ _ _ _ _ _ _ _ _ _ _ _ _ _ _ _ _ _ _ _ _ _ _ _ _ _ _ _ _ _ _ _ _ _ _ _ _ _ _ _ _ _ _ _ _ _ _ _ _ _ _ _ _ _ _ _ _ _ _ _ _ _ _ _ _ _ _ _ _ _ _ _ _ _ _ _ _ _ _ _ _ _ _ _ _ _ _ _ _ _ _ _ _ _ _ _ _ _ _ _ _ _ _ _ _ _ _ _ _ _ _ _ _ _ _ _ _ _ _ _ _ _ _ _ _ _ _ _ _ _ _ _ _ _ _ _ _ _ _ _ _ _ _ _ _ _ _ _ _ _ _ _ _ _ _ _ _ _ _ _ _ _ _ _ _
  | some af =>
    cases qc with
    | none =>
      conv => arg 2; whnf; arg 2; whnf
      go_wp2_with fail
      obtain ⟨z1, z2, z3, z4, z5, z6⟩ := HAL.out (.cells #[.int .i64 kind, .bool clean, .bool will, .int .i64 keep, .string (bs client), .bool present, .int .i64 code, .bool dup, .int .i64 qos, .bool retain, .string (bs topic), .string (bs payload), .int .i64 id, .slice (some ⟨w.heap.size + 1, 0, none⟩) fs.length (fs.length + 1), .slice none cs.length kc] 36)
      exact enc_mid ash aw w _ bw sv v xs kind clean will keep client present code dup qos retain topic payload id fs cs (some af) none kf kc _ _ HBK.out HGS.out H2.out h14 h19 h69 hk hi hl1 hl2 hl3 hlc hll HLF.out HF.out HC.out HE.out HN.out z6 z5 z1 z2 z3 z4 (fil_new z2 HFM.out _) (int_none HC.out) _ _ _ _ _ _ _ _ _ _ _ _ _ _ _ _ _ _ _ _ _ _ _ _ _ _ _ _ _ _ _ _ _ _ _ _ _ _ _ _ _ _ _ _ _ _ _ _ _ _ _ _ _ _ _ _ _ _ _ _ _ _ _ _ _ _ _ _ _ _ _ _ _ _ _ _ _ _ _ _ _ _ _ _ _ _ _ _ _ _ _ _ _ _ _ _ _ _ _ _ _ _ _ _ _ _ _ _ _ _ _ _ _ _ _ _ _ _ _ _ _ _ _ _ _ _ _ _ _ _ _ _ _ _ _ _ _ _ _ _ _ _ _ _ _ _ _ _ _ _ _ _ _ _ _ _ _ _ _ _ _ _ _ _ _ _ _ _ _ _ _ _ _ _ _ _ _ _ _ _ _ _ _ _ _ _ _ _ _ _ _ _ _ _ _ _ _ _ _ _ _ _ _
    | some ac =>
      conv => arg 2; whnf; arg 2; whnf
      go_wp2_with fail
      obtain ⟨z1, z2, z3, z4, z5, z6⟩ := HAL.out (.cells #[.int .i64 kind, .bool clean, .bool will, .int .i64 keep, .string (bs client), .bool present, .int .i64 code, .bool dup, .int .i64 qos, .bool retain, .string (bs topic), .string (bs payload), .int .i64 id, .slice (some ⟨w.heap.size + 1, 0, none⟩) fs.length (fs.length + 1), .slice (some ⟨w.heap.size + 2, 0, none⟩) cs.length (cs.length + 1)] 36)
      exact enc_mid ash aw w _ bw sv v xs kind clean will keep client present code dup qos retain topic payload id fs cs (some af) (some ac) kf kc _ _ HBK.out HGS.out H2.out h14 h19 h69 hk hi hl1 hl2 hl3 hlc hll HLF.out HF.out HC.out HE.out HN.out z6 z5 z1 z2 z3 z4 (fil_new z2 HFM.out _) (int_new z3 HCM.out _) _ _ _ _ _ _ _ _ _ _ _ _ _ _ _ _ _ _ _ _ _ _ _ _ _ _ _ _ _ _ _ _ _ _ _ _ _ _ _ _ _ _ _ _ _ _ _ _ _ _ _ _ _ _ _ _ _ _ _ _ _ _ _ _ _ _ _ _ _ _ _ _ _ _ _ _ _ _ _ _ _ _ _ _ _ _ _ _ _ _ _ _ _ _ _ _ _ _ _ _ _ _ _ _ _ _ _ _ _ _ _ _ _ _ _ _ _ _ _ _ _ _ _ _ _ _ _ _ _ _ _ _ _ _ _ _ _ _ _ _ _ _ _ _ _ _ _ _ _ _ _ _ _ _ _ _ _ _ _ _ _ _ _ _ _ _ _ _ _ _ _ _ _ _ _ _ _ _ _ _ _ _ _ _ _ _ _ _ _ _ _ _ _ _ _ _ _ _ _ _ _ _ _
end Go.Proofs.YtnmfmoimjkoieaaGreatDoor.lb
