import Derived.Test.YtnmfmoimjkoieaaGreatDoorJ28
import Derived.Test.YtnmfmoimjkoieaaGreatDoorJ29
import Derived.Test.YtnmfmoimjkoieaaGreatDoorJ30
import Derived.Test.YtnmfmoimjkoieaaGreatDoorJ33
import Derived.Test.YtnmfmoimjkoieaaGreatDoorJ45
import Derived.Test.YtnmfmoimjkoieaaGreatDoorJ23
import Derived.Laws.CopyRow
/- courantref.Encode: the bytes of a packet, or none. -/
namespace Go.Proofs.YtnmfmoimjkoieaaGreatDoor.rfe
open Go.RowKit Go.Proofs.YtnmfmoimjkoieaaGreatDoor.topPlain Go.Proofs.YtnmfmoimjkoieaaGreatDoor.topWalks Go.Proofs.YtnmfmoimjkoieaaGreatDoor.decPlain Go.Proofs.YtnmfmoimjkoieaaGreatDoor.encPlain Go.Proofs.YtnmfmoimjkoieaaGreatDoor.ew
open Go.Proofs.YtnmfmoimjkoieaaGreatDoor.rd (pkCells decL zeroP CdPost filC ints own_below)
open Go.Proofs.YtnmfmoimjkoieaaGreatDoor.lw (Flat outP outF outC outN outE cd_flat)

def I64 (n : Int) : Prop := -9223372036854775808 ≤ n ∧ n ≤ 9223372036854775807
theorem bytes_any (p : Pkt) (fs : List (List UInt8 × Int)) (cs : List Int) (w : World) (hk : I64 p.keep) (hi : I64 p.id) (hl1 : p.client.length ≤ 1099511627776) (hl2 : p.topic.length ≤ 1099511627776) (hl3 : p.payload.length ≤ 1099511627776) (hf : FilX w p.fv fs) (hc : IntX w p.cv cs) (hB : (bodyR p fs cs).length ≤ 1099511627776) :
    Calls Tryz.prog 70 #[.agg (pkCells p)] w fun e w' => e = .returned (.string (bs (bytesR p fs cs))) ∧ Below w.heap.size w w' := by
  by_cases e1 : p.kind = 1
  · cases hw : p.will with
    | false => exact bytes1f_any p fs cs w e1 hw hk.1 hk.2 hl1 hl2 hl3
    | true => exact bytes1t_any p fs cs w e1 hw hk.1 hk.2 hl1 hl2 hl3
  by_cases e2 : p.kind = 2
  · exact bytes2_any p fs cs w e2
  by_cases e3 : p.kind = 3
  · by_cases hq : 0 < p.qos
    · exact bytes3p_any p fs cs w e3 hq hi.1 hi.2 hl2 hl3
    · exact bytes3z_any p fs cs w e3 hq hi.1 hi.2 hl2 hl3
  by_cases e12 : p.kind = 12
  · exact bytes12_any p fs cs w e12
  by_cases e13 : p.kind = 13
  · exact bytes13_any p fs cs w e13
  by_cases e14 : p.kind = 14
  · exact bytes14_any p fs cs w e14
  by_cases e6 : p.kind = 6
  · exact bytesD6_any p fs cs w e6 hi.1 hi.2 hf hc hB
  by_cases e8 : p.kind = 8
  · exact bytesD8_any p fs cs w e8 hi.1 hi.2 hf hc hB
  by_cases e10 : p.kind = 10
  · exact bytesD10_any p fs cs w e10 hi.1 hi.2 hf hc hB
  exact bytesDo_any p fs cs w e1 e2 e3 e12 e13 e14 e6 e8 e10 hi.1 hi.2 hf hc hB

theorem filN_append (a b : List (List UInt8 × Int)) : filN (a ++ b) = filN a + filN b := by
  induction a with
  | nil => simp [filN]
  | cons f r ih => simp [filN, ih]; omega
theorem filN_take (fs : List (List UInt8 × Int)) (k : Nat) : filN (fs.take k) ≤ filN fs := by
  conv => rhs; rw [← List.take_append_drop k fs]
  rw [filN_append]; omega
theorem filN_step {fs : List (List UInt8 × Int)} {k : Nat} {f : List UInt8 × Int} (h : fs[k]? = some f) : filN (fs.take (k + 1)) = filN (fs.take k) + (1 + f.1.length) := by
  rw [List.take_add_one, h, filN_append]; simp [filN]
theorem flat_len (k8 : Bool) : ∀ fs : List (List UInt8 × Int), (fs.flatMap (filR' k8)).length ≤ 4 * filN fs
  | [] => by simp
  | f :: r => by
    have := flat_len k8 r
    have h2 : (filR' k8 f).length ≤ 3 + f.1.length := by cases k8 <;> simp [filR', txtR_len] <;> omega
    rw [List.flatMap_cons, List.length_append, filN]
    omega
theorem body_len (p : Pkt) (fs : List (List UInt8 × Int)) (cs : List Int) : (bodyR p fs cs).length ≤ 40 + 4 * weight p fs cs := by
  have hf := flat_len (p.kind == 8) fs
  unfold bodyR weight
  split
  · cases p.will <;> simp [txtR_len, twoR_len] <;> omega
  · split
    · simp; omega
    · split
      · split <;> simp [txtR_len, twoR_len] <;> omega
      · split
        · simp
        · simp only [List.length_append, twoR_len, List.length_map]; omega
theorem filX_of {w : World} {v : Value} {fs : List (List UInt8 × Int)} (h : rf.FilV w v fs) : FilX w v fs := by
  obtain ⟨q, cap, h1, h2, h3⟩ := h
  refine ⟨q, cap, h1, h2, fun j f hf => ?_⟩
  obtain ⟨g, e, hg, a, b⟩ := h3 j f hf
  exact ⟨g, 0, e, hg, by rw [Nat.zero_add]; exact a, by rw [Nat.zero_add]; exact b⟩
theorem intX_of {w : World} {v : Value} {cs : List Int} (h : rf.IntV w v cs) : IntX w v cs := by
  obtain ⟨q, cap, h1, h2, h3⟩ := h
  refine ⟨q, cap, h1, h2, fun j f hf => ?_⟩
  obtain ⟨g, e, hg, a⟩ := h3 j f hf
  exact ⟨g, 0, e, hg, by rw [Nat.zero_add]; exact a⟩
theorem ref_some {p : Pkt} {fs : List (List UInt8 × Int)} {cs : List Int} {D : Bool ⊕ ((Pkt × List (List UInt8 × Int) × List Int) × Nat)} (h : weight p fs cs ≤ 300 ∧ rangeB p) (hD : decL (bytesR p fs cs) = D) : (outE D ≠ 0 → refL p fs cs = none) ∧ (outE D = 0 → outN D = ((bytesR p fs cs).length : Int) → (sameP p (outP D) ∧ fs = outF D ∧ cs = outC D) → refL p fs cs = some (bytesR p fs cs)) ∧ (outE D = 0 → ¬ (outN D = ((bytesR p fs cs).length : Int) ∧ (sameP p (outP D) ∧ fs = outF D ∧ cs = outC D)) → refL p fs cs = none) := by
  unfold refL
  rw [if_pos h, hD]
  cases D with
  | inl b =>
    refine ⟨fun _ => rfl, fun h0 => ?_, fun _ _ => rfl⟩
    cases b <;> simp [outE] at h0
  | inr r =>
    obtain ⟨q, n⟩ := r
    refine ⟨fun h0 => absurd rfl h0, fun _ hn hs => ?_, fun _ hn => ?_⟩
    · exact if_pos ⟨Int.ofNat_inj.1 hn, hs⟩
    · exact if_neg (fun h => hn ⟨Int.ofNat_inj.2 h.1, h.2⟩)
theorem ref_none {p : Pkt} {fs : List (List UInt8 × Int)} {cs : List Int} (h : ¬ (weight p fs cs ≤ 300 ∧ rangeB p)) : refL p fs cs = none := by
  unfold refL
  rw [if_neg h]

set_option maxHeartbeats 3200000 in
set_option maxRecDepth 100000 in
theorem rEncode_any (p : Pkt) (fs : List (List UInt8 × Int)) (cs : List Int) (w : World) (hk : I64 p.keep) (hi : I64 p.id) (hl1 : p.client.length ≤ 1048576) (hl2 : p.topic.length ≤ 1048576) (hl3 : p.payload.length ≤ 1048576) (hlc : cs.length ≤ 1048576) (hlf : ∀ f, f ∈ fs → f.1.length ≤ 1048576) (hf : FilX w p.fv fs) (hc : IntX w p.cv cs) (hI : topWalks.Inv w) (hN : 5 ≤ w.heap.size) :
    Calls Tryz.prog 41 #[.agg (pkCells p)] w fun e w' => e = .returned (.tuple #[.string (bs ((refL p fs cs).getD [])), .bool (refL p fs cs).isSome]) ∧ Below w.heap.size w w' := by
  have HF := hide hf
  have HC := hide hc
  have HI := hide hI
  have HNN := hide hN
  have cB := hide fun (h : weight p fs cs ≤ 300) w' (hb : Below w.heap.size w w') => bytes_any p fs cs w' hk hi (by omega) (by omega) (by omega) (hf.below hb) (hc.below hb) (by have := body_len p fs cs; omega)
  have hWt : weight p fs cs = p.client.length + p.topic.length + p.payload.length + cs.length + filN fs := rfl
  have HWT := hide hWt
  have HLF := hide hlf
  clear hk hi hf hc hI hN hWt hlf
  obtain ⟨R, hR⟩ : ∃ R, refL p fs cs = R := ⟨_, rfl⟩
  rw [hR]
  have HR := hide hR
  clear hR
  obtain ⟨kind, clean, will, keep, client, present, code, dup, qos, retain, topic, payload, id, fv, cv⟩ := p
  simp only at hl1 hl2 hl3
  obtain ⟨qf, kf, rfl, hfl, hfc⟩ := HF.out
  obtain ⟨qc, kc, rfl, hcl, hcc⟩ := HC.out
  have HFC := hide hfc
  clear hfc hcc
  unfold maxLen at hfl hcl
  have hsz := fun l => bsz l
  simp only [pkCells] at cB ⊢
  have HST := hide (St.new w (.cells #[.int .i64 kind, .bool clean, .bool will, .int .i64 keep, .string (bs client), .bool present, .int .i64 code, .bool dup, .int .i64 qos, .bool retain, .string (bs topic), .string (bs payload), .int .i64 id, .slice qf fs.length kf, .slice qc cs.length kc] 36))
  go_enter Tryz.func41, Tryz.ntmps41
  go_wp2_with fail
  go_loopw [4, 5] (fun nn i wx => ∃ k : Nat, k ≤ fs.length ∧ i = .int .i64 k ∧ nn = .int .i64 ((client.length + topic.length + payload.length + cs.length + filN (fs.take k) : Nat) : Int) ∧ client.length + topic.length + payload.length + cs.length + filN (fs.take k) ≤ 4194304 + 1048577 ∧ wx = w.alloc (.cells #[.int .i64 kind, .bool clean, .bool will, .int .i64 keep, .string (bs client), .bool present, .int .i64 code, .bool dup, .int .i64 qos, .bool retain, .string (bs topic), .string (bs payload), .int .i64 id, .slice qf fs.length kf, .slice qc cs.length kc] 36)) (fun _ i _ => fs.length - (intOf i).toNat)
  case atStart => exact ⟨0, Nat.zero_le _, rfl, by simp [filN]; try omega, by simp [filN]; omega, rfl⟩
  case round =>
    obtain ⟨k, hk, rfl, rfl, hnb, rfl⟩ := hrel
    by_cases hgo : k < fs.length ∧ client.length + topic.length + payload.length + cs.length + filN (fs.take k) ≤ 300
    · obtain ⟨hlt, hn3⟩ := hgo
      obtain ⟨f, hf⟩ : ∃ f, fs[k]? = some f := ⟨_, List.getElem?_eq_getElem hlt⟩
      obtain ⟨g, o, rfl, hg, m1, _⟩ := HFC.out k f hf
      have hfm := HLF.out f (List.mem_of_getElem? hf)
      have hstep := filN_step hf
      have hstep2 : client.length + topic.length + payload.length + cs.length + filN (fs.take (k + 1)) = client.length + topic.length + payload.length + cs.length + filN (fs.take k) + (1 + f.1.length) := by rw [hstep]; omega
      have HSP := hide hstep2
      clear hstep hstep2 hf
      generalize hN0 : client.length + topic.length + payload.length + cs.length + filN (fs.take k) = N0 at *
      clear hN0
      go_wp2
      go_roundw
      case rel => exact ⟨k + 1, by omega, by go_num, by rw [HSP.out]; go_num, by rw [HSP.out]; omega, by first | rfl | trivial⟩
      case measure => simp [intOf]; omega
    · have hmon := filN_take fs k
      have hwt := HWT.out
      by_cases hW : weight ⟨kind, clean, will, keep, client, present, code, dup, qos, retain, topic, payload, id, .slice qf fs.length kf, .slice qc cs.length kc⟩ fs cs ≤ 300 ∧ rangeB ⟨kind, clean, will, keep, client, present, code, dup, qos, retain, topic, payload, id, .slice qf fs.length kf, .slice qc cs.length kc⟩
      · have hkl : k = fs.length := by
          have := hW.1
          rw [hwt] at this
          by_cases h : k < fs.length
          · exact absurd ⟨h, by omega⟩ hgo
          · omega
        subst hkl
        rw [List.take_of_length_le (Nat.le_refl _)] at hnb hgo ⊢
        have hw3 := hW.1
        rw [hwt] at hw3
        obtain ⟨r1, r2, r3, r4, r5, r6, r7⟩ := hW.2
        simp only at r1 r2 r3 r4 r5 r6 r7
        have HW := hide hW
        clear hgo hmon hwt hW
        generalize hN0 : client.length + topic.length + payload.length + cs.length + filN fs = N0 at *
        clear hN0
        have hlt' : ¬ ((fs.length : Int) < (fs.length : Int)) := by omega
        have t1 : ¬ (300 : Int) < (N0 : Int) := by omega
        have t2 : ¬ kind < 1 := by omega
        have t3 : ¬ 14 < kind := by omega
        have t4 : ¬ qos < 0 := by omega
        have t5 : ¬ 2 < qos := by omega
        have t6 : ¬ keep < 0 := by omega
        have t7 : ¬ id < 0 := by omega
        have t8 : ¬ code < 0 := by omega
        go_wp2_with fail
        refine (cB.out HW.out.1 _ HST.out.below).mono ?_
        rintro e w1 ⟨rfl, hb1⟩
        have HST1 := hide (HST.out.call hb1)
        clear hb1 t1 t2 t3 t4 t5 t6 t7 t8
        obtain ⟨S, hS⟩ : ∃ S, bytesR ⟨kind, clean, will, keep, client, present, code, dup, qos, retain, topic, payload, id, .slice qf fs.length kf, .slice qc cs.length kc⟩ fs cs = S := ⟨_, rfl⟩
        have hrs := ref_some (D := decL S) HW.out (by rw [hS])
        rw [hS, HR.out] at hrs
        rw [hS]
        clear hS
        have cD := hide ((rf.dDecode_any (bs S) w1 (HI.out.below HST1.out.below) (by have := HNN.out; have := HST1.out.lt; omega)).mono (fun _ _ h => show Flat (outP (decL S)) (outF (decL S)) (outC (decL S)) (outN (decL S)) (outE (decL S)) _ _ _ from cd_flat h))
        revert hrs cD
        generalize outP (decL S) = P
        generalize outF (decL S) = gs
        generalize outC (decL S) = ds
        generalize outN (decL S) = n
        generalize outE (decL S) = er
        intro hrs cD
        obtain ⟨hr1, hr2, hr3⟩ := hrs
        have HR1 := hide hr1
        have HR2 := hide hr2
        have HR3 := hide hr3
        clear hr1 hr2 hr3 HR
        go_wp2_with fail
        refine cD.out.mono ?_
        rintro e w2 ⟨hb2, a1, c1, a2, c2, rfl, ho1, ho2⟩
        have HO1 := hide ho1
        have HO2 := hide ho2
        have hst2 := HST1.out.call hb2
        obtain ⟨x0, x1, x2, x3, x4, x5, x6, x7, x8, x9, x10, x11, x12, x13, x14⟩ := pk15 hst2.blk
        have hlt2 := hst2.lt
        have HST2 := hide hst2
        clear hb2 ho1 ho2 hst2 cD
        simp only [pkCells]
        have HBA := hide fun o => HST2.out.below.alloc (Nat.le_of_lt HST2.out.lt) o
        have cS := hide fun o => dsame_any ⟨kind, clean, will, keep, client, present, code, dup, qos, retain, topic, payload, id, .slice qf fs.length kf, .slice qc cs.length kc⟩ { P with fv := .slice a1 gs.length c1, cv := .slice a2 ds.length c2 } fs gs cs ds (w2.alloc o) (HF.out.below (HBA.out o)) (filX_of (lw.filV_of (own_below HO1.out ((Below.refl _ _).alloc (Nat.le_refl _) o)))) (HC.out.below (HBA.out o)) (intX_of (lw.intV_of (own_below HO2.out ((Below.refl _ _).alloc (Nat.le_refl _) o))))
        simp only [pkCells] at cS
        go_wp2_with fail
        refine (cS.out _).mono ?_
        rintro e w3 ⟨rfl, hb3⟩
        have HB3 := hide ((HBA.out _).trans (hb3.mono (by simp; omega)))
        clear hb3 x0 x1 x2 x3 x4 x5 x6 x7 x8 x9 x10 x11 x12 x13 x14
        obtain ⟨A, hA⟩ : ∃ A, decide (sameP ⟨kind, clean, will, keep, client, present, code, dup, qos, retain, topic, payload, id, .slice qf fs.length kf, .slice qc cs.length kc⟩ { P with fv := .slice a1 gs.length c1, cv := .slice a2 ds.length c2 } ∧ fs = gs ∧ cs = ds) = A := ⟨_, rfl⟩
        rw [hA]
        have hAA : (sameP ⟨kind, clean, will, keep, client, present, code, dup, qos, retain, topic, payload, id, .slice qf fs.length kf, .slice qc cs.length kc⟩ P ∧ fs = gs ∧ cs = ds) ↔ A = true := by rw [← hA]; exact decide_eq_true_iff.symm
        have HAA := hide hAA
        clear hA hAA cS
        by_cases he : er = 0
        · subst he
          by_cases hn : n = (S.length : Int)
          · subst hn
            have hnn : ((S.length : Int) != (S.length : Int)) = false := by simp
            cases A with
            | true =>
              have hRs := HR2.out rfl rfl (HAA.out.2 rfl)
              subst hRs
              clear HR1 HR2 HR3 HAA
              go_wp2
              go_ret2
              exact ⟨rfl, HB3.out⟩
            | false =>
              have hRs := HR3.out rfl (fun h => Bool.noConfusion (HAA.out.1 h.2))
              subst hRs
              clear HR1 HR2 HR3 HAA
              go_wp2
              go_ret2
              exact ⟨rfl, HB3.out⟩
          · have hb : (n == (S.length : Int)) = false := beq_eq_false_iff_ne.2 hn
            have hb2 : (n != (S.length : Int)) = true := by unfold bne; rw [hb]; rfl
            have hRs := HR3.out rfl (fun h => hn h.1)
            subst hRs
            clear HR1 HR2 HR3 HAA hn
            go_wp2
            go_ret2
            exact ⟨rfl, HB3.out⟩
        · have hb : (er == 0) = false := beq_eq_false_iff_ne.2 he
          have hb2 : (er != 0) = true := by unfold bne; rw [hb]; rfl
          have hRs := HR1.out he
          subst hRs
          clear HR1 HR2 HR3 HAA he
          go_wp2
          go_ret2
          exact ⟨rfl, HB3.out⟩
      · have hRn : R = none := by rw [← HR.out]; exact ref_none hW
        subst hRn
        have HGO := hide hgo
        have HWN := hide hW
        generalize hN0 : client.length + topic.length + payload.length + cs.length + filN (fs.take k) = N0 at *
        clear cB HR hmon hwt hW hgo
        by_cases hlt : k < fs.length
        · have t1 : (300 : Int) < (N0 : Int) := by have h := HGO.out; omega
          have t0 : ¬ ((N0 : Int) ≤ 300) := by omega
          go_wp2
          go_ret2
          exact ⟨rfl, HST.out.below⟩
        · have hkl : k = fs.length := by omega
          have hN1 : N0 = weight ⟨kind, clean, will, keep, client, present, code, dup, qos, retain, topic, payload, id, .slice qf fs.length kf, .slice qc cs.length kc⟩ fs cs := by rw [HWT.out, ← hN0, hkl, List.take_of_length_le (Nat.le_refl _)]
          have HN1 := hide hN1
          clear hN0 hN1 hkl
          by_cases t1 : (300 : Int) < (N0 : Int)
          · go_wp2
            go_ret2
            exact ⟨rfl, HST.out.below⟩
          by_cases t2 : kind < 1
          · go_wp2
            go_ret2
            exact ⟨rfl, HST.out.below⟩
          by_cases t3 : 14 < kind
          · go_wp2
            go_ret2
            exact ⟨rfl, HST.out.below⟩
          by_cases t4 : qos < 0
          · go_wp2
            go_ret2
            exact ⟨rfl, HST.out.below⟩
          by_cases t5 : 2 < qos
          · go_wp2
            go_ret2
            exact ⟨rfl, HST.out.below⟩
          by_cases t6 : keep < 0
          · go_wp2
            go_ret2
            exact ⟨rfl, HST.out.below⟩
          by_cases t7 : id < 0
          · go_wp2
            go_ret2
            exact ⟨rfl, HST.out.below⟩
          by_cases t8 : code < 0
          · go_wp2
            go_ret2
            exact ⟨rfl, HST.out.below⟩
          exact absurd ⟨by rw [← HN1.out]; omega, ⟨by simp only; omega, by simp only; omega, by simp only; omega, by simp only; omega, by simp only; omega, by simp only; omega, by simp only; omega⟩⟩ HWN.out
end Go.Proofs.YtnmfmoimjkoieaaGreatDoor.rfe

/- courantlaw.encodes. -/
namespace Go.Proofs.YtnmfmoimjkoieaaGreatDoor.lb
open Go.RowKit Go.Proofs.YtnmfmoimjkoieaaGreatDoor.topPlain Go.Proofs.YtnmfmoimjkoieaaGreatDoor.topWalks Go.Proofs.YtnmfmoimjkoieaaGreatDoor.decPlain Go.Proofs.YtnmfmoimjkoieaaGreatDoor.rd Go.Proofs.YtnmfmoimjkoieaaGreatDoor.lw Go.Proofs.YtnmfmoimjkoieaaGreatDoor.encPlain
open Go.Proofs.YtnmfmoimjkoieaaGreatDoor.rfe (FilX IntX I64 rEncode_any)
open Go.Proofs.YtnmfmoimjkoieaaGreatDoor.ew (CePost cEncode_any fwW cbW fw_same cb_same u8s)

theorem infoFil : (Tryz.prog.info? 95).map (fun i => (i.zero, i.size, i.bytes)) = some (some (.agg #[.string ⟨#[]⟩, .int .i64 0]), 2, 24) := by kernel_rfl
theorem infoInt8 : (Tryz.prog.info? 3).map (fun i => (i.zero, i.size, i.bytes)) = some (some (.int .i64 0), 1, 8) := by kernel_rfl
def cutSeq : Nat → Code → Code
  | 0, c => c
  | n + 1, .seq a c => .seq a (cutSeq n c)
  | _, c => c
theorem cutSeq_eq : ∀ (n : Nat) (c : Code), cutSeq n c = c
  | 0, _ => by simp [cutSeq]
  | n + 1, c => by
    cases c with
    | seq a b => rw [cutSeq, cutSeq_eq n b]
    | _ => simp [cutSeq]
theorem cut_body {P : Program} {Q : Exit → Act → World → Prop} {a : Act} {w : World} (n : Nat) (c : Code) (h : Code.wp P (cutSeq n c) Q a w) : Code.wp P c Q a w := by
  rw [cutSeq_eq] at h
  exact h
/-- copy of elements of two cells into a new row -/
theorem run_copy_two {P : Program} (w : World) (dT sT ty elem : TypeId) (g o dLen dCap : Nat) (a : Addr) (sLen sCap : Nat) (cur : Array Value) (t : TypeId) (cs : List Value)
    (hu : P.underlying dT = some (.slice elem)) (hs : (P.info? elem).map (·.size) = some 2)
    (hg : w.heap[g]? = some (.cells cur t (0, 0))) (hn : cs.length = Nat.min sLen dLen * 2)
    (hsrc : ∀ j v, cs[j]? = some v → w.cell? (a.add j) = some v) (hfit : o + cs.length ≤ cur.size) (h1 : ∀ v ∈ cs, v.oneCell' = true) :
    (Builtin.copy_ #[dT, sT] ty #[.slice (some ⟨g, o, none⟩) dLen dCap, .slice (some a) sLen sCap]).run P w =
      .ok (goInt (Nat.min sLen dLen : Nat)) (w.setRow g (cur.toList.take o ++ cs ++ cur.toList.drop (o + cs.length)).toArray) := by
  have hl := run_loadCells_list (P := P) w a cs hsrc
  have hst := run_storeCells_at P g o t cs 0 cur w hg (by simpa using hfit) h1
  cases hq : P.info? elem with
  | none => simp [hq] at hs
  | some i =>
    have hi : i.size = 2 := by simpa [hq] using hs
    rw [hn] at hl
    simp [Builtin.copy_, run_underlying hu, Builtin.lenOf, Builtin.firstCells, sizeOf, typeInfo, hq, hi, hl, hst]
def filNew (fs : List (List UInt8 × Int)) : Array Value := (filC fs ++ [Value.string ⟨#[]⟩, Value.int .i64 0]).toArray
def intNew (cs : List Int) : Array Value := (ints cs ++ [Value.int .i64 0]).toArray
theorem made_two (n : Nat) : (madeCells (Value.agg #[.string ⟨#[]⟩, .int .i64 0]).cells ((n + 1) * 2)).toList.drop (n * 2) = [Value.string ⟨#[]⟩, Value.int .i64 0] := by
  have hz : (Value.agg #[.string ⟨#[]⟩, .int .i64 0]).cells = #[Value.string ⟨#[]⟩, Value.int .i64 0] := by simp [Value.cells]
  rw [hz]
  have hm := size_madeCells #[Value.string ⟨#[]⟩, Value.int .i64 0] ((n + 1) * 2)
  apply List.ext_getElem?
  intro j
  rw [List.getElem?_drop]
  match j with
  | 0 => simp [madeCells]
  | 1 =>
    have e : (n * 2 + 1) % 2 = 1 := by omega
    have e2 : n * 2 + 1 < (n + 1) * 2 := by omega
    simp [madeCells, e, e2]
  | j + 2 => rw [List.getElem?_eq_none (by simp [hm]; omega)]; simp
theorem made_one (n : Nat) : (madeCells #[Value.int .i64 0] (n + 1)).toList.drop n = [Value.int .i64 0] := by
  have hm := size_madeCells #[Value.int .i64 0] (n + 1)
  apply List.ext_getElem?
  intro j
  rw [List.getElem?_drop]
  match j with
  | 0 => simp [madeCells, Nat.mod_one]
  | j + 1 => rw [List.getElem?_eq_none (by simp [hm])]; simp
set_option maxRecDepth 100000 in
theorem mk_fil (n : Nat) (hn : n ≤ 1048576) (w : World) : (Instr.makeSlice 33 (.int .i64 ((n : Int) + 1)) (.int .i64 ((n : Int) + 1))).run Tryz.prog w = .ok (.slice (some ⟨w.heap.size, 0, none⟩) (n + 1) (n + 1)) (w.alloc (.cells (madeCells (Value.agg #[.string ⟨#[]⟩, .int .i64 0]).cells ((n + 1) * 2)) 95)) := by
  obtain ⟨i, hi, hz0, hz1, hz2⟩ := info_parts infoFil
  have h := run_make (P := Tryz.prog) (w := w) 33 95 i _ Tryz.underlying33 hi hz0 .i64 .i64 ((n : Int) + 1) ((n : Int) + 1) (by omega) (by omega) (by rw [hz2]; omega) (by omega)
  rw [hz1, show ((n : Int) + 1).toNat = n + 1 by omega] at h
  exact h
set_option maxRecDepth 100000 in
theorem mk_int (n : Nat) (hn : n ≤ 1048576) (w : World) : (Instr.makeSlice 34 (.int .i64 ((n : Int) + 1)) (.int .i64 ((n : Int) + 1))).run Tryz.prog w = .ok (.slice (some ⟨w.heap.size, 0, none⟩) (n + 1) (n + 1)) (w.alloc (.cells (madeCells #[.int .i64 0] (n + 1)) 3)) := by
  have h := run_make_row' (P := Tryz.prog) 34 3 (.int .i64 0) 8 Tryz.underlying34 infoInt8 rfl .i64 .i64 (n + 1) (by omega) (by omega) w
  rw [show ((n + 1 : Nat) : Int) = (n : Int) + 1 by omega] at h
  exact h
set_option maxRecDepth 100000 in
theorem cp_fil (w : World) (q : Option Addr) (k : Nat) (fs : List (List UInt8 × Int)) (h : FilX w (.slice q fs.length k) fs) (ty : TypeId) :
    (Builtin.copy_ #[33, 33] ty #[.slice (some ⟨w.heap.size, 0, none⟩) (fs.length + 1) (fs.length + 1), .slice q fs.length k]).run Tryz.prog (w.alloc (.cells (madeCells (Value.agg #[.string ⟨#[]⟩, .int .i64 0]).cells ((fs.length + 1) * 2)) 95)) = .ok (goInt (fs.length : Nat)) (w.alloc (.cells (filNew fs) 95)) := by
  obtain ⟨i, hi, hz0, hz1, hz2⟩ := info_parts infoFil
  obtain ⟨q', k', e, hm, hat⟩ := h
  injection e with e1 e2 e3
  subst e1
  have hmin : Nat.min fs.length (fs.length + 1) = fs.length := Nat.min_eq_left (by omega)
  cases q with
  | none =>
    have hnil : fs = [] := by
      cases fs with
      | nil => rfl
      | cons f _ => obtain ⟨g, o, e, _⟩ := hat 0 f rfl; exact absurd e (by simp)
    subst hnil
    have hmd : madeCells (Value.agg #[.string ⟨#[]⟩, .int .i64 0]).cells ((0 + 1) * 2) = filNew [] := by
      have := made_two 0
      simp at this
      unfold filNew
      simp [filC]
      exact Array.toList_inj.1 (by simpa using this)
    simp only [List.length_nil]
    rw [hmd]
    simp [Builtin.copy_, run_underlying Tryz.underlying33, Builtin.lenOf, Builtin.firstCells, sizeOf, typeInfo, hi, storeCells]
  | some a =>
    have h := run_copy_two (P := Tryz.prog) (w.alloc (.cells (madeCells (Value.agg #[.string ⟨#[]⟩, .int .i64 0]).cells ((fs.length + 1) * 2)) 95)) 33 33 ty 95 w.heap.size 0 (fs.length + 1) (fs.length + 1) a fs.length k (madeCells (Value.agg #[.string ⟨#[]⟩, .int .i64 0]).cells ((fs.length + 1) * 2)) 95 (filC fs) Tryz.underlying33 (by rw [hi]; simp [hz1]) (Go.Deep.blk_alloc_new _ _) (by rw [filC_length, hmin]; try omega) ?_ (by rw [size_madeCells, filC_length]; omega) ?_
    · rw [hmin, World.setRow_alloc_new, List.take_zero, List.nil_append, filC_length, Nat.zero_add] at h
      first
        | rw [made_two] at h
          exact h
        | rw [Nat.mul_comm 2 fs.length, made_two] at h
          exact h
    · intro j u hu
      have hjl : j < fs.length * 2 := by have := (List.getElem?_eq_some_iff.1 hu).1; rw [filC_length] at this; exact this
      obtain ⟨f, hf⟩ : ∃ f, fs[j / 2]? = some f := ⟨_, List.getElem?_eq_getElem (by omega)⟩
      obtain ⟨g, o, rfl2, hg, m1, m2⟩ := hat (j / 2) f hf
      obtain ⟨c1, c2⟩ := lw.filC_get fs (j / 2) f hf
      injection rfl2 with rfl3
      subst rfl3
      have hb := (Below.refl w.heap.size w).alloc (Nat.le_refl _) (.cells (madeCells (Value.agg #[.string ⟨#[]⟩, .int .i64 0]).cells ((fs.length + 1) * 2)) 95)
      rw [show (⟨g, o, none⟩ : Addr).add j = ⟨g, o + j, none⟩ by simp [Addr.add], hb.cell hg]
      by_cases hev : j % 2 = 0
      · rw [show j / 2 * 2 = j by omega] at c1 m1
        rw [m1, ← hu, c1]
      · rw [show j / 2 * 2 + 1 = j by omega] at c2
        rw [show o + j / 2 * 2 + 1 = o + j by omega] at m2
        rw [m2, ← hu, c2]
    · intro u hu
      unfold filC at hu
      obtain ⟨f, _, hf⟩ := List.mem_flatMap.1 hu
      simp at hf
      rcases hf with rfl | rfl <;> rfl
set_option maxRecDepth 100000 in
theorem cp_int (w : World) (q : Option Addr) (k : Nat) (cs : List Int) (h : IntX w (.slice q cs.length k) cs) (ty : TypeId) :
    (Builtin.copy_ #[34, 34] ty #[.slice (some ⟨w.heap.size, 0, none⟩) (cs.length + 1) (cs.length + 1), .slice q cs.length k]).run Tryz.prog (w.alloc (.cells (madeCells #[.int .i64 0] (cs.length + 1)) 3)) = .ok (goInt (cs.length : Nat)) (w.alloc (.cells (intNew cs) 3)) := by
  obtain ⟨i, hi, hz0, hz1, hz2⟩ := info_parts infoInt8
  obtain ⟨q', k', e, hm, hat⟩ := h
  injection e with e1 e2 e3
  subst e1
  have hmin : Nat.min cs.length (cs.length + 1) = cs.length := Nat.min_eq_left (by omega)
  have hil : (ints cs).length = cs.length := by simp [ints]
  cases q with
  | none =>
    have hnil : cs = [] := by
      cases cs with
      | nil => rfl
      | cons f _ => obtain ⟨g, o, e, _⟩ := hat 0 f rfl; exact absurd e (by simp)
    subst hnil
    have hmd : madeCells #[Value.int .i64 0] (0 + 1) = intNew [] := by
      have := made_one 0
      rw [List.drop_zero] at this
      unfold intNew
      simp [ints]
      exact Array.toList_inj.1 (by simpa using this)
    simp only [List.length_nil]
    rw [hmd]
    simp [Builtin.copy_, run_underlying Tryz.underlying34, Builtin.lenOf, Builtin.firstCells, sizeOf, typeInfo, hi, storeCells]
  | some a =>
    have h := run_copy_row (P := Tryz.prog) (w.alloc (.cells (madeCells #[.int .i64 0] (cs.length + 1)) 3)) 34 34 ty 3 w.heap.size 0 (cs.length + 1) (cs.length + 1) a cs.length k (madeCells #[.int .i64 0] (cs.length + 1)) 3 (ints cs) Tryz.underlying34 (by rw [hi]; simp [hz1]) (Go.Deep.blk_alloc_new _ _) (by rw [hil, hmin]) ?_ (by rw [size_madeCells, hil]; omega) ?_
    · rw [World.setRow_alloc_new, List.take_zero, List.nil_append, hil, Nat.zero_add, made_one] at h
      exact h
    · intro j u hu
      have hjl : j < cs.length := by have := (List.getElem?_eq_some_iff.1 hu).1; rw [hil] at this; exact this
      obtain ⟨f, hf⟩ : ∃ f, cs[j]? = some f := ⟨_, List.getElem?_eq_getElem hjl⟩
      obtain ⟨g, o, rfl2, hg, m1⟩ := hat j f hf
      injection rfl2 with rfl3
      subst rfl3
      have hb := (Below.refl w.heap.size w).alloc (Nat.le_refl _) (.cells (madeCells #[.int .i64 0] (cs.length + 1)) 3)
      rw [show (⟨g, o, none⟩ : Addr).add j = ⟨g, o + j, none⟩ by simp [Addr.add], hb.cell hg, m1, ← hu]
      simp [ints, hf]
    · intro u hu
      simp [ints] at hu
      obtain ⟨c, _, rfl⟩ := hu
      rfl
end Go.Proofs.YtnmfmoimjkoieaaGreatDoor.lb
