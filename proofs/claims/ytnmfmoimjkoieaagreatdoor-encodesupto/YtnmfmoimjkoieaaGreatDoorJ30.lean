import Derived.Test.YtnmfmoimjkoieaaGreatDoorJ29
import Derived.Deep.RegionHeld3
import Derived.Deep.DrawnRows
/- courantref.Bytes: PUBREL, SUBSCRIBE, UNSUBSCRIBE. -/
namespace Go.Proofs.YtnmfmoimjkoieaaGreatDoor.rfe
open Go.RowKit Go.Proofs.YtnmfmoimjkoieaaGreatDoor.topPlain Go.Proofs.YtnmfmoimjkoieaaGreatDoor.topWalks Go.Proofs.YtnmfmoimjkoieaaGreatDoor.decPlain Go.Proofs.YtnmfmoimjkoieaaGreatDoor.encPlain Go.Proofs.YtnmfmoimjkoieaaGreatDoor.ew
open Go.Proofs.YtnmfmoimjkoieaaGreatDoor.rd (pkCells fixedF)

set_option maxHeartbeats 3200000 in
set_option maxRecDepth 100000 in
theorem bytesD6_any (p : Pkt) (fs : List (List UInt8 × Int)) (cs : List Int) (w : World) (kk : p.kind = 6) (h0 : -9223372036854775808 ≤ p.id) (h1 : p.id ≤ 9223372036854775807) (hf : FilX w p.fv fs) (hc : IntX w p.cv cs) (hB : (bodyR p fs cs).length ≤ 1099511627776) :
    Calls Tryz.prog 70 #[.agg (pkCells p)] w fun e w' => e = .returned (.string (bs (bytesR p fs cs))) ∧ Below w.heap.size w w' := by
  have k1 : p.kind ≠ 1 := by omega
  have k2 : p.kind ≠ 2 := by omega
  have k3 : p.kind ≠ 3 := by omega
  have hK8 : (p.kind == 8) = false := by rw [kk]; rfl
  have hBd : bodyR p fs cs = twoR p.id ++ fs.flatMap (filR' false) ++ cs.map byt8 := by unfold bodyR; rw [if_neg k1, if_neg k2, if_neg k3, if_neg (by omega), hK8]
  have hFl : flagsR p = 2 := by unfold flagsR fixedF; rw [if_neg k3]; rw [kk]; rfl
  have c1 := hide fun n w => one_any n w
  have c3 := hide fun w => two_any p.id w h0 h1
  have c4 := hide fun l w (hl : l.length ≤ 1099511627776) => text_any l w hl
  obtain ⟨qf, kf, hfv, hfl, hfc⟩ := hf
  obtain ⟨qc, kc, hcv, hcl, hcc⟩ := hc
  have HFC := hide hfc
  have HCC := hide hcc
  clear hfc hcc
  unfold maxLen at hfl hcl
  have hsz := fun l => bsz l
  have htx := fun l => txtR_len l
  rw [hBd] at hB
  obtain ⟨G, hG⟩ : ∃ G, bytesR p fs cs = G := ⟨_, rfl⟩
  rw [hG]
  have hG2 : G = byt8 (16 * p.kind + 2) :: (lenR (twoR p.id ++ fs.flatMap (filR' false) ++ cs.map byt8).length ++ (twoR p.id ++ fs.flatMap (filR' false) ++ cs.map byt8)) := by rw [← hG]; unfold bytesR firstR; rw [hBd, hFl]
  have HG := hide hG2
  have HLB := hide hB
  clear hG hG2 hBd hFl h0 h1 hB hK8
  obtain ⟨kind, clean, will, keep, client, present, code, dup, qos, retain, topic, payload, id, fv, cv⟩ := p
  simp only at hfv hcv c3 kk
  subst hfv hcv
  subst kk
  clear k1 k2 k3
  simp only [pkCells]
  have HST := hide (St.new w (.cells #[.int .i64 6, .bool clean, .bool will, .int .i64 keep, .string (bs client), .bool present, .int .i64 code, .bool dup, .int .i64 qos, .bool retain, .string (bs topic), .string (bs payload), .int .i64 id, .slice qf fs.length kf, .slice qc cs.length kc] 36))
  go_enter Tryz.func70, Tryz.ntmps70
  go_wp2_with fail
  rename_i aB KA aA KC aC
  have HK := hide aB
  clear aB
  refine (c3.out _).mono ?_
  rintro e w1 ⟨rfl, hb1⟩
  have hst1 := HST.out.call hb1
  obtain ⟨x0, x1, x2, x3, x4, x5, x6, x7, x8, x9, x10, x11, x12, x13, x14⟩ := pk15 hst1.blk
  have HST1 := hide hst1
  clear hb1 hst1
  go_wp2_with fail
  clear x0 x1 x2 x3 x4 x5 x6 x7 x8 x9 x10 x11 x12 x13 x14
  go_loopw [3, 5] (fun s i wx => ∃ k : Nat, k ≤ fs.length ∧ i = .int .i64 k ∧ s = .string (bs (twoR id ++ (fs.take k).flatMap (filR' false))) ∧ St w wx (.cells #[.int .i64 6, .bool clean, .bool will, .int .i64 keep, .string (bs client), .bool present, .int .i64 code, .bool dup, .int .i64 qos, .bool retain, .string (bs topic), .string (bs payload), .int .i64 id, .slice qf fs.length kf, .slice qc cs.length kc] 36)) (fun _ i _ => fs.length - (intOf i).toNat)
  case atStart => exact ⟨0, Nat.zero_le _, rfl, by simp, HST1.out⟩
  case round =>
    obtain ⟨k, hk, rfl, rfl, hst⟩ := hrel
    obtain ⟨x0, x1, x2, x3, x4, x5, x6, x7, x8, x9, x10, x11, x12, x13, x14⟩ := pk15 hst.blk
    have HSTk := hide hst
    by_cases hltk : k < fs.length
    · obtain ⟨f, hf⟩ : ∃ f, fs[k]? = some f := ⟨_, List.getElem?_eq_getElem hltk⟩
      obtain ⟨g, o, rfl, hg, m1, m2⟩ := HFC.out k f hf
      have m1' : wr.cell? ⟨g, o + k * 2, none⟩ = some (.string (bs f.1)) := by rw [hst.below.cell (by exact hg)]; exact m1
      have hft : (fs.take (k + 1)).flatMap (filR' false) = (fs.take k).flatMap (filR' false) ++ filR' false f := by rw [List.take_add_one, hf]; simp
      have hfn : ((fs.take (k + 1)).flatMap (filR' false)).length ≤ (fs.flatMap (filR' false)).length := flat_le _ _ _
      have hlb := HLB.out
      rw [hft] at hfn
      simp only [List.length_append, filR', txtR_len] at hfn hlb
      obtain ⟨A, hA⟩ : ∃ A, A = twoR id ++ (fs.take k).flatMap (filR' false) := ⟨_, rfl⟩
      have hAl : A.length + (2 + f.1.length) ≤ 1099511627776 := by rw [hA, List.length_append]; omega
      have hfl1 : f.1.length ≤ 1099511627776 := by omega
      rw [← hA]
      have HA := hide hA
      have HFT := hide hft
      clear hA hft hfn hlb hst hf m1
      go_wp2_with fail
      refine (c4.out _ _ hfl1).mono ?_
      rintro e w2 ⟨rfl, hb2⟩
      have hst2 := HSTk.out.call hb2
      have m2' : w2.cell? ⟨g, o + k * 2 + 1, none⟩ = some (.int .i64 f.2) := by rw [hst2.below.cell (by exact hg)]; exact m2
      clear x0 x1 x2 x3 x4 x5 x6 x7 x8 x9 x10 x11 x12 x13 x14 m1'
      obtain ⟨x0, x1, x2, x3, x4, x5, x6, x7, x8, x9, x10, x11, x12, x13, x14⟩ := pk15 hst2.blk
      have HST2 := hide hst2
      clear hb2 hst2 m2
      go_wp2
      go_roundw
      case rel => exact ⟨k + 1, by omega, by go_num, by rw [HFT.out, ← List.append_assoc, ← HA.out, bs_append]; simp [filR'], HST2.out⟩
      case measure => simp [intOf]; omega
    · have hft : fs.take k = fs := List.take_of_length_le (by omega)
      rw [hft]
      obtain ⟨A, hA⟩ : ∃ A, A = twoR id ++ fs.flatMap (filR' false) := ⟨_, rfl⟩
      rw [← hA]
      have HA := hide hA
      clear hft hA hst
      go_wp2_with fail
      clear x0 x1 x2 x3 x4 x5 x6 x7 x8 x9 x10 x11 x12 x13 x14 hltk hk
      go_loopw [3, 6] (fun s i wx => ∃ k : Nat, k ≤ cs.length ∧ i = .int .i64 k ∧ s = .string (bs (A ++ (cs.take k).map byt8)) ∧ St w wx (.cells #[.int .i64 6, .bool clean, .bool will, .int .i64 keep, .string (bs client), .bool present, .int .i64 code, .bool dup, .int .i64 qos, .bool retain, .string (bs topic), .string (bs payload), .int .i64 id, .slice qf fs.length kf, .slice qc cs.length kc] 36)) (fun _ i _ => cs.length - (intOf i).toNat)
      case atStart => exact ⟨0, Nat.zero_le _, rfl, by simp, HSTk.out⟩
      case round =>
        obtain ⟨k, hk, rfl, rfl, hst⟩ := hrel
        obtain ⟨x0, x1, x2, x3, x4, x5, x6, x7, x8, x9, x10, x11, x12, x13, x14⟩ := pk15 hst.blk
        have HSTj := hide hst
        by_cases hltk : k < cs.length
        · obtain ⟨c, hc⟩ : ∃ c, cs[k]? = some c := ⟨_, List.getElem?_eq_getElem hltk⟩
          obtain ⟨g, o, rfl, hg, m1⟩ := HCC.out k c hc
          have m1' : wr.cell? ⟨g, o + k, none⟩ = some (.int .i64 c) := by rw [hst.below.cell (by exact hg)]; exact m1
          have hct : (cs.take (k + 1)).map byt8 = (cs.take k).map byt8 ++ [byt8 c] := by rw [List.take_add_one, hc]; simp
          have hlb := HLB.out
          rw [← HA.out] at hlb
          simp only [List.length_append, List.length_map] at hlb
          obtain ⟨D, hD⟩ : ∃ D, D = A ++ (cs.take k).map byt8 := ⟨_, rfl⟩
          have hDl : D.length + 1 ≤ 1099511627776 := by rw [hD, List.length_append, List.length_map, List.length_take]; omega
          rw [← hD]
          have HD := hide hD
          have HCT := hide hct
          clear hD hct hlb hst hc m1
          go_wp2_with fail
          refine (c1.out _ _).mono ?_
          rintro e w3 ⟨rfl, hb3⟩
          have HST3 := hide (HSTj.out.call hb3)
          clear hb3
          go_wp2
          go_roundw
          case rel => exact ⟨k + 1, by omega, by go_num, by rw [HCT.out, ← List.append_assoc, ← HD.out, bs_append], HST3.out⟩
          case measure => simp [intOf]; omega
        · have hct : cs.take k = cs := List.take_of_length_le (by omega)
          rw [hct]
          clear hct hst
          go_wp2_with fail
          refine HK.out _ _ ?_
          exact byt_end w _ 6 clean will keep client present code dup qos retain topic payload id (.slice qf fs.length kf) (.slice qc cs.length kc) 2 (A ++ cs.map byt8) G _ rfl (by have h := HLB.out; rw [HA.out]; omega) (by rw [HA.out]; exact HG.out) HSTj.out _ _ _ _ _ _ _ _ _ _ _ _ _ _ _ _ _ _ _ _ _ _ _ _ _ _ _ _ _ _ _ _ _ _ _ _ _ _ _ _ _ _ _ _ _ _ _ _ _ _ _ _ _ _ _ _ _ _ _ _ _ _ _ _ _ _ _ _ _ _ _ _ _ _ _ _ _ _ _ _ _ _ _ _ _ _ _ _ _ _ _ _ _ _ _ _ _ _ _ _ _ _ _ _ _ _ _ _ _ _ _ _ _ _ _ _ _ _ _ _ _ _ _ _ _ _ _ _ _ _ _ _ _ _ _ _ _ _ _ _ _ _ _ _ _ _ _ _ _ _ _ _ _ _ _ _ _ _ _ _ _ _ _ _ _ _ _ _ _ _ _ _ _ _ _ _ _ _ _

set_option maxHeartbeats 3200000 in
set_option maxRecDepth 100000 in
theorem bytesD8_any (p : Pkt) (fs : List (List UInt8 × Int)) (cs : List Int) (w : World) (kk : p.kind = 8) (h0 : -9223372036854775808 ≤ p.id) (h1 : p.id ≤ 9223372036854775807) (hf : FilX w p.fv fs) (hc : IntX w p.cv cs) (hB : (bodyR p fs cs).length ≤ 1099511627776) :
    Calls Tryz.prog 70 #[.agg (pkCells p)] w fun e w' => e = .returned (.string (bs (bytesR p fs cs))) ∧ Below w.heap.size w w' := by
  have k1 : p.kind ≠ 1 := by omega
  have k2 : p.kind ≠ 2 := by omega
  have k3 : p.kind ≠ 3 := by omega
  have hK8 : (p.kind == 8) = true := by rw [kk]; rfl
  have hBd : bodyR p fs cs = twoR p.id ++ fs.flatMap (filR' true) ++ cs.map byt8 := by unfold bodyR; rw [if_neg k1, if_neg k2, if_neg k3, if_neg (by omega), hK8]
  have hFl : flagsR p = 2 := by unfold flagsR fixedF; rw [if_neg k3]; rw [kk]; rfl
  have c1 := hide fun n w => one_any n w
  have c3 := hide fun w => two_any p.id w h0 h1
  have c4 := hide fun l w (hl : l.length ≤ 1099511627776) => text_any l w hl
  obtain ⟨qf, kf, hfv, hfl, hfc⟩ := hf
  obtain ⟨qc, kc, hcv, hcl, hcc⟩ := hc
  have HFC := hide hfc
  have HCC := hide hcc
  clear hfc hcc
  unfold maxLen at hfl hcl
  have hsz := fun l => bsz l
  have htx := fun l => txtR_len l
  rw [hBd] at hB
  obtain ⟨G, hG⟩ : ∃ G, bytesR p fs cs = G := ⟨_, rfl⟩
  rw [hG]
  have hG2 : G = byt8 (16 * p.kind + 2) :: (lenR (twoR p.id ++ fs.flatMap (filR' true) ++ cs.map byt8).length ++ (twoR p.id ++ fs.flatMap (filR' true) ++ cs.map byt8)) := by rw [← hG]; unfold bytesR firstR; rw [hBd, hFl]
  have HG := hide hG2
  have HLB := hide hB
  clear hG hG2 hBd hFl h0 h1 hB hK8
  obtain ⟨kind, clean, will, keep, client, present, code, dup, qos, retain, topic, payload, id, fv, cv⟩ := p
  simp only at hfv hcv c3 kk
  subst hfv hcv
  subst kk
  clear k1 k2 k3
  simp only [pkCells]
  have HST := hide (St.new w (.cells #[.int .i64 8, .bool clean, .bool will, .int .i64 keep, .string (bs client), .bool present, .int .i64 code, .bool dup, .int .i64 qos, .bool retain, .string (bs topic), .string (bs payload), .int .i64 id, .slice qf fs.length kf, .slice qc cs.length kc] 36))
  go_enter Tryz.func70, Tryz.ntmps70
  go_wp2_with fail
  rename_i aB KA aA KC aC
  have HK := hide aB
  clear aB
  refine (c3.out _).mono ?_
  rintro e w1 ⟨rfl, hb1⟩
  have hst1 := HST.out.call hb1
  obtain ⟨x0, x1, x2, x3, x4, x5, x6, x7, x8, x9, x10, x11, x12, x13, x14⟩ := pk15 hst1.blk
  have HST1 := hide hst1
  clear hb1 hst1
  go_wp2_with fail
  clear x0 x1 x2 x3 x4 x5 x6 x7 x8 x9 x10 x11 x12 x13 x14
  go_loopw [3, 5] (fun s i wx => ∃ k : Nat, k ≤ fs.length ∧ i = .int .i64 k ∧ s = .string (bs (twoR id ++ (fs.take k).flatMap (filR' true))) ∧ St w wx (.cells #[.int .i64 8, .bool clean, .bool will, .int .i64 keep, .string (bs client), .bool present, .int .i64 code, .bool dup, .int .i64 qos, .bool retain, .string (bs topic), .string (bs payload), .int .i64 id, .slice qf fs.length kf, .slice qc cs.length kc] 36)) (fun _ i _ => fs.length - (intOf i).toNat)
  case atStart => exact ⟨0, Nat.zero_le _, rfl, by simp, HST1.out⟩
  case round =>
    obtain ⟨k, hk, rfl, rfl, hst⟩ := hrel
    obtain ⟨x0, x1, x2, x3, x4, x5, x6, x7, x8, x9, x10, x11, x12, x13, x14⟩ := pk15 hst.blk
    have HSTk := hide hst
    by_cases hltk : k < fs.length
    · obtain ⟨f, hf⟩ : ∃ f, fs[k]? = some f := ⟨_, List.getElem?_eq_getElem hltk⟩
      obtain ⟨g, o, rfl, hg, m1, m2⟩ := HFC.out k f hf
      have m1' : wr.cell? ⟨g, o + k * 2, none⟩ = some (.string (bs f.1)) := by rw [hst.below.cell (by exact hg)]; exact m1
      have hft : (fs.take (k + 1)).flatMap (filR' true) = (fs.take k).flatMap (filR' true) ++ filR' true f := by rw [List.take_add_one, hf]; simp
      have hfn : ((fs.take (k + 1)).flatMap (filR' true)).length ≤ (fs.flatMap (filR' true)).length := flat_le _ _ _
      have hlb := HLB.out
      rw [hft] at hfn
      simp only [List.length_append, filR', txtR_len] at hfn hlb
      obtain ⟨A, hA⟩ : ∃ A, A = twoR id ++ (fs.take k).flatMap (filR' true) := ⟨_, rfl⟩
      have hAl : A.length + (2 + f.1.length) ≤ 1099511627776 := by rw [hA, List.length_append]; omega
      have hfl1 : f.1.length ≤ 1099511627776 := by omega
      rw [← hA]
      have HA := hide hA
      have HFT := hide hft
      clear hA hft hfn hlb hst hf m1
      go_wp2_with fail
      refine (c4.out _ _ hfl1).mono ?_
      rintro e w2 ⟨rfl, hb2⟩
      have hst2 := HSTk.out.call hb2
      have m2' : w2.cell? ⟨g, o + k * 2 + 1, none⟩ = some (.int .i64 f.2) := by rw [hst2.below.cell (by exact hg)]; exact m2
      clear x0 x1 x2 x3 x4 x5 x6 x7 x8 x9 x10 x11 x12 x13 x14 m1'
      obtain ⟨x0, x1, x2, x3, x4, x5, x6, x7, x8, x9, x10, x11, x12, x13, x14⟩ := pk15 hst2.blk
      have HST2 := hide hst2
      clear hb2 hst2 m2
      go_wp2_with fail
      refine (c1.out _ _).mono ?_
      rintro e w3 ⟨rfl, hb3⟩
      have HST3 := hide (HST2.out.call hb3)
      clear hb3
      go_wp2
      go_roundw
      case rel => exact ⟨k + 1, by omega, by go_num, by rw [HFT.out, ← List.append_assoc, ← HA.out, bs_append, bs_append]; simp [filR'], HST3.out⟩
      case measure => simp [intOf]; omega
    · have hft : fs.take k = fs := List.take_of_length_le (by omega)
      rw [hft]
      obtain ⟨A, hA⟩ : ∃ A, A = twoR id ++ fs.flatMap (filR' true) := ⟨_, rfl⟩
      rw [← hA]
      have HA := hide hA
      clear hft hA hst
      go_wp2_with fail
      clear x0 x1 x2 x3 x4 x5 x6 x7 x8 x9 x10 x11 x12 x13 x14 hltk hk
      go_loopw [3, 6] (fun s i wx => ∃ k : Nat, k ≤ cs.length ∧ i = .int .i64 k ∧ s = .string (bs (A ++ (cs.take k).map byt8)) ∧ St w wx (.cells #[.int .i64 8, .bool clean, .bool will, .int .i64 keep, .string (bs client), .bool present, .int .i64 code, .bool dup, .int .i64 qos, .bool retain, .string (bs topic), .string (bs payload), .int .i64 id, .slice qf fs.length kf, .slice qc cs.length kc] 36)) (fun _ i _ => cs.length - (intOf i).toNat)
      case atStart => exact ⟨0, Nat.zero_le _, rfl, by simp, HSTk.out⟩
      case round =>
        obtain ⟨k, hk, rfl, rfl, hst⟩ := hrel
        obtain ⟨x0, x1, x2, x3, x4, x5, x6, x7, x8, x9, x10, x11, x12, x13, x14⟩ := pk15 hst.blk
        have HSTj := hide hst
        by_cases hltk : k < cs.length
        · obtain ⟨c, hc⟩ : ∃ c, cs[k]? = some c := ⟨_, List.getElem?_eq_getElem hltk⟩
          obtain ⟨g, o, rfl, hg, m1⟩ := HCC.out k c hc
          have m1' : wr.cell? ⟨g, o + k, none⟩ = some (.int .i64 c) := by rw [hst.below.cell (by exact hg)]; exact m1
          have hct : (cs.take (k + 1)).map byt8 = (cs.take k).map byt8 ++ [byt8 c] := by rw [List.take_add_one, hc]; simp
          have hlb := HLB.out
          rw [← HA.out] at hlb
          simp only [List.length_append, List.length_map] at hlb
          obtain ⟨D, hD⟩ : ∃ D, D = A ++ (cs.take k).map byt8 := ⟨_, rfl⟩
          have hDl : D.length + 1 ≤ 1099511627776 := by rw [hD, List.length_append, List.length_map, List.length_take]; omega
          rw [← hD]
          have HD := hide hD
          have HCT := hide hct
          clear hD hct hlb hst hc m1
          go_wp2_with fail
          refine (c1.out _ _).mono ?_
          rintro e w3 ⟨rfl, hb3⟩
          have HST3 := hide (HSTj.out.call hb3)
          clear hb3
          go_wp2
          go_roundw
          case rel => exact ⟨k + 1, by omega, by go_num, by rw [HCT.out, ← List.append_assoc, ← HD.out, bs_append], HST3.out⟩
          case measure => simp [intOf]; omega
        · have hct : cs.take k = cs := List.take_of_length_le (by omega)
          rw [hct]
          clear hct hst
          go_wp2_with fail
          refine HK.out _ _ ?_
          exact byt_end w _ 8 clean will keep client present code dup qos retain topic payload id (.slice qf fs.length kf) (.slice qc cs.length kc) 2 (A ++ cs.map byt8) G _ rfl (by have h := HLB.out; rw [HA.out]; omega) (by rw [HA.out]; exact HG.out) HSTj.out _ _ _ _ _ _ _ _ _ _ _ _ _ _ _ _ _ _ _ _ _ _ _ _ _ _ _ _ _ _ _ _ _ _ _ _ _ _ _ _ _ _ _ _ _ _ _ _ _ _ _ _ _ _ _ _ _ _ _ _ _ _ _ _ _ _ _ _ _ _ _ _ _ _ _ _ _ _ _ _ _ _ _ _ _ _ _ _ _ _ _ _ _ _ _ _ _ _ _ _ _ _ _ _ _ _ _ _ _ _ _ _ _ _ _ _ _ _ _ _ _ _ _ _ _ _ _ _ _ _ _ _ _ _ _ _ _ _ _ _ _ _ _ _ _ _ _ _ _ _ _ _ _ _ _ _ _ _ _ _ _ _ _ _ _ _ _ _ _ _ _ _ _ _ _ _ _ _ _

set_option maxHeartbeats 3200000 in
set_option maxRecDepth 100000 in
theorem bytesD10_any (p : Pkt) (fs : List (List UInt8 × Int)) (cs : List Int) (w : World) (kk : p.kind = 10) (h0 : -9223372036854775808 ≤ p.id) (h1 : p.id ≤ 9223372036854775807) (hf : FilX w p.fv fs) (hc : IntX w p.cv cs) (hB : (bodyR p fs cs).length ≤ 1099511627776) :
    Calls Tryz.prog 70 #[.agg (pkCells p)] w fun e w' => e = .returned (.string (bs (bytesR p fs cs))) ∧ Below w.heap.size w w' := by
  have k1 : p.kind ≠ 1 := by omega
  have k2 : p.kind ≠ 2 := by omega
  have k3 : p.kind ≠ 3 := by omega
  have hK8 : (p.kind == 8) = false := by rw [kk]; rfl
  have hBd : bodyR p fs cs = twoR p.id ++ fs.flatMap (filR' false) ++ cs.map byt8 := by unfold bodyR; rw [if_neg k1, if_neg k2, if_neg k3, if_neg (by omega), hK8]
  have hFl : flagsR p = 2 := by unfold flagsR fixedF; rw [if_neg k3]; rw [kk]; rfl
  have c1 := hide fun n w => one_any n w
  have c3 := hide fun w => two_any p.id w h0 h1
  have c4 := hide fun l w (hl : l.length ≤ 1099511627776) => text_any l w hl
  obtain ⟨qf, kf, hfv, hfl, hfc⟩ := hf
  obtain ⟨qc, kc, hcv, hcl, hcc⟩ := hc
  have HFC := hide hfc
  have HCC := hide hcc
  clear hfc hcc
  unfold maxLen at hfl hcl
  have hsz := fun l => bsz l
  have htx := fun l => txtR_len l
  rw [hBd] at hB
  obtain ⟨G, hG⟩ : ∃ G, bytesR p fs cs = G := ⟨_, rfl⟩
  rw [hG]
  have hG2 : G = byt8 (16 * p.kind + 2) :: (lenR (twoR p.id ++ fs.flatMap (filR' false) ++ cs.map byt8).length ++ (twoR p.id ++ fs.flatMap (filR' false) ++ cs.map byt8)) := by rw [← hG]; unfold bytesR firstR; rw [hBd, hFl]
  have HG := hide hG2
  have HLB := hide hB
  clear hG hG2 hBd hFl h0 h1 hB hK8
  obtain ⟨kind, clean, will, keep, client, present, code, dup, qos, retain, topic, payload, id, fv, cv⟩ := p
  simp only at hfv hcv c3 kk
  subst hfv hcv
  subst kk
  clear k1 k2 k3
  simp only [pkCells]
  have HST := hide (St.new w (.cells #[.int .i64 10, .bool clean, .bool will, .int .i64 keep, .string (bs client), .bool present, .int .i64 code, .bool dup, .int .i64 qos, .bool retain, .string (bs topic), .string (bs payload), .int .i64 id, .slice qf fs.length kf, .slice qc cs.length kc] 36))
  go_enter Tryz.func70, Tryz.ntmps70
  go_wp2_with fail
  rename_i aB KA aA KC aC
  have HK := hide aB
  clear aB
  refine (c3.out _).mono ?_
  rintro e w1 ⟨rfl, hb1⟩
  have hst1 := HST.out.call hb1
  obtain ⟨x0, x1, x2, x3, x4, x5, x6, x7, x8, x9, x10, x11, x12, x13, x14⟩ := pk15 hst1.blk
  have HST1 := hide hst1
  clear hb1 hst1
  go_wp2_with fail
  clear x0 x1 x2 x3 x4 x5 x6 x7 x8 x9 x10 x11 x12 x13 x14
  go_loopw [3, 5] (fun s i wx => ∃ k : Nat, k ≤ fs.length ∧ i = .int .i64 k ∧ s = .string (bs (twoR id ++ (fs.take k).flatMap (filR' false))) ∧ St w wx (.cells #[.int .i64 10, .bool clean, .bool will, .int .i64 keep, .string (bs client), .bool present, .int .i64 code, .bool dup, .int .i64 qos, .bool retain, .string (bs topic), .string (bs payload), .int .i64 id, .slice qf fs.length kf, .slice qc cs.length kc] 36)) (fun _ i _ => fs.length - (intOf i).toNat)
  case atStart => exact ⟨0, Nat.zero_le _, rfl, by simp, HST1.out⟩
  case round =>
    obtain ⟨k, hk, rfl, rfl, hst⟩ := hrel
    obtain ⟨x0, x1, x2, x3, x4, x5, x6, x7, x8, x9, x10, x11, x12, x13, x14⟩ := pk15 hst.blk
    have HSTk := hide hst
    by_cases hltk : k < fs.length
    · obtain ⟨f, hf⟩ : ∃ f, fs[k]? = some f := ⟨_, List.getElem?_eq_getElem hltk⟩
      obtain ⟨g, o, rfl, hg, m1, m2⟩ := HFC.out k f hf
      have m1' : wr.cell? ⟨g, o + k * 2, none⟩ = some (.string (bs f.1)) := by rw [hst.below.cell (by exact hg)]; exact m1
      have hft : (fs.take (k + 1)).flatMap (filR' false) = (fs.take k).flatMap (filR' false) ++ filR' false f := by rw [List.take_add_one, hf]; simp
      have hfn : ((fs.take (k + 1)).flatMap (filR' false)).length ≤ (fs.flatMap (filR' false)).length := flat_le _ _ _
      have hlb := HLB.out
      rw [hft] at hfn
      simp only [List.length_append, filR', txtR_len] at hfn hlb
      obtain ⟨A, hA⟩ : ∃ A, A = twoR id ++ (fs.take k).flatMap (filR' false) := ⟨_, rfl⟩
      have hAl : A.length + (2 + f.1.length) ≤ 1099511627776 := by rw [hA, List.length_append]; omega
      have hfl1 : f.1.length ≤ 1099511627776 := by omega
      rw [← hA]
      have HA := hide hA
      have HFT := hide hft
      clear hA hft hfn hlb hst hf m1
      go_wp2_with fail
      refine (c4.out _ _ hfl1).mono ?_
      rintro e w2 ⟨rfl, hb2⟩
      have hst2 := HSTk.out.call hb2
      have m2' : w2.cell? ⟨g, o + k * 2 + 1, none⟩ = some (.int .i64 f.2) := by rw [hst2.below.cell (by exact hg)]; exact m2
      clear x0 x1 x2 x3 x4 x5 x6 x7 x8 x9 x10 x11 x12 x13 x14 m1'
      obtain ⟨x0, x1, x2, x3, x4, x5, x6, x7, x8, x9, x10, x11, x12, x13, x14⟩ := pk15 hst2.blk
      have HST2 := hide hst2
      clear hb2 hst2 m2
      go_wp2
      go_roundw
      case rel => exact ⟨k + 1, by omega, by go_num, by rw [HFT.out, ← List.append_assoc, ← HA.out, bs_append]; simp [filR'], HST2.out⟩
      case measure => simp [intOf]; omega
    · have hft : fs.take k = fs := List.take_of_length_le (by omega)
      rw [hft]
      obtain ⟨A, hA⟩ : ∃ A, A = twoR id ++ fs.flatMap (filR' false) := ⟨_, rfl⟩
      rw [← hA]
      have HA := hide hA
      clear hft hA hst
      go_wp2_with fail
      clear x0 x1 x2 x3 x4 x5 x6 x7 x8 x9 x10 x11 x12 x13 x14 hltk hk
      go_loopw [3, 6] (fun s i wx => ∃ k : Nat, k ≤ cs.length ∧ i = .int .i64 k ∧ s = .string (bs (A ++ (cs.take k).map byt8)) ∧ St w wx (.cells #[.int .i64 10, .bool clean, .bool will, .int .i64 keep, .string (bs client), .bool present, .int .i64 code, .bool dup, .int .i64 qos, .bool retain, .string (bs topic), .string (bs payload), .int .i64 id, .slice qf fs.length kf, .slice qc cs.length kc] 36)) (fun _ i _ => cs.length - (intOf i).toNat)
      case atStart => exact ⟨0, Nat.zero_le _, rfl, by simp, HSTk.out⟩
      case round =>
        obtain ⟨k, hk, rfl, rfl, hst⟩ := hrel
        obtain ⟨x0, x1, x2, x3, x4, x5, x6, x7, x8, x9, x10, x11, x12, x13, x14⟩ := pk15 hst.blk
        have HSTj := hide hst
        by_cases hltk : k < cs.length
        · obtain ⟨c, hc⟩ : ∃ c, cs[k]? = some c := ⟨_, List.getElem?_eq_getElem hltk⟩
          obtain ⟨g, o, rfl, hg, m1⟩ := HCC.out k c hc
          have m1' : wr.cell? ⟨g, o + k, none⟩ = some (.int .i64 c) := by rw [hst.below.cell (by exact hg)]; exact m1
          have hct : (cs.take (k + 1)).map byt8 = (cs.take k).map byt8 ++ [byt8 c] := by rw [List.take_add_one, hc]; simp
          have hlb := HLB.out
          rw [← HA.out] at hlb
          simp only [List.length_append, List.length_map] at hlb
          obtain ⟨D, hD⟩ : ∃ D, D = A ++ (cs.take k).map byt8 := ⟨_, rfl⟩
          have hDl : D.length + 1 ≤ 1099511627776 := by rw [hD, List.length_append, List.length_map, List.length_take]; omega
          rw [← hD]
          have HD := hide hD
          have HCT := hide hct
          clear hD hct hlb hst hc m1
          go_wp2_with fail
          refine (c1.out _ _).mono ?_
          rintro e w3 ⟨rfl, hb3⟩
          have HST3 := hide (HSTj.out.call hb3)
          clear hb3
          go_wp2
          go_roundw
          case rel => exact ⟨k + 1, by omega, by go_num, by rw [HCT.out, ← List.append_assoc, ← HD.out, bs_append], HST3.out⟩
          case measure => simp [intOf]; omega
        · have hct : cs.take k = cs := List.take_of_length_le (by omega)
          rw [hct]
          clear hct hst
          go_wp2_with fail
          refine HK.out _ _ ?_
          exact byt_end w _ 10 clean will keep client present code dup qos retain topic payload id (.slice qf fs.length kf) (.slice qc cs.length kc) 2 (A ++ cs.map byt8) G _ rfl (by have h := HLB.out; rw [HA.out]; omega) (by rw [HA.out]; exact HG.out) HSTj.out _ _ _ _ _ _ _ _ _ _ _ _ _ _ _ _ _ _ _ _ _ _ _ _ _ _ _ _ _ _ _ _ _ _ _ _ _ _ _ _ _ _ _ _ _ _ _ _ _ _ _ _ _ _ _ _ _ _ _ _ _ _ _ _ _ _ _ _ _ _ _ _ _ _ _ _ _ _ _ _ _ _ _ _ _ _ _ _ _ _ _ _ _ _ _ _ _ _ _ _ _ _ _ _ _ _ _ _ _ _ _ _ _ _ _ _ _ _ _ _ _ _ _ _ _ _ _ _ _ _ _ _ _ _ _ _ _ _ _ _ _ _ _ _ _ _ _ _ _ _ _ _ _ _ _ _ _ _ _ _ _ _ _ _ _ _ _ _ _ _ _ _ _ _ _ _ _ _ _

end Go.Proofs.YtnmfmoimjkoieaaGreatDoor.rfe
