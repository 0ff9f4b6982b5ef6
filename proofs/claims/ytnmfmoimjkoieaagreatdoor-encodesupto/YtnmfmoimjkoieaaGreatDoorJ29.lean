import Derived.Test.YtnmfmoimjkoieaaGreatDoorJ28
import Derived.Deep.RegionHeld3
import Derived.Deep.DrawnRows
/- courantref.Bytes: PUBLISH. -/
namespace Go.Proofs.YtnmfmoimjkoieaaGreatDoor.rfe
open Go.RowKit Go.Proofs.YtnmfmoimjkoieaaGreatDoor.topPlain Go.Proofs.YtnmfmoimjkoieaaGreatDoor.topWalks Go.Proofs.YtnmfmoimjkoieaaGreatDoor.decPlain Go.Proofs.YtnmfmoimjkoieaaGreatDoor.encPlain Go.Proofs.YtnmfmoimjkoieaaGreatDoor.ew
open Go.Proofs.YtnmfmoimjkoieaaGreatDoor.rd (pkCells fixedF)

theorem res3 (p : Pkt) (fs : List (List UInt8 × Int)) (cs : List Int) (G : List UInt8) (h : bytesR p fs cs = G) (hk : p.kind = 3) (F : Int) (hF : byt8 (16 * 3 + F) = byt8 (16 * 3 + (bitI p.dup 8 + 2 * p.qos + bitI p.retain 1))) (X : List UInt8) (hX : bodyR p fs cs = X) : G = byt8 (16 * 3 + F) :: (lenR X.length ++ X) := by
  rw [← h, hF]
  unfold bytesR firstR flagsR
  rw [hX, hk, if_pos rfl]
theorem fl_wrap (a q c : Int) : byt8 (16 * 3 + wrap64 (wrap64 (a + wrap64 (2 * q)) + c)) = byt8 (16 * 3 + (a + 2 * q + c)) := by
  unfold byt8 wrap64
  congr 2
  omega

set_option maxHeartbeats 3200000 in
set_option maxRecDepth 100000 in
theorem bytes3p_any (p : Pkt) (fs : List (List UInt8 × Int)) (cs : List Int) (w : World) (hk : p.kind = 3) (hq : 0 < p.qos) (h0 : -9223372036854775808 ≤ p.id) (h1 : p.id ≤ 9223372036854775807) (hl2 : p.topic.length ≤ 1099511627776) (hl3 : p.payload.length ≤ 1099511627776) :
    Calls Tryz.prog 70 #[.agg (pkCells p)] w fun e w' => e = .returned (.string (bs (bytesR p fs cs))) ∧ Below w.heap.size w w' := by
  have c1 := hide fun n w => one_any n w
  have c2 := hide fun b n w => rbit_any b n w
  have c3 := hide fun w => two_any p.id w h0 h1
  have c4 := hide fun l w (hl : l.length ≤ 1099511627776) => text_any l w hl
  clear h0 h1
  have hsz := fun l => bsz l
  obtain ⟨kind, clean, will, keep, client, present, code, dup, qos, retain, topic, payload, id, fv, cv⟩ := p
  simp only at hk
  subst hk
  simp only at hq hl2 hl3 c3
  have HQ := hide hq
  have hr1 : ¬ 9223372036854775807 < 2 + topic.length + 2 := by omega
  have hr2 : ¬ 9223372036854775807 < 2 + topic.length + 2 + payload.length := by omega
  generalize hG : bytesR _ fs cs = G
  have HG := hide hG
  clear hG
  simp only [pkCells]
  have HST := hide (St.new w (.cells #[.int .i64 3, .bool clean, .bool will, .int .i64 keep, .string (bs client), .bool present, .int .i64 code, .bool dup, .int .i64 qos, .bool retain, .string (bs topic), .string (bs payload), .int .i64 id, fv, cv] 36))
  have htw := fun n => twoR_len n
  have htx := fun l => txtR_len l
  go_enter Tryz.func70, Tryz.ntmps70
  go_wp2_with fail
  rename_i aB KA aA
  have HK := hide aB
  clear aB
  go_region_held3 (fun w' => w'.cell? ⟨w.heap.size, 0, none⟩ = some (.int .i64 3) ∧ w'.cell? ⟨w.heap.size, 1, none⟩ = some (.bool clean) ∧ w'.cell? ⟨w.heap.size, 2, none⟩ = some (.bool will) ∧ w'.cell? ⟨w.heap.size, 3, none⟩ = some (.int .i64 keep) ∧ w'.cell? ⟨w.heap.size, 4, none⟩ = some (.string (bs client)) ∧ w'.cell? ⟨w.heap.size, 5, none⟩ = some (.bool present) ∧ w'.cell? ⟨w.heap.size, 6, none⟩ = some (.int .i64 code) ∧ w'.cell? ⟨w.heap.size, 7, none⟩ = some (.bool dup) ∧ w'.cell? ⟨w.heap.size, 8, none⟩ = some (.int .i64 qos) ∧ w'.cell? ⟨w.heap.size, 9, none⟩ = some (.bool retain) ∧ w'.cell? ⟨w.heap.size, 10, none⟩ = some (.string (bs topic)) ∧ w'.cell? ⟨w.heap.size, 11, none⟩ = some (.string (bs payload)) ∧ w'.cell? ⟨w.heap.size, 12, none⟩ = some (.int .i64 id) ∧ w'.cell? ⟨w.heap.size, 13, none⟩ = some (fv) ∧ w'.cell? ⟨w.heap.size, 14, none⟩ = some (cv))
    (go_keep)
    (first
      | (go_at_call 99
         refine (c2.out _ _ _).mono ?_
         rintro e w5 ⟨rfl, rfl⟩))
  refine aA _ _ ?_
  have HST0 := hide HST.out.drew
  go_wp2_with fail
  refine (c4.out _ _ (by assumption)).mono ?_
  rintro e w6 ⟨rfl, hb6⟩
  have hst6 := HST0.out.call hb6
  obtain ⟨x0, x1, x2, x3, x4, x5, x6, x7, x8, x9, x10, x11, x12, x13, x14⟩ := pk15 hst6.blk
  have HST6 := hide hst6
  clear hb6 hst6
  go_wp2_with fail
  refine (c3.out _).mono ?_
  rintro e w7 ⟨rfl, hb7⟩
  have hst7 := HST6.out.call hb7
  obtain ⟨z0, z1, z2, z3, z4, z5, z6, z7, z8, z9, z10, z11, z12, z13, z14⟩ := pk15 hst7.blk
  have HST7 := hide hst7
  clear hb7 hst7
  go_wp2_with fail
  refine HK.out _ _ ?_
  exact byt_end w _ 3 clean will keep client present code dup qos retain topic payload id fv cv _ (txtR topic ++ twoR id ++ payload) G _ (by rw [bs_append, bs_append]) (by simp [htw, htx]; omega) (res3 ⟨3, clean, will, keep, client, present, code, dup, qos, retain, topic, payload, id, fv, cv⟩ fs cs G HG.out rfl _ (by (try simp only [i64w]); exact fl_wrap _ _ _) _ (by unfold bodyR; rw [if_neg (by simp), if_neg (by simp), if_pos rfl, if_pos HQ.out])) HST7.out _ _ _ _ _ _ _ _ _ _ _ _ _ _ _ _ _ _ _ _ _ _ _ _ _ _ _ _ _ _ _ _ _ _ _ _ _ _ _ _ _ _ _ _ _ _ _ _ _ _ _ _ _ _ _ _ _ _ _ _ _ _ _ _ _ _ _ _ _ _ _ _ _ _ _ _ _ _ _ _ _ _ _ _ _ _ _ _ _ _ _ _ _ _ _ _ _ _ _ _ _ _ _ _ _ _ _ _ _ _ _ _ _ _ _ _ _ _ _ _ _ _ _ _ _ _ _ _ _ _ _ _ _ _ _ _ _ _ _ _ _ _ _ _ _ _ _ _ _ _ _ _ _ _ _ _ _ _ _ _ _ _ _ _ _ _ _ _ _ _ _ _ _ _ _ _ _ _ _

set_option maxHeartbeats 3200000 in
set_option maxRecDepth 100000 in
theorem bytes3z_any (p : Pkt) (fs : List (List UInt8 × Int)) (cs : List Int) (w : World) (hk : p.kind = 3) (hq : ¬ 0 < p.qos) (h0 : -9223372036854775808 ≤ p.id) (h1 : p.id ≤ 9223372036854775807) (hl2 : p.topic.length ≤ 1099511627776) (hl3 : p.payload.length ≤ 1099511627776) :
    Calls Tryz.prog 70 #[.agg (pkCells p)] w fun e w' => e = .returned (.string (bs (bytesR p fs cs))) ∧ Below w.heap.size w w' := by
  have c1 := hide fun n w => one_any n w
  have c2 := hide fun b n w => rbit_any b n w
  have c3 := hide fun w => two_any p.id w h0 h1
  have c4 := hide fun l w (hl : l.length ≤ 1099511627776) => text_any l w hl
  clear h0 h1
  have hsz := fun l => bsz l
  obtain ⟨kind, clean, will, keep, client, present, code, dup, qos, retain, topic, payload, id, fv, cv⟩ := p
  simp only at hk
  subst hk
  simp only at hq hl2 hl3 c3
  have HQ := hide hq
  have hr2 : ¬ 9223372036854775807 < 2 + topic.length + payload.length := by omega
  generalize hG : bytesR _ fs cs = G
  have HG := hide hG
  clear hG
  simp only [pkCells]
  have HST := hide (St.new w (.cells #[.int .i64 3, .bool clean, .bool will, .int .i64 keep, .string (bs client), .bool present, .int .i64 code, .bool dup, .int .i64 qos, .bool retain, .string (bs topic), .string (bs payload), .int .i64 id, fv, cv] 36))
  have htw := fun n => twoR_len n
  have htx := fun l => txtR_len l
  go_enter Tryz.func70, Tryz.ntmps70
  go_wp2_with fail
  rename_i aB KA aA
  have HK := hide aB
  clear aB
  go_region_held3 (fun w' => w'.cell? ⟨w.heap.size, 0, none⟩ = some (.int .i64 3) ∧ w'.cell? ⟨w.heap.size, 1, none⟩ = some (.bool clean) ∧ w'.cell? ⟨w.heap.size, 2, none⟩ = some (.bool will) ∧ w'.cell? ⟨w.heap.size, 3, none⟩ = some (.int .i64 keep) ∧ w'.cell? ⟨w.heap.size, 4, none⟩ = some (.string (bs client)) ∧ w'.cell? ⟨w.heap.size, 5, none⟩ = some (.bool present) ∧ w'.cell? ⟨w.heap.size, 6, none⟩ = some (.int .i64 code) ∧ w'.cell? ⟨w.heap.size, 7, none⟩ = some (.bool dup) ∧ w'.cell? ⟨w.heap.size, 8, none⟩ = some (.int .i64 qos) ∧ w'.cell? ⟨w.heap.size, 9, none⟩ = some (.bool retain) ∧ w'.cell? ⟨w.heap.size, 10, none⟩ = some (.string (bs topic)) ∧ w'.cell? ⟨w.heap.size, 11, none⟩ = some (.string (bs payload)) ∧ w'.cell? ⟨w.heap.size, 12, none⟩ = some (.int .i64 id) ∧ w'.cell? ⟨w.heap.size, 13, none⟩ = some (fv) ∧ w'.cell? ⟨w.heap.size, 14, none⟩ = some (cv))
    (go_keep)
    (first
      | (go_at_call 99
         refine (c2.out _ _ _).mono ?_
         rintro e w5 ⟨rfl, rfl⟩))
  refine aA _ _ ?_
  have HST0 := hide HST.out.drew
  go_wp2_with fail
  refine (c4.out _ _ (by assumption)).mono ?_
  rintro e w6 ⟨rfl, hb6⟩
  have hst6 := HST0.out.call hb6
  obtain ⟨x0, x1, x2, x3, x4, x5, x6, x7, x8, x9, x10, x11, x12, x13, x14⟩ := pk15 hst6.blk
  have HST6 := hide hst6
  clear hb6 hst6
  go_wp2_with fail
  refine HK.out _ _ ?_
  exact byt_end w _ 3 clean will keep client present code dup qos retain topic payload id fv cv _ (txtR topic ++ [] ++ payload) G _ (by rw [bs_append, List.append_nil]) (by simp [htx]; omega) (res3 ⟨3, clean, will, keep, client, present, code, dup, qos, retain, topic, payload, id, fv, cv⟩ fs cs G HG.out rfl _ (by (try simp only [i64w]); exact fl_wrap _ _ _) _ (by unfold bodyR; rw [if_neg (by simp), if_neg (by simp), if_pos rfl, if_neg (by have := HQ.out; simp only; omega)])) HST6.out _ _ _ _ _ _ _ _ _ _ _ _ _ _ _ _ _ _ _ _ _ _ _ _ _ _ _ _ _ _ _ _ _ _ _ _ _ _ _ _ _ _ _ _ _ _ _ _ _ _ _ _ _ _ _ _ _ _ _ _ _ _ _ _ _ _ _ _ _ _ _ _ _ _ _ _ _ _ _ _ _ _ _ _ _ _ _ _ _ _ _ _ _ _ _ _ _ _ _ _ _ _ _ _ _ _ _ _ _ _ _ _ _ _ _ _ _ _ _ _ _ _ _ _ _ _ _ _ _ _ _ _ _ _ _ _ _ _ _ _ _ _ _ _ _ _ _ _ _ _ _ _ _ _ _ _ _ _ _ _ _ _ _ _ _ _ _ _ _ _ _ _ _ _ _ _ _ _ _

end Go.Proofs.YtnmfmoimjkoieaaGreatDoor.rfe

/- courantref.Bytes: the kinds of an Id alone. -/
namespace Go.Proofs.YtnmfmoimjkoieaaGreatDoor.rfe
open Go.RowKit Go.Proofs.YtnmfmoimjkoieaaGreatDoor.topPlain Go.Proofs.YtnmfmoimjkoieaaGreatDoor.topWalks Go.Proofs.YtnmfmoimjkoieaaGreatDoor.decPlain Go.Proofs.YtnmfmoimjkoieaaGreatDoor.encPlain Go.Proofs.YtnmfmoimjkoieaaGreatDoor.ew
open Go.Proofs.YtnmfmoimjkoieaaGreatDoor.rd (pkCells fixedF)

theorem flat_le (g : List UInt8 × Int → List UInt8) (fs : List (List UInt8 × Int)) (k : Nat) : ((fs.take k).flatMap g).length ≤ (fs.flatMap g).length := by
  conv => rhs; rw [← List.take_append_drop k fs]
  rw [List.flatMap_append, List.length_append]
  omega
set_option maxHeartbeats 3200000 in
set_option maxRecDepth 100000 in
theorem bytesDo_any (p : Pkt) (fs : List (List UInt8 × Int)) (cs : List Int) (w : World) (k1 : p.kind ≠ 1) (k2 : p.kind ≠ 2) (k3 : p.kind ≠ 3) (k12 : p.kind ≠ 12) (k13 : p.kind ≠ 13) (k14 : p.kind ≠ 14) (k6 : p.kind ≠ 6) (k8 : p.kind ≠ 8) (k10 : p.kind ≠ 10) (h0 : -9223372036854775808 ≤ p.id) (h1 : p.id ≤ 9223372036854775807) (hf : FilX w p.fv fs) (hc : IntX w p.cv cs) (hB : (bodyR p fs cs).length ≤ 1099511627776) :
    Calls Tryz.prog 70 #[.agg (pkCells p)] w fun e w' => e = .returned (.string (bs (bytesR p fs cs))) ∧ Below w.heap.size w w' := by
  have hK8 : (p.kind == 8) = false := by exact beq_eq_false_iff_ne.2 k8
  have hBd : bodyR p fs cs = twoR p.id ++ fs.flatMap (filR' false) ++ cs.map byt8 := by unfold bodyR; rw [if_neg k1, if_neg k2, if_neg k3, if_neg (by omega), hK8]
  have hFl : flagsR p = 0 := by unfold flagsR fixedF; rw [if_neg k3]; rw [if_neg (by omega)]
  have c1 := hide fun n w => one_any n w
  have c3 := hide fun w => two_any p.id w h0 h1
  have c4 := hide fun l w (hl : l.length ≤ 1099511627776) => text_any l w hl
  obtain ⟨qf, kf, hfv, hfl, hfc⟩ := hf
  obtain ⟨qc, kc, hcv, hcl, hcc⟩ := hc
  have HFC := hide hfc
  have HCC := hide hcc
  clear hfc hcc
  unfold maxLen at hfl hcl
  have hsz := fun l => bsz l
  have htx := fun l => txtR_len l
  rw [hBd] at hB
  obtain ⟨G, hG⟩ : ∃ G, bytesR p fs cs = G := ⟨_, rfl⟩
  rw [hG]
  have hG2 : G = byt8 (16 * p.kind + 0) :: (lenR (twoR p.id ++ fs.flatMap (filR' false) ++ cs.map byt8).length ++ (twoR p.id ++ fs.flatMap (filR' false) ++ cs.map byt8)) := by rw [← hG]; unfold bytesR firstR; rw [hBd, hFl]
  have HG := hide hG2
  have HLB := hide hB
  clear hG hG2 hBd hFl h0 h1 hB hK8
  obtain ⟨kind, clean, will, keep, client, present, code, dup, qos, retain, topic, payload, id, fv, cv⟩ := p
  simp only at hfv hcv c3 k1 k2 k3 k12 k13 k14 k6 k8 k10
  subst hfv hcv
  have g1 : (kind == 1) = false := beq_eq_false_iff_ne.2 k1
  have g2 : (kind == 2) = false := beq_eq_false_iff_ne.2 k2
  have g3 : (kind == 3) = false := beq_eq_false_iff_ne.2 k3
  have g12 : (kind == 12) = false := beq_eq_false_iff_ne.2 k12
  have g13 : (kind == 13) = false := beq_eq_false_iff_ne.2 k13
  have g14 : (kind == 14) = false := beq_eq_false_iff_ne.2 k14
  have g6 : (kind == 6) = false := beq_eq_false_iff_ne.2 k6
  have g8 : (kind == 8) = false := beq_eq_false_iff_ne.2 k8
  have g10 : (kind == 10) = false := beq_eq_false_iff_ne.2 k10
  clear k1 k2 k3 k12 k13 k14 k6 k8 k10
  simp only [pkCells]
  have HST := hide (St.new w (.cells #[.int .i64 kind, .bool clean, .bool will, .int .i64 keep, .string (bs client), .bool present, .int .i64 code, .bool dup, .int .i64 qos, .bool retain, .string (bs topic), .string (bs payload), .int .i64 id, .slice qf fs.length kf, .slice qc cs.length kc] 36))
  go_enter Tryz.func70, Tryz.ntmps70
  go_wp2_with fail
  rename_i aB KA aA KC aC
  have HK := hide aB
  clear aB
  refine (c3.out _).mono ?_
  rintro e w1 ⟨rfl, hb1⟩
  have hst1 := HST.out.call hb1
  obtain ⟨x0, x1, x2, x3, x4, x5, x6, x7, x8, x9, x10, x11, x12, x13, x14⟩ := pk15 hst1.blk
  have HST1 := hide hst1
  clear hb1 hst1
  go_wp2_with fail
  clear x0 x1 x2 x3 x4 x5 x6 x7 x8 x9 x10 x11 x12 x13 x14
  go_loopw [3, 5] (fun s i wx => ∃ k : Nat, k ≤ fs.length ∧ i = .int .i64 k ∧ s = .string (bs (twoR id ++ (fs.take k).flatMap (filR' false))) ∧ St w wx (.cells #[.int .i64 kind, .bool clean, .bool will, .int .i64 keep, .string (bs client), .bool present, .int .i64 code, .bool dup, .int .i64 qos, .bool retain, .string (bs topic), .string (bs payload), .int .i64 id, .slice qf fs.length kf, .slice qc cs.length kc] 36)) (fun _ i _ => fs.length - (intOf i).toNat)
  case atStart => exact ⟨0, Nat.zero_le _, rfl, by simp, HST1.out⟩
  case round =>
    obtain ⟨k, hk, rfl, rfl, hst⟩ := hrel
    obtain ⟨x0, x1, x2, x3, x4, x5, x6, x7, x8, x9, x10, x11, x12, x13, x14⟩ := pk15 hst.blk
    have HSTk := hide hst
    by_cases hltk : k < fs.length
    · obtain ⟨f, hf⟩ : ∃ f, fs[k]? = some f := ⟨_, List.getElem?_eq_getElem hltk⟩
      obtain ⟨g, o, rfl, hg, m1, m2⟩ := HFC.out k f hf
      have m1' : wr.cell? ⟨g, o + k * 2, none⟩ = some (.string (bs f.1)) := by rw [hst.below.cell (by exact hg)]; exact m1
      have hft : (fs.take (k + 1)).flatMap (filR' false) = (fs.take k).flatMap (filR' false) ++ filR' false f := by rw [List.take_add_one, hf]; simp
      have hfn : ((fs.take (k + 1)).flatMap (filR' false)).length ≤ (fs.flatMap (filR' false)).length := flat_le _ _ _
      have hlb := HLB.out
      rw [hft] at hfn
      simp only [List.length_append, filR', txtR_len] at hfn hlb
      obtain ⟨A, hA⟩ : ∃ A, A = twoR id ++ (fs.take k).flatMap (filR' false) := ⟨_, rfl⟩
      have hAl : A.length + (2 + f.1.length) ≤ 1099511627776 := by rw [hA, List.length_append]; omega
      have hfl1 : f.1.length ≤ 1099511627776 := by omega
      rw [← hA]
      have HA := hide hA
      have HFT := hide hft
      clear hA hft hfn hlb hst hf m1
      go_wp2_with fail
      refine (c4.out _ _ hfl1).mono ?_
      rintro e w2 ⟨rfl, hb2⟩
      have hst2 := HSTk.out.call hb2
      have m2' : w2.cell? ⟨g, o + k * 2 + 1, none⟩ = some (.int .i64 f.2) := by rw [hst2.below.cell (by exact hg)]; exact m2
      clear x0 x1 x2 x3 x4 x5 x6 x7 x8 x9 x10 x11 x12 x13 x14 m1'
      obtain ⟨x0, x1, x2, x3, x4, x5, x6, x7, x8, x9, x10, x11, x12, x13, x14⟩ := pk15 hst2.blk
      have HST2 := hide hst2
      clear hb2 hst2 m2
      go_wp2
      go_roundw
      case rel => exact ⟨k + 1, by omega, by go_num, by rw [HFT.out, ← List.append_assoc, ← HA.out, bs_append]; simp [filR'], HST2.out⟩
      case measure => simp [intOf]; omega
    · have hft : fs.take k = fs := List.take_of_length_le (by omega)
      rw [hft]
      obtain ⟨A, hA⟩ : ∃ A, A = twoR id ++ fs.flatMap (filR' false) := ⟨_, rfl⟩
      rw [← hA]
      have HA := hide hA
      clear hft hA hst
      go_wp2_with fail
      clear x0 x1 x2 x3 x4 x5 x6 x7 x8 x9 x10 x11 x12 x13 x14 hltk hk
      go_loopw [3, 6] (fun s i wx => ∃ k : Nat, k ≤ cs.length ∧ i = .int .i64 k ∧ s = .string (bs (A ++ (cs.take k).map byt8)) ∧ St w wx (.cells #[.int .i64 kind, .bool clean, .bool will, .int .i64 keep, .string (bs client), .bool present, .int .i64 code, .bool dup, .int .i64 qos, .bool retain, .string (bs topic), .string (bs payload), .int .i64 id, .slice qf fs.length kf, .slice qc cs.length kc] 36)) (fun _ i _ => cs.length - (intOf i).toNat)
      case atStart => exact ⟨0, Nat.zero_le _, rfl, by simp, HSTk.out⟩
      case round =>
        obtain ⟨k, hk, rfl, rfl, hst⟩ := hrel
        obtain ⟨x0, x1, x2, x3, x4, x5, x6, x7, x8, x9, x10, x11, x12, x13, x14⟩ := pk15 hst.blk
        have HSTj := hide hst
        by_cases hltk : k < cs.length
        · obtain ⟨c, hc⟩ : ∃ c, cs[k]? = some c := ⟨_, List.getElem?_eq_getElem hltk⟩
          obtain ⟨g, o, rfl, hg, m1⟩ := HCC.out k c hc
          have m1' : wr.cell? ⟨g, o + k, none⟩ = some (.int .i64 c) := by rw [hst.below.cell (by exact hg)]; exact m1
          have hct : (cs.take (k + 1)).map byt8 = (cs.take k).map byt8 ++ [byt8 c] := by rw [List.take_add_one, hc]; simp
          have hlb := HLB.out
          rw [← HA.out] at hlb
          simp only [List.length_append, List.length_map] at hlb
          obtain ⟨D, hD⟩ : ∃ D, D = A ++ (cs.take k).map byt8 := ⟨_, rfl⟩
          have hDl : D.length + 1 ≤ 1099511627776 := by rw [hD, List.length_append, List.length_map, List.length_take]; omega
          rw [← hD]
          have HD := hide hD
          have HCT := hide hct
          clear hD hct hlb hst hc m1
          go_wp2_with fail
          refine (c1.out _ _).mono ?_
          rintro e w3 ⟨rfl, hb3⟩
          have HST3 := hide (HSTj.out.call hb3)
          clear hb3
          go_wp2
          go_roundw
          case rel => exact ⟨k + 1, by omega, by go_num, by rw [HCT.out, ← List.append_assoc, ← HD.out, bs_append], HST3.out⟩
          case measure => simp [intOf]; omega
        · have hct : cs.take k = cs := List.take_of_length_le (by omega)
          rw [hct]
          clear hct hst
          go_wp2_with fail
          refine HK.out _ _ ?_
          exact byt_end w _ kind clean will keep client present code dup qos retain topic payload id (.slice qf fs.length kf) (.slice qc cs.length kc) 0 (A ++ cs.map byt8) G _ rfl (by have h := HLB.out; rw [HA.out]; omega) (by rw [HA.out]; exact HG.out) HSTj.out _ _ _ _ _ _ _ _ _ _ _ _ _ _ _ _ _ _ _ _ _ _ _ _ _ _ _ _ _ _ _ _ _ _ _ _ _ _ _ _ _ _ _ _ _ _ _ _ _ _ _ _ _ _ _ _ _ _ _ _ _ _ _ _ _ _ _ _ _ _ _ _ _ _ _ _ _ _ _ _ _ _ _ _ _ _ _ _ _ _ _ _ _ _ _ _ _ _ _ _ _ _ _ _ _ _ _ _ _ _ _ _ _ _ _ _ _ _ _ _ _ _ _ _ _ _ _ _ _ _ _ _ _ _ _ _ _ _ _ _ _ _ _ _ _ _ _ _ _ _ _ _ _ _ _ _ _ _ _ _ _ _ _ _ _ _ _ _ _ _ _ _ _ _ _ _ _ _ _

end Go.Proofs.YtnmfmoimjkoieaaGreatDoor.rfe
