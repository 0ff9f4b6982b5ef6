import Derived.Test.YtnmfmoimjkoieaaGreatDoorJ34
/- courantref.connect behind its first bytes: the bits or the client are wrong. -/
namespace Go.Proofs.YtnmfmoimjkoieaaGreatDoor.rf
open Go.RowKit Go.Proofs.YtnmfmoimjkoieaaGreatDoor.topPlain Go.Proofs.YtnmfmoimjkoieaaGreatDoor.topWalks Go.Proofs.YtnmfmoimjkoieaaGreatDoor.decPlain Go.Proofs.YtnmfmoimjkoieaaGreatDoor.rd

theorem bq2 : ∀ x : Fin 256, (((x.val : Nat) : Int) / 2 % 2 == 1) = decide (x.val / 2 % 2 = 1) := by decide +kernel
theorem bq4 : ∀ x : Fin 256, (((x.val : Nat) : Int) / 4 % 2 == 1) = decide (x.val / 4 % 2 = 1) := by decide +kernel
theorem bq32 : ∀ x : Fin 256, (((x.val : Nat) : Int) / 32 % 2 == 1) = decide (x.val / 32 % 2 = 1) := by decide +kernel
theorem bq8 : ∀ x : Fin 256, ((x.val : Nat) : Int) / 8 % 4 = ((x.val / 8 % 4 : Nat) : Int) := by decide +kernel
theorem bm2 : ∀ x : Fin 256, (((x.val : Nat) : Int) % 2 == 1) = decide (x.val % 2 = 1) := by decide +kernel

set_option maxHeartbeats 6400000 in
set_option maxRecDepth 100000 in
theorem dc_bad (s : ByteArray) (p : Pkt) (w : World) (x : UInt8) (c : List UInt8) (a : Int) (h12 : 12 ≤ s.size) (h300 : s.size ≤ 300) (hpre : ((s.extract 0 7).toList == [0, 4, 77, 81, 84, 84, 4]) = true) (hx7 : s[7]'(Nat.lt_of_lt_of_le (by decide) h12) = x) (hc : txtAt s.data.toList 10 = (c, a)) (hcl : c.length ≤ 300) (hI : topWalks.Inv w) (hN : 5 ≤ w.heap.size) (hfv : p.fv = .slice none 0 0) (hcv : p.cv = .slice none 0 0)
    (hbad : bitOk x.toNat = false ∨ a < 0 ∨ nameB 0 10 c = false) :
    Calls Tryz.prog 93 #[.string s, .agg (pkCells p)] w (DcPost w { bitP p x.toNat with keep := numAt s.data.toList 8 } false) := by
  obtain ⟨kind, clean, will, keep, client, present, code, dup, qos, retain, topic, payload, id, fv, cv⟩ := p
  obtain rfl := hfv
  obtain rfl := hcv
  have cN : Hid (∀ w, Calls Tryz.prog 96 #[.string s, .int .i64 8] w fun e w' => e = .returned (.int .i64 (numAt s.data.toList 8)) ∧ ∃ n, w' = w.drewN n) := hide fun w => number_any s 8 w (by omega)
  have cT : Hid (∀ w, Calls Tryz.prog 94 #[.string s, .int .i64 10] w fun e w' => e = .returned (.tuple #[.string (bs c), .int .i64 a]) ∧ ∃ n, w' = w.drewN n) := hide fun w => by
    have := text_any s 10 w (by omega) (by omega)
    rw [hc] at this
    exact this
  have cM := hide fun w hI => rName_any (bs c) 0 10 w (by rw [show (bs c).size = c.length from by rw [Lib.size_eq, data_bs]]; unfold maxLen; omega) hI
  rw [data_bs] at cM
  generalize hK : numAt s.data.toList 8 = K at *
  have hxl := x.toNat_lt
  have e2 := bq2 ⟨x.toNat, hxl⟩
  have e4 := bq4 ⟨x.toNat, hxl⟩
  have e32 := bq32 ⟨x.toNat, hxl⟩
  have e8 := bq8 ⟨x.toNat, hxl⟩
  have em := bm2 ⟨x.toNat, hxl⟩
  simp only at e2 e4 e32 e8 em
  have H0 := hide fun p => Dc.begin w p hI hN
  have hlt : ¬ (s.size : Int) < 12 := by omega
  have h7 : (7 : Int) ≤ (s.size : Int) := by omega
  unfold bitP
  unfold bitOk at hbad
  generalize decide (x.toNat / 2 % 2 = 1) = bC at *
  generalize decide (x.toNat / 4 % 2 = 1) = bW at *
  generalize decide (x.toNat / 32 % 2 = 1) = bR at *
  generalize x.toNat / 8 % 4 = Q at *
  have HBAD := hide hbad
  clear hbad hI hN hc hK h300
  simp only [pkCells]
  go_enter Tryz.func93, Tryz.ntmps93
  go_wp2_with fail
  refine (unhide cN _).mono ?_
  rintro e w1 ⟨rfl, n1, hw1⟩
  have H1 : Hid (Dc w w1 w.heap.size ⟨kind, bC, bW, keep, client, present, code, dup, (Q : Int), bR, topic, payload, id, .slice none 0 0, .slice none 0 0⟩) := hide (by rw [hw1]; exact (H0.out ⟨kind, bC, bW, keep, client, present, code, dup, (Q : Int), bR, topic, payload, id, .slice none 0 0, .slice none 0 0⟩).drawn n1)
  clear hw1 H0 e2 e4 e32 e8
  have k3 := H1.out.pk.c3
  have f3 := H1.out.pk.fz 3
  have l1 := H1.out.lt
  go_wp2_with fail
  have H2 := hide (H1.out.set (H1.out.pk.setKeep K))
  refine (unhide cT _).mono ?_
  rintro e w3 ⟨rfl, n3, hw3⟩
  have H3 : Hid (Dc w w3 w.heap.size ⟨kind, bC, bW, K, client, present, code, dup, (Q : Int), bR, topic, payload, id, .slice none 0 0, .slice none 0 0⟩) := hide (by rw [hw3]; exact H2.out.drawn n3)
  clear hw3 k3 f3 l1 H1 H2
  go_wp2_with fail
  refine (unhide cM _ H3.out.inv).mono ?_
  rintro e w4 ⟨rfl, hb4⟩
  have H4 := hide (H3.out.belStep hb4)
  clear hb4 H3 cN cT cM
  have hD := H4.out
  have p0 := hD.pk.c0; have p1 := hD.pk.c1; have p2 := hD.pk.c2; have p3 := hD.pk.c3; have p4 := hD.pk.c4; have p5 := hD.pk.c5; have p6 := hD.pk.c6; have p7 := hD.pk.c7; have p8 := hD.pk.c8; have p9 := hD.pk.c9; have p10 := hD.pk.c10; have p11 := hD.pk.c11; have p12 := hD.pk.c12; have p13 := hD.pk.c13; have p14 := hD.pk.c14
  obtain ⟨y0, y1, y2, y3, y4, y5, y6, y7, y8, y9, y10, y11, y12, y13, y14⟩ := zero_thawed hD.res
  obtain ⟨z0, z1, z2, z3, z4, z5, z6, z7, z8, z9, z10, z11, z12, z13, z14⟩ := zero_cells hD.res
  have l4 := hD.lt
  have HZ := hide (World.cell?_setCells_in (w.heap.size + 1) [.int .i64 kind, .bool bC, .bool bW, .int .i64 K, .string (bs client), .bool present, .int .i64 code, .bool dup, .int .i64 (Q : Int), .bool bR, .string (bs topic), .string (bs payload), .int .i64 id, .slice none 0 0, .slice none 0 0] 0 w4 (fun j hj => zero_some2 hD.res j hj))
  have HB := hide hD.bel
  clear hD
  simp only at p0 p1 p2 p3 p4 p5 p6 p7 p8 p9 p10 p11 p12 p13 p14
  have hfin : ∀ w7, w4.grownBy w7 (some (w.heap.size + 1)) → Below w.heap.size w w7 := fun w7 hg => HB.out.trans (below_grown hg (by omega) (by omega))
  have HF := hide hfin
  clear hfin
  generalize hnm : nameB 0 10 c = nm at *
  have hcase : x.toNat % 2 = 1 ∨ ¬x.toNat % 2 = 1 ∧ (63 < x.toNat ∨ ¬63 < x.toNat ∧ (2 < Q ∨ ¬2 < Q ∧ (bW = false ∧ (0 < Q ∨ ¬0 < Q ∧ bR = true) ∨ (bW = true ∨ bW = false ∧ ¬0 < Q ∧ bR = false) ∧ (a < 0 ∨ ¬a < 0 ∧ nm = false)))) := by
    have h := HBAD.out
    by_cases g1 : x.toNat % 2 = 1
    · exact Or.inl g1
    · refine Or.inr ⟨g1, ?_⟩
      by_cases g2 : 63 < x.toNat
      · exact Or.inl g2
      · refine Or.inr ⟨g2, ?_⟩
        by_cases g3 : 2 < Q
        · exact Or.inl g3
        · refine Or.inr ⟨g3, ?_⟩
          rw [decide_eq_true (show x.toNat % 2 = 0 by omega), decide_eq_true (show x.toNat < 64 by omega), decide_eq_true (show Q ≤ 2 by omega)] at h
          have hr : (a < 0 ∨ nm = false) → (a < 0 ∨ ¬a < 0 ∧ nm = false) := fun h => by
            by_cases ga : a < 0
            · exact Or.inl ga
            · exact Or.inr ⟨ga, h.resolve_left ga⟩
          cases bW
          · by_cases g4 : 0 < Q
            · exact Or.inl ⟨rfl, Or.inl g4⟩
            · cases bR
              · refine Or.inr ⟨Or.inr ⟨rfl, g4, rfl⟩, hr ?_⟩
                rw [decide_eq_true (show Q = 0 by omega)] at h
                simpa using h
              · exact Or.inl ⟨rfl, Or.inr ⟨g4, rfl⟩⟩
          · refine Or.inr ⟨Or.inl rfl, hr ?_⟩
            simpa using h
  clear HBAD
  rcases hcase with g1 | ⟨g1, g2 | ⟨g2, g3 | ⟨g3, ⟨rfl, g4 | ⟨g4, rfl⟩⟩ | ⟨rfl | ⟨rfl, g4, rfl⟩, g5 | ⟨g5, rfl⟩⟩⟩⟩⟩
  all_goals
    first | rw [decide_eq_true g1] at em | rw [decide_eq_false g1] at em
  all_goals
    go_wp2_with fail
    refine bodyPost_ret (results_dc _ _ (w.heap.size + 1) _ _ _ _ _ _ _ _ _ _ _ _ _ _ _ rfl (HZ.out 0 (show 0 < 15 by decide)) (HZ.out 1 (show 1 < 15 by decide)) (HZ.out 2 (show 2 < 15 by decide)) (HZ.out 3 (show 3 < 15 by decide)) (HZ.out 4 (show 4 < 15 by decide)) (HZ.out 5 (show 5 < 15 by decide)) (HZ.out 6 (show 6 < 15 by decide)) (HZ.out 7 (show 7 < 15 by decide)) (HZ.out 8 (show 8 < 15 by decide)) (HZ.out 9 (show 9 < 15 by decide)) (HZ.out 10 (show 10 < 15 by decide)) (HZ.out 11 (show 11 < 15 by decide)) (HZ.out 12 (show 12 < 15 by decide)) (HZ.out 13 (show 13 < 15 by decide)) (HZ.out 14 (show 14 < 15 by decide))) rfl ?_
    refine ⟨rfl, HF.out _ ?_⟩
    repeat refine grown_trans ?_ (grown_set _ _ _ _)
    exact grown_refl _ _
end Go.Proofs.YtnmfmoimjkoieaaGreatDoor.rf

/- courantref.connect behind its first bytes: no will. courantref.connect behind its first bytes: a will. -/
namespace Go.Proofs.YtnmfmoimjkoieaaGreatDoor.rf
open Go.RowKit Go.Proofs.YtnmfmoimjkoieaaGreatDoor.topPlain Go.Proofs.YtnmfmoimjkoieaaGreatDoor.topWalks Go.Proofs.YtnmfmoimjkoieaaGreatDoor.decPlain Go.Proofs.YtnmfmoimjkoieaaGreatDoor.rd

set_option maxHeartbeats 6400000 in
set_option maxRecDepth 100000 in
theorem dc_plain (s : ByteArray) (p : Pkt) (w : World) (x : UInt8) (c : List UInt8) (a : Nat) (h12 : 12 ≤ s.size) (h300 : s.size ≤ 300) (hpre : ((s.extract 0 7).toList == [0, 4, 77, 81, 84, 84, 4]) = true) (hx7 : s[7]'(Nat.lt_of_lt_of_le (by decide) h12) = x) (hc : txtAt s.data.toList 10 = (c, (a : Int))) (hcl : c.length ≤ 300) (hI : topWalks.Inv w) (hN : 5 ≤ w.heap.size) (hfv : p.fv = .slice none 0 0) (hcv : p.cv = .slice none 0 0)
    (hm : ¬x.toNat % 2 = 1) (h63 : ¬63 < x.toNat) (hw : x.toNat / 4 % 2 ≠ 1) (hq : x.toNat / 8 % 4 = 0) (hr : x.toNat / 32 % 2 ≠ 1) (hnm : nameB 0 10 c = true) :
    Calls Tryz.prog 93 #[.string s, .agg (pkCells p)] w (DcPost w { bitP p x.toNat with keep := numAt s.data.toList 8, client := c } ((a : Int) == (s.size : Int))) := by
  have hW : decide (x.toNat / 4 % 2 = 1) = false := decide_eq_false hw
  have hR : decide (x.toNat / 32 % 2 = 1) = false := decide_eq_false hr
  clear hw hr
  obtain ⟨kind, clean, will, keep, client, present, code, dup, qos, retain, topic, payload, id, fv, cv⟩ := p
  obtain rfl := hfv
  obtain rfl := hcv
  have cN : Hid (∀ w, Calls Tryz.prog 96 #[.string s, .int .i64 8] w fun e w' => e = .returned (.int .i64 (numAt s.data.toList 8)) ∧ ∃ n, w' = w.drewN n) := hide fun w => number_any s 8 w (by omega)
  have cT : Hid (∀ w, Calls Tryz.prog 94 #[.string s, .int .i64 10] w fun e w' => e = .returned (.tuple #[.string (bs c), .int .i64 (a : Int)]) ∧ ∃ n, w' = w.drewN n) := hide fun w => by
    have := text_any s 10 w (by omega) (by omega)
    rw [hc] at this
    exact this
  have cM := hide fun w hI => rName_any (bs c) 0 10 w (by rw [show (bs c).size = c.length from by rw [Lib.size_eq, data_bs]]; unfold maxLen; omega) hI
  rw [data_bs] at cM
  generalize hK : numAt s.data.toList 8 = K at *
  have hxl := x.toNat_lt
  have e2 := bq2 ⟨x.toNat, hxl⟩
  have e4 := bq4 ⟨x.toNat, hxl⟩
  have e32 := bq32 ⟨x.toNat, hxl⟩
  have e8 := bq8 ⟨x.toNat, hxl⟩
  have em := bm2 ⟨x.toNat, hxl⟩
  simp only at e2 e4 e32 e8 em
  have H0 := hide fun p => Dc.begin w p hI hN
  have hlt : ¬ (s.size : Int) < 12 := by omega
  have h7 : (7 : Int) ≤ (s.size : Int) := by omega
  unfold bitP
  generalize decide (x.toNat / 2 % 2 = 1) = bC at *
  generalize decide (x.toNat / 4 % 2 = 1) = bW at *
  generalize decide (x.toNat / 32 % 2 = 1) = bR at *
  generalize x.toNat / 8 % 4 = Q at *
  clear hI hN hc hK h300
  simp only [pkCells]
  subst hW hR hq
  rw [decide_eq_false hm] at em
  clear hm
  go_enter Tryz.func93, Tryz.ntmps93
  go_wp2_with fail
  refine (unhide cN _).mono ?_
  rintro e w1 ⟨rfl, n1, hw1⟩
  have H1 : Hid (Dc w w1 w.heap.size ⟨kind, bC, false, keep, client, present, code, dup, ((0 : Nat) : Int), false, topic, payload, id, .slice none 0 0, .slice none 0 0⟩) := hide (by rw [hw1]; exact (H0.out ⟨kind, bC, false, keep, client, present, code, dup, ((0 : Nat) : Int), false, topic, payload, id, .slice none 0 0, .slice none 0 0⟩).drawn n1)
  clear hw1 H0 e2 e4 e32 e8
  have k3 := H1.out.pk.c3
  have f3 := H1.out.pk.fz 3
  have l1 := H1.out.lt
  go_wp2_with fail
  have H2 := hide (H1.out.set (H1.out.pk.setKeep K))
  refine (unhide cT _).mono ?_
  rintro e w3 ⟨rfl, n3, hw3⟩
  have H3 : Hid (Dc w w3 w.heap.size ⟨kind, bC, false, K, client, present, code, dup, ((0 : Nat) : Int), false, topic, payload, id, .slice none 0 0, .slice none 0 0⟩) := hide (by rw [hw3]; exact H2.out.drawn n3)
  clear hw3 k3 f3 l1 H1 H2
  go_wp2_with fail
  refine (unhide cM _ H3.out.inv).mono ?_
  rintro e w4 ⟨rfl, hb4⟩
  have H4 := hide (H3.out.belStep hb4)
  clear hb4 H3 cN cT cM
  have hD := H4.out
  have p0 := hD.pk.c0; have p1 := hD.pk.c1; have p2 := hD.pk.c2; have p3 := hD.pk.c3; have p4 := hD.pk.c4; have p5 := hD.pk.c5; have p6 := hD.pk.c6; have p7 := hD.pk.c7; have p8 := hD.pk.c8; have p9 := hD.pk.c9; have p10 := hD.pk.c10; have p11 := hD.pk.c11; have p12 := hD.pk.c12; have p13 := hD.pk.c13; have p14 := hD.pk.c14
  obtain ⟨y0, y1, y2, y3, y4, y5, y6, y7, y8, y9, y10, y11, y12, y13, y14⟩ := zero_thawed hD.res
  obtain ⟨z0, z1, z2, z3, z4, z5, z6, z7, z8, z9, z10, z11, z12, z13, z14⟩ := zero_cells hD.res
  have l4 := hD.lt
  have f4 := hD.pk.fz 4
  have f10 := hD.pk.fz 10
  have f11 := hD.pk.fz 11
  clear hD
  simp only at p0 p1 p2 p3 p4 p5 p6 p7 p8 p9 p10 p11 p12 p13 p14
  rw [hnm]
  have H5 := hide (H4.out.set (H4.out.pk.setClient c))
  have HZ := hide (World.cell?_setCells_in (w.heap.size + 1) [.int .i64 kind, .bool bC, .bool false, .int .i64 K, .string (bs c), .bool present, .int .i64 code, .bool dup, .int .i64 ((0 : Nat) : Int), .bool false, .string (bs topic), .string (bs payload), .int .i64 id, .slice none 0 0, .slice none 0 0] 0 (w4.setCell ⟨w.heap.size, 4, none⟩ (.string (bs c))) (fun j hj => zero_some2 H5.out.res j hj))
  have hfin : ∀ w7, (w4.setCell ⟨w.heap.size, 4, none⟩ (.string (bs c))).grownBy w7 (some (w.heap.size + 1)) → Below w.heap.size w w7 := fun w7 hg => H5.out.bel.trans (below_grown hg (by omega) (by have := H5.out.lt; omega))
  have HF := hide hfin
  clear hfin
  go_wp2_with fail
  refine bodyPost_ret (results_dc _ _ (w.heap.size + 1) _ _ _ _ _ _ _ _ _ _ _ _ _ _ _ rfl (HZ.out 0 (show 0 < 15 by decide)) (HZ.out 1 (show 1 < 15 by decide)) (HZ.out 2 (show 2 < 15 by decide)) (HZ.out 3 (show 3 < 15 by decide)) (HZ.out 4 (show 4 < 15 by decide)) (HZ.out 5 (show 5 < 15 by decide)) (HZ.out 6 (show 6 < 15 by decide)) (HZ.out 7 (show 7 < 15 by decide)) (HZ.out 8 (show 8 < 15 by decide)) (HZ.out 9 (show 9 < 15 by decide)) (HZ.out 10 (show 10 < 15 by decide)) (HZ.out 11 (show 11 < 15 by decide)) (HZ.out 12 (show 12 < 15 by decide)) (HZ.out 13 (show 13 < 15 by decide)) (HZ.out 14 (show 14 < 15 by decide))) rfl ?_
  refine ⟨rfl, HF.out _ ?_⟩
  repeat refine grown_trans ?_ (grown_set _ _ _ _)
  exact grown_refl _ _
end Go.Proofs.YtnmfmoimjkoieaaGreatDoor.rf

namespace Go.Proofs.YtnmfmoimjkoieaaGreatDoor.rf
open Go.RowKit Go.Proofs.YtnmfmoimjkoieaaGreatDoor.topPlain Go.Proofs.YtnmfmoimjkoieaaGreatDoor.topWalks Go.Proofs.YtnmfmoimjkoieaaGreatDoor.decPlain Go.Proofs.YtnmfmoimjkoieaaGreatDoor.rd

set_option maxHeartbeats 6400000 in
set_option maxRecDepth 100000 in
theorem dc_will (s : ByteArray) (p : Pkt) (w : World) (x : UInt8) (c : List UInt8) (a : Nat) (h12 : 12 ≤ s.size) (h300 : s.size ≤ 300) (hpre : ((s.extract 0 7).toList == [0, 4, 77, 81, 84, 84, 4]) = true) (hx7 : s[7]'(Nat.lt_of_lt_of_le (by decide) h12) = x) (hc : txtAt s.data.toList 10 = (c, (a : Int))) (hcl : c.length ≤ 300) (hI : topWalks.Inv w) (hN : 5 ≤ w.heap.size) (hfv : p.fv = .slice none 0 0) (hcv : p.cv = .slice none 0 0) (ha : a ≤ 300) (t : List UInt8) (k : Int) (ht : txtAt s.data.toList a = (t, k)) (htl : t.length ≤ 300) (hk : k ≤ 300)
    (y : List UInt8) (k3 : Int) (hy : ∀ n : Nat, k = (n : Int) → txtAt s.data.toList n = (y, k3))
    (hm : ¬x.toNat % 2 = 1) (h63 : ¬63 < x.toNat) (hw : x.toNat / 4 % 2 = 1) (hq : ¬2 < x.toNat / 8 % 4) (hnm : nameB 0 10 c = true) (q : Pkt) (ok : Bool)
    (hq1 : k < 0 ∨ topicB t = false → q = { bitP p x.toNat with keep := numAt s.data.toList 8, client := c } ∧ ok = false)
    (hq2 : 0 ≤ k → topicB t = true → k3 < 0 → q = { bitP p x.toNat with keep := numAt s.data.toList 8, client := c } ∧ ok = false)
    (hq3 : 0 ≤ k → topicB t = true → 0 ≤ k3 → q = { bitP p x.toNat with keep := numAt s.data.toList 8, client := c, topic := t, payload := y } ∧ ok = (k3 == (s.size : Int))) :
    Calls Tryz.prog 93 #[.string s, .agg (pkCells p)] w (DcPost w q ok) := by
  have hW : decide (x.toNat / 4 % 2 = 1) = true := decide_eq_true hw
  clear hw
  have cW : Hid (∀ w, Calls Tryz.prog 94 #[.string s, .int .i64 (a : Int)] w fun e w' => e = .returned (.tuple #[.string (bs t), .int .i64 k]) ∧ ∃ n, w' = w.drewN n) := hide fun w => by
    have := text_any s a w (by omega) (by omega)
    rw [ht] at this
    exact this
  have cY : Hid (∀ w, 0 ≤ k → Calls Tryz.prog 94 #[.string s, .int .i64 k] w fun e w' => e = .returned (.tuple #[.string (bs y), .int .i64 k3]) ∧ ∃ n, w' = w.drewN n) := hide fun w h0 => by
    have := text_any s k.toNat w (by omega) (by omega)
    rw [hy k.toNat (by omega), show ((k.toNat : Nat) : Int) = k by omega] at this
    exact this
  have cP := hide fun w hI => rTopic_any (bs t) w (by rw [show (bs t).size = t.length from by rw [Lib.size_eq, data_bs]]; unfold maxLen; omega) hI
  rw [data_bs] at cP
  clear ht hy hk htl
  obtain ⟨kind, clean, will, keep, client, present, code, dup, qos, retain, topic, payload, id, fv, cv⟩ := p
  obtain rfl := hfv
  obtain rfl := hcv
  have cN : Hid (∀ w, Calls Tryz.prog 96 #[.string s, .int .i64 8] w fun e w' => e = .returned (.int .i64 (numAt s.data.toList 8)) ∧ ∃ n, w' = w.drewN n) := hide fun w => number_any s 8 w (by omega)
  have cT : Hid (∀ w, Calls Tryz.prog 94 #[.string s, .int .i64 10] w fun e w' => e = .returned (.tuple #[.string (bs c), .int .i64 (a : Int)]) ∧ ∃ n, w' = w.drewN n) := hide fun w => by
    have := text_any s 10 w (by omega) (by omega)
    rw [hc] at this
    exact this
  have cM := hide fun w hI => rName_any (bs c) 0 10 w (by rw [show (bs c).size = c.length from by rw [Lib.size_eq, data_bs]]; unfold maxLen; omega) hI
  rw [data_bs] at cM
  generalize hK : numAt s.data.toList 8 = K at *
  have hxl := x.toNat_lt
  have e2 := bq2 ⟨x.toNat, hxl⟩
  have e4 := bq4 ⟨x.toNat, hxl⟩
  have e32 := bq32 ⟨x.toNat, hxl⟩
  have e8 := bq8 ⟨x.toNat, hxl⟩
  have em := bm2 ⟨x.toNat, hxl⟩
  simp only at e2 e4 e32 e8 em
  have H0 := hide fun p => Dc.begin w p hI hN
  have hlt : ¬ (s.size : Int) < 12 := by omega
  have h7 : (7 : Int) ≤ (s.size : Int) := by omega
  unfold bitP at hq1 hq2 hq3
  generalize decide (x.toNat / 2 % 2 = 1) = bC at *
  generalize decide (x.toNat / 4 % 2 = 1) = bW at *
  generalize decide (x.toNat / 32 % 2 = 1) = bR at *
  generalize x.toNat / 8 % 4 = Q at *
  clear hI hN hc hK h300
  simp only [pkCells]
  subst hW
  rw [decide_eq_false hm] at em
  have HQ1 := hide hq1
  have HQ2 := hide hq2
  have HQ3 := hide hq3
  clear hm hq1 hq2 hq3
  go_enter Tryz.func93, Tryz.ntmps93
  go_wp2_with fail
  refine (unhide cN _).mono ?_
  rintro e w1 ⟨rfl, n1, hw1⟩
  have H1 : Hid (Dc w w1 w.heap.size ⟨kind, bC, true, keep, client, present, code, dup, (Q : Int), bR, topic, payload, id, .slice none 0 0, .slice none 0 0⟩) := hide (by rw [hw1]; exact (H0.out ⟨kind, bC, true, keep, client, present, code, dup, (Q : Int), bR, topic, payload, id, .slice none 0 0, .slice none 0 0⟩).drawn n1)
  clear hw1 H0 e2 e4 e32 e8
  have k3 := H1.out.pk.c3
  have f3 := H1.out.pk.fz 3
  have l1 := H1.out.lt
  go_wp2_with fail
  have H2 := hide (H1.out.set (H1.out.pk.setKeep K))
  refine (unhide cT _).mono ?_
  rintro e w3 ⟨rfl, n3, hw3⟩
  have H3 : Hid (Dc w w3 w.heap.size ⟨kind, bC, true, K, client, present, code, dup, (Q : Int), bR, topic, payload, id, .slice none 0 0, .slice none 0 0⟩) := hide (by rw [hw3]; exact H2.out.drawn n3)
  clear hw3 k3 f3 l1 H1 H2
  go_wp2_with fail
  refine (unhide cM _ H3.out.inv).mono ?_
  rintro e w4 ⟨rfl, hb4⟩
  have H4 := hide (H3.out.belStep hb4)
  clear hb4 H3 cN cT cM
  rw [hnm]
  have hD := H4.out
  have k2 := hD.pk.c2
  have k4 := hD.pk.c4
  have f4 := hD.pk.fz 4
  have k8 := hD.pk.c8
  have k9 := hD.pk.c9
  have l4 := hD.lt
  clear hD
  go_wp2_with fail
  have H5 := hide (H4.out.set (H4.out.pk.setClient c))
  refine (unhide cW _).mono ?_
  rintro e w6 ⟨rfl, n6, hw6⟩
  have H6 : Hid (Dc w w6 w.heap.size ⟨kind, bC, true, K, c, present, code, dup, (Q : Int), bR, topic, payload, id, .slice none 0 0, .slice none 0 0⟩) := hide (by rw [hw6]; exact H5.out.drawn n6)
  clear hw6 k2 k4 f4 k8 k9 l4 H4 H5 cW
  go_wp2_with fail
  refine (unhide cP _ H6.out.inv).mono ?_
  rintro e w7 ⟨rfl, hb7⟩
  have H7 := hide (H6.out.belStep hb7)
  clear hb7 H6 cP
  generalize topicB t = tb at *
  by_cases h0 : k < 0
  · obtain ⟨rfl, rfl⟩ := HQ1.out (Or.inl h0)
    clear HQ1 HQ2 HQ3 cY
    have hD := H7.out
    have p0 := hD.pk.c0; have p1 := hD.pk.c1; have p2 := hD.pk.c2; have p3 := hD.pk.c3; have p4 := hD.pk.c4; have p5 := hD.pk.c5; have p6 := hD.pk.c6; have p7 := hD.pk.c7; have p8 := hD.pk.c8; have p9 := hD.pk.c9; have p10 := hD.pk.c10; have p11 := hD.pk.c11; have p12 := hD.pk.c12; have p13 := hD.pk.c13; have p14 := hD.pk.c14
    obtain ⟨y0, y1, y2, y3, y4, y5, y6, y7, y8, y9, y10, y11, y12, y13, y14⟩ := zero_thawed hD.res
    obtain ⟨z0, z1, z2, z3, z4, z5, z6, z7, z8, z9, z10, z11, z12, z13, z14⟩ := zero_cells hD.res
    have l4 := hD.lt
    have f4 := hD.pk.fz 4
    have f10 := hD.pk.fz 10
    have f11 := hD.pk.fz 11
    clear hD
    simp only at p0 p1 p2 p3 p4 p5 p6 p7 p8 p9 p10 p11 p12 p13 p14
    have HZ := hide (World.cell?_setCells_in (w.heap.size + 1) [.int .i64 kind, .bool bC, .bool true, .int .i64 K, .string (bs c), .bool present, .int .i64 code, .bool dup, .int .i64 (Q : Int), .bool bR, .string (bs topic), .string (bs payload), .int .i64 id, .slice none 0 0, .slice none 0 0] 0 w7 (fun j hj => zero_some2 H7.out.res j hj))
    have hfin : ∀ wF, (w7).grownBy wF (some (w.heap.size + 1)) → Below w.heap.size w wF := fun wF hg => H7.out.bel.trans (below_grown hg (by omega) (by have := H7.out.lt; omega))
    have HF := hide hfin
    clear hfin
    go_wp2_with fail
    refine bodyPost_ret (results_dc _ _ (w.heap.size + 1) _ _ _ _ _ _ _ _ _ _ _ _ _ _ _ rfl (HZ.out 0 (show 0 < 15 by decide)) (HZ.out 1 (show 1 < 15 by decide)) (HZ.out 2 (show 2 < 15 by decide)) (HZ.out 3 (show 3 < 15 by decide)) (HZ.out 4 (show 4 < 15 by decide)) (HZ.out 5 (show 5 < 15 by decide)) (HZ.out 6 (show 6 < 15 by decide)) (HZ.out 7 (show 7 < 15 by decide)) (HZ.out 8 (show 8 < 15 by decide)) (HZ.out 9 (show 9 < 15 by decide)) (HZ.out 10 (show 10 < 15 by decide)) (HZ.out 11 (show 11 < 15 by decide)) (HZ.out 12 (show 12 < 15 by decide)) (HZ.out 13 (show 13 < 15 by decide)) (HZ.out 14 (show 14 < 15 by decide))) rfl ?_
    refine ⟨rfl, HF.out _ ?_⟩
    repeat refine grown_trans ?_ (grown_set _ _ _ _)
    exact grown_refl _ _
  · cases tb with
    | false =>
      obtain ⟨rfl, rfl⟩ := HQ1.out (Or.inr rfl)
      clear HQ1 HQ2 HQ3 cY
      have hD := H7.out
      have p0 := hD.pk.c0; have p1 := hD.pk.c1; have p2 := hD.pk.c2; have p3 := hD.pk.c3; have p4 := hD.pk.c4; have p5 := hD.pk.c5; have p6 := hD.pk.c6; have p7 := hD.pk.c7; have p8 := hD.pk.c8; have p9 := hD.pk.c9; have p10 := hD.pk.c10; have p11 := hD.pk.c11; have p12 := hD.pk.c12; have p13 := hD.pk.c13; have p14 := hD.pk.c14
      obtain ⟨y0, y1, y2, y3, y4, y5, y6, y7, y8, y9, y10, y11, y12, y13, y14⟩ := zero_thawed hD.res
      obtain ⟨z0, z1, z2, z3, z4, z5, z6, z7, z8, z9, z10, z11, z12, z13, z14⟩ := zero_cells hD.res
      have l4 := hD.lt
      have f4 := hD.pk.fz 4
      have f10 := hD.pk.fz 10
      have f11 := hD.pk.fz 11
      clear hD
      simp only at p0 p1 p2 p3 p4 p5 p6 p7 p8 p9 p10 p11 p12 p13 p14
      have HZ := hide (World.cell?_setCells_in (w.heap.size + 1) [.int .i64 kind, .bool bC, .bool true, .int .i64 K, .string (bs c), .bool present, .int .i64 code, .bool dup, .int .i64 (Q : Int), .bool bR, .string (bs topic), .string (bs payload), .int .i64 id, .slice none 0 0, .slice none 0 0] 0 w7 (fun j hj => zero_some2 H7.out.res j hj))
      have hfin : ∀ wF, (w7).grownBy wF (some (w.heap.size + 1)) → Below w.heap.size w wF := fun wF hg => H7.out.bel.trans (below_grown hg (by omega) (by have := H7.out.lt; omega))
      have HF := hide hfin
      clear hfin
      go_wp2_with fail
      refine bodyPost_ret (results_dc _ _ (w.heap.size + 1) _ _ _ _ _ _ _ _ _ _ _ _ _ _ _ rfl (HZ.out 0 (show 0 < 15 by decide)) (HZ.out 1 (show 1 < 15 by decide)) (HZ.out 2 (show 2 < 15 by decide)) (HZ.out 3 (show 3 < 15 by decide)) (HZ.out 4 (show 4 < 15 by decide)) (HZ.out 5 (show 5 < 15 by decide)) (HZ.out 6 (show 6 < 15 by decide)) (HZ.out 7 (show 7 < 15 by decide)) (HZ.out 8 (show 8 < 15 by decide)) (HZ.out 9 (show 9 < 15 by decide)) (HZ.out 10 (show 10 < 15 by decide)) (HZ.out 11 (show 11 < 15 by decide)) (HZ.out 12 (show 12 < 15 by decide)) (HZ.out 13 (show 13 < 15 by decide)) (HZ.out 14 (show 14 < 15 by decide))) rfl ?_
      refine ⟨rfl, HF.out _ ?_⟩
      repeat refine grown_trans ?_ (grown_set _ _ _ _)
      exact grown_refl _ _

    | true =>
      have l7 := H7.out.lt
      go_wp2_with fail
      refine (unhide cY _ (by omega)).mono ?_
      rintro e w8 ⟨rfl, n8, hw8⟩
      have H8 : Hid (Dc w w8 w.heap.size ⟨kind, bC, true, K, c, present, code, dup, (Q : Int), bR, topic, payload, id, .slice none 0 0, .slice none 0 0⟩) := hide (by rw [hw8]; exact H7.out.drawn n8)
      clear hw8 cY H7 l7
      by_cases h3 : k3 < 0
      · obtain ⟨rfl, rfl⟩ := HQ2.out (by omega) (by simp) h3
        clear HQ1 HQ2 HQ3
        have hD := H8.out
        have p0 := hD.pk.c0; have p1 := hD.pk.c1; have p2 := hD.pk.c2; have p3 := hD.pk.c3; have p4 := hD.pk.c4; have p5 := hD.pk.c5; have p6 := hD.pk.c6; have p7 := hD.pk.c7; have p8 := hD.pk.c8; have p9 := hD.pk.c9; have p10 := hD.pk.c10; have p11 := hD.pk.c11; have p12 := hD.pk.c12; have p13 := hD.pk.c13; have p14 := hD.pk.c14
        obtain ⟨y0, y1, y2, y3, y4, y5, y6, y7, y8, y9, y10, y11, y12, y13, y14⟩ := zero_thawed hD.res
        obtain ⟨z0, z1, z2, z3, z4, z5, z6, z7, z8, z9, z10, z11, z12, z13, z14⟩ := zero_cells hD.res
        have l4 := hD.lt
        have f4 := hD.pk.fz 4
        have f10 := hD.pk.fz 10
        have f11 := hD.pk.fz 11
        clear hD
        simp only at p0 p1 p2 p3 p4 p5 p6 p7 p8 p9 p10 p11 p12 p13 p14
        have HZ := hide (World.cell?_setCells_in (w.heap.size + 1) [.int .i64 kind, .bool bC, .bool true, .int .i64 K, .string (bs c), .bool present, .int .i64 code, .bool dup, .int .i64 (Q : Int), .bool bR, .string (bs topic), .string (bs payload), .int .i64 id, .slice none 0 0, .slice none 0 0] 0 w8 (fun j hj => zero_some2 H8.out.res j hj))
        have hfin : ∀ wF, (w8).grownBy wF (some (w.heap.size + 1)) → Below w.heap.size w wF := fun wF hg => H8.out.bel.trans (below_grown hg (by omega) (by have := H8.out.lt; omega))
        have HF := hide hfin
        clear hfin
        go_wp2_with fail
        refine bodyPost_ret (results_dc _ _ (w.heap.size + 1) _ _ _ _ _ _ _ _ _ _ _ _ _ _ _ rfl (HZ.out 0 (show 0 < 15 by decide)) (HZ.out 1 (show 1 < 15 by decide)) (HZ.out 2 (show 2 < 15 by decide)) (HZ.out 3 (show 3 < 15 by decide)) (HZ.out 4 (show 4 < 15 by decide)) (HZ.out 5 (show 5 < 15 by decide)) (HZ.out 6 (show 6 < 15 by decide)) (HZ.out 7 (show 7 < 15 by decide)) (HZ.out 8 (show 8 < 15 by decide)) (HZ.out 9 (show 9 < 15 by decide)) (HZ.out 10 (show 10 < 15 by decide)) (HZ.out 11 (show 11 < 15 by decide)) (HZ.out 12 (show 12 < 15 by decide)) (HZ.out 13 (show 13 < 15 by decide)) (HZ.out 14 (show 14 < 15 by decide))) rfl ?_
        refine ⟨rfl, HF.out _ ?_⟩
        repeat refine grown_trans ?_ (grown_set _ _ _ _)
        exact grown_refl _ _

      · obtain ⟨rfl, rfl⟩ := HQ3.out (by omega) (by simp) (by omega)
        clear HQ1 HQ2 HQ3
        have hD := H8.out
        have p0 := hD.pk.c0; have p1 := hD.pk.c1; have p2 := hD.pk.c2; have p3 := hD.pk.c3; have p4 := hD.pk.c4; have p5 := hD.pk.c5; have p6 := hD.pk.c6; have p7 := hD.pk.c7; have p8 := hD.pk.c8; have p9 := hD.pk.c9; have p10 := hD.pk.c10; have p11 := hD.pk.c11; have p12 := hD.pk.c12; have p13 := hD.pk.c13; have p14 := hD.pk.c14
        obtain ⟨y0, y1, y2, y3, y4, y5, y6, y7, y8, y9, y10, y11, y12, y13, y14⟩ := zero_thawed hD.res
        obtain ⟨z0, z1, z2, z3, z4, z5, z6, z7, z8, z9, z10, z11, z12, z13, z14⟩ := zero_cells hD.res
        have l4 := hD.lt
        have f4 := hD.pk.fz 4
        have f10 := hD.pk.fz 10
        have f11 := hD.pk.fz 11
        clear hD
        simp only at p0 p1 p2 p3 p4 p5 p6 p7 p8 p9 p10 p11 p12 p13 p14
        have H9 := hide (H8.out.set (H8.out.pk.setTopic t))
        have H10 := hide (H9.out.set (H9.out.pk.setPayload y))
        have HZ := hide (World.cell?_setCells_in (w.heap.size + 1) [.int .i64 kind, .bool bC, .bool true, .int .i64 K, .string (bs c), .bool present, .int .i64 code, .bool dup, .int .i64 (Q : Int), .bool bR, .string (bs t), .string (bs y), .int .i64 id, .slice none 0 0, .slice none 0 0] 0 ((w8.setCell ⟨w.heap.size, 10, none⟩ (.string (bs t))).setCell ⟨w.heap.size, 11, none⟩ (.string (bs y))) (fun j hj => zero_some2 H10.out.res j hj))
        have hfin : ∀ wF, (((w8.setCell ⟨w.heap.size, 10, none⟩ (.string (bs t))).setCell ⟨w.heap.size, 11, none⟩ (.string (bs y)))).grownBy wF (some (w.heap.size + 1)) → Below w.heap.size w wF := fun wF hg => H10.out.bel.trans (below_grown hg (by omega) (by have := H10.out.lt; omega))
        have HF := hide hfin
        clear hfin
        go_wp2_with fail
        refine bodyPost_ret (results_dc _ _ (w.heap.size + 1) _ _ _ _ _ _ _ _ _ _ _ _ _ _ _ rfl (HZ.out 0 (show 0 < 15 by decide)) (HZ.out 1 (show 1 < 15 by decide)) (HZ.out 2 (show 2 < 15 by decide)) (HZ.out 3 (show 3 < 15 by decide)) (HZ.out 4 (show 4 < 15 by decide)) (HZ.out 5 (show 5 < 15 by decide)) (HZ.out 6 (show 6 < 15 by decide)) (HZ.out 7 (show 7 < 15 by decide)) (HZ.out 8 (show 8 < 15 by decide)) (HZ.out 9 (show 9 < 15 by decide)) (HZ.out 10 (show 10 < 15 by decide)) (HZ.out 11 (show 11 < 15 by decide)) (HZ.out 12 (show 12 < 15 by decide)) (HZ.out 13 (show 13 < 15 by decide)) (HZ.out 14 (show 14 < 15 by decide))) rfl ?_
        refine ⟨rfl, HF.out _ ?_⟩
        repeat refine grown_trans ?_ (grown_set _ _ _ _)
        exact grown_refl _ _
end Go.Proofs.YtnmfmoimjkoieaaGreatDoor.rf
