/- courantref.connect behind its first bytes: the bits or the client are wrong. -/
import Derived.Test.YtnmfmoimjkoieaaGreatDoorMRfA
namespace Go.Proofs.YtnmfmoimjkoieaaGreatDoor.rf
open Go.RowKit Go.Proofs.YtnmfmoimjkoieaaGreatDoor.topPlain Go.Proofs.YtnmfmoimjkoieaaGreatDoor.topWalks Go.Proofs.YtnmfmoimjkoieaaGreatDoor.decPlain Go.Proofs.YtnmfmoimjkoieaaGreatDoor.rd

theorem bq2 : ∀ x : Fin 256, (((x.val : Nat) : Int) / 2 % 2 == 1) = decide (x.val / 2 % 2 = 1) := by decide +kernel
theorem bq4 : ∀ x : Fin 256, (((x.val : Nat) : Int) / 4 % 2 == 1) = decide (x.val / 4 % 2 = 1) := by decide +kernel
theorem bq32 : ∀ x : Fin 256, (((x.val : Nat) : Int) / 32 % 2 == 1) = decide (x.val / 32 % 2 = 1) := by decide +kernel
theorem bq8 : ∀ x : Fin 256, ((x.val : Nat) : Int) / 8 % 4 = ((x.val / 8 % 4 : Nat) : Int) := by decide +kernel
theorem bm2 : ∀ x : Fin 256, (((x.val : Nat) : Int) % 2 == 1) = decide (x.val % 2 = 1) := by decide +kernel

set_option maxHeartbeats 6400000 in
set_option maxRecDepth 100000 in
theorem dc_bad (s : ByteArray) (p : Pkt) (w : World) (x : UInt8) (c : List UInt8) (a : Int) (h12 : 12 ≤ s.size) (h300 : s.size ≤ 300) (hpre : ((s.extract 0 7).toList == [0, 4, 77, 81, 84, 84, 4]) = true) (hx7 : s[7]'(Nat.lt_of_lt_of_le (by decide) h12) = x) (hc : txtAt s.data.toList 10 = (c, a)) (hcl : c.length ≤ 300) (hI : topWalks.Inv w) (hN : 5 ≤ w.heap.size) (hfv : p.fv = .slice none 0 0) (hcv : p.cv = .slice none 0 0)
    (hbad : bitOk x.toNat = false ∨ a < 0 ∨ nameB 0 10 c = false) :
    Calls Tryz.prog 93 #[.string s, .agg (pkCells p)] w (DcPost w { bitP p x.toNat with keep := numAt s.data.toList 8 } false) := by
  obtain ⟨kind, clean, will, keep, client, present, code, dup, qos, retain, topic, payload, id, fv, cv⟩ := p
  obtain rfl := hfv
  obtain rfl := hcv
  have cN : Hid (∀ w, Calls Tryz.prog 96 #[.string s, .int .i64 8] w fun e w' => e = .returned (.int .i64 (numAt s.data.toList 8)) ∧ ∃ n, w' = w.drewN n) := hide fun w => number_any s 8 w (by omega)
  have cT : Hid (∀ w, Calls Tryz.prog 94 #[.string s, .int .i64 10] w fun e w' => e = .returned (.tuple #[.string (bs c), .int .i64 a]) ∧ ∃ n, w' = w.drewN n) := hide fun w => by
    have := text_any s 10 w (by omega) (by omega)
    rw [hc] at this
    exact this
  have cM := hide fun w hI => rName_any (bs c) 0 10 w (by rw [show (bs c).size = c.length from by rw [Lib.size_eq, data_bs]]; unfold maxLen; omega) hI
  rw [data_bs] at cM
  generalize hK : numAt s.data.toList 8 = K at *
  have hxl := x.toNat_lt
  have e2 := bq2 ⟨x.toNat, hxl⟩
  have e4 := bq4 ⟨x.toNat, hxl⟩
  have e32 := bq32 ⟨x.toNat, hxl⟩
  have e8 := bq8 ⟨x.toNat, hxl⟩
  have em := bm2 ⟨x.toNat, hxl⟩
  simp only at e2 e4 e32 e8 em
  have H0 := hide fun p => Dc.begin w p hI hN
  have hlt : ¬ (s.size : Int) < 12 := by omega
  have h7 : (7 : Int) ≤ (s.size : Int) := by omega
  unfold bitP
  unfold bitOk at hbad
  generalize decide (x.toNat / 2 % 2 = 1) = bC at *
  generalize decide (x.toNat / 4 % 2 = 1) = bW at *
  generalize decide (x.toNat / 32 % 2 = 1) = bR at *
  generalize x.toNat / 8 % 4 = Q at *
  have HBAD := hide hbad
  clear hbad hI hN hc hK h300
  simp only [pkCells]
  go_enter Tryz.func93, Tryz.ntmps93
  go_wp2_with fail
  refine (unhide cN _).mono ?_
  rintro e w1 ⟨rfl, n1, hw1⟩
  have H1 : Hid (Dc w w1 w.heap.size ⟨kind, bC, bW, keep, client, present, code, dup, (Q : Int), bR, topic, payload, id, .slice none 0 0, .slice none 0 0⟩) := hide (by rw [hw1]; exact (H0.out ⟨kind, bC, bW, keep, client, present, code, dup, (Q : Int), bR, topic, payload, id, .slice none 0 0, .slice none 0 0⟩).drawn n1)
  clear hw1 H0 e2 e4 e32 e8
  have k3 := H1.out.pk.c3
  have f3 := H1.out.pk.fz 3
  have l1 := H1.out.lt
  go_wp2_with fail
  have H2 := hide (H1.out.set (H1.out.pk.setKeep K))
  refine (unhide cT _).mono ?_
  rintro e w3 ⟨rfl, n3, hw3⟩
  have H3 : Hid (Dc w w3 w.heap.size ⟨kind, bC, bW, K, client, present, code, dup, (Q : Int), bR, topic, payload, id, .slice none 0 0, .slice none 0 0⟩) := hide (by rw [hw3]; exact H2.out.drawn n3)
  clear hw3 k3 f3 l1 H1 H2
  go_wp2_with fail
  refine (unhide cM _ H3.out.inv).mono ?_
  rintro e w4 ⟨rfl, hb4⟩
  have H4 := hide (H3.out.belStep hb4)
  clear hb4 H3 cN cT cM
  have hD := H4.out
  have p0 := hD.pk.c0; have p1 := hD.pk.c1; have p2 := hD.pk.c2; have p3 := hD.pk.c3; have p4 := hD.pk.c4; have p5 := hD.pk.c5; have p6 := hD.pk.c6; have p7 := hD.pk.c7; have p8 := hD.pk.c8; have p9 := hD.pk.c9; have p10 := hD.pk.c10; have p11 := hD.pk.c11; have p12 := hD.pk.c12; have p13 := hD.pk.c13; have p14 := hD.pk.c14
  obtain ⟨y0, y1, y2, y3, y4, y5, y6, y7, y8, y9, y10, y11, y12, y13, y14⟩ := zero_thawed hD.res
  obtain ⟨z0, z1, z2, z3, z4, z5, z6, z7, z8, z9, z10, z11, z12, z13, z14⟩ := zero_cells hD.res
  have l4 := hD.lt
  have HZ := hide (World.cell?_setCells_in (w.heap.size + 1) [.int .i64 kind, .bool bC, .bool bW, .int .i64 K, .string (bs client), .bool present, .int .i64 code, .bool dup, .int .i64 (Q : Int), .bool bR, .string (bs topic), .string (bs payload), .int .i64 id, .slice none 0 0, .slice none 0 0] 0 w4 (fun j hj => zero_some2 hD.res j hj))
  have HB := hide hD.bel
  clear hD
  simp only at p0 p1 p2 p3 p4 p5 p6 p7 p8 p9 p10 p11 p12 p13 p14
  have hfin : ∀ w7, w4.grownBy w7 (some (w.heap.size + 1)) → Below w.heap.size w w7 := fun w7 hg => HB.out.trans (below_grown hg (by omega) (by omega))
  have HF := hide hfin
  clear hfin
  generalize hnm : nameB 0 10 c = nm at *
  have hcase : x.toNat % 2 = 1 ∨ ¬x.toNat % 2 = 1 ∧ (63 < x.toNat ∨ ¬63 < x.toNat ∧ (2 < Q ∨ ¬2 < Q ∧ (bW = false ∧ (0 < Q ∨ ¬0 < Q ∧ bR = true) ∨ (bW = true ∨ bW = false ∧ ¬0 < Q ∧ bR = false) ∧ (a < 0 ∨ ¬a < 0 ∧ nm = false)))) := by
    have h := HBAD.out
    by_cases g1 : x.toNat % 2 = 1
    · exact Or.inl g1
    · refine Or.inr ⟨g1, ?_⟩
      by_cases g2 : 63 < x.toNat
      · exact Or.inl g2
      · refine Or.inr ⟨g2, ?_⟩
        by_cases g3 : 2 < Q
        · exact Or.inl g3
        · refine Or.inr ⟨g3, ?_⟩
          rw [decide_eq_true (show x.toNat % 2 = 0 by omega), decide_eq_true (show x.toNat < 64 by omega), decide_eq_true (show Q ≤ 2 by omega)] at h
          have hr : (a < 0 ∨ nm = false) → (a < 0 ∨ ¬a < 0 ∧ nm = false) := fun h => by
            by_cases ga : a < 0
            · exact Or.inl ga
            · exact Or.inr ⟨ga, h.resolve_left ga⟩
          cases bW
          · by_cases g4 : 0 < Q
            · exact Or.inl ⟨rfl, Or.inl g4⟩
            · cases bR
              · refine Or.inr ⟨Or.inr ⟨rfl, g4, rfl⟩, hr ?_⟩
                rw [decide_eq_true (show Q = 0 by omega)] at h
                simpa using h
              · exact Or.inl ⟨rfl, Or.inr ⟨g4, rfl⟩⟩
          · refine Or.inr ⟨Or.inl rfl, hr ?_⟩
            simpa using h
  clear HBAD
  rcases hcase with g1 | ⟨g1, g2 | ⟨g2, g3 | ⟨g3, ⟨rfl, g4 | ⟨g4, rfl⟩⟩ | ⟨rfl | ⟨rfl, g4, rfl⟩, g5 | ⟨g5, rfl⟩⟩⟩⟩⟩
  all_goals
    first | rw [decide_eq_true g1] at em | rw [decide_eq_false g1] at em
  all_goals
    go_wp2_with fail
    refine bodyPost_ret (results_dc _ _ (w.heap.size + 1) _ _ _ _ _ _ _ _ _ _ _ _ _ _ _ rfl (HZ.out 0 (show 0 < 15 by decide)) (HZ.out 1 (show 1 < 15 by decide)) (HZ.out 2 (show 2 < 15 by decide)) (HZ.out 3 (show 3 < 15 by decide)) (HZ.out 4 (show 4 < 15 by decide)) (HZ.out 5 (show 5 < 15 by decide)) (HZ.out 6 (show 6 < 15 by decide)) (HZ.out 7 (show 7 < 15 by decide)) (HZ.out 8 (show 8 < 15 by decide)) (HZ.out 9 (show 9 < 15 by decide)) (HZ.out 10 (show 10 < 15 by decide)) (HZ.out 11 (show 11 < 15 by decide)) (HZ.out 12 (show 12 < 15 by decide)) (HZ.out 13 (show 13 < 15 by decide)) (HZ.out 14 (show 14 < 15 by decide))) rfl ?_
    refine ⟨rfl, HF.out _ ?_⟩
    repeat refine grown_trans ?_ (grown_set _ _ _ _)
    exact grown_refl _ _
end Go.Proofs.YtnmfmoimjkoieaaGreatDoor.rf
