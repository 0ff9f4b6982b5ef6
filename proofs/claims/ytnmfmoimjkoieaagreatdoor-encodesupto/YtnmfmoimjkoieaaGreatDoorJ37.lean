import Derived.Test.YtnmfmoimjkoieaaGreatDoorJ36
/- courantref.body: PUBLISH. courantref.body: those with an Id alone. -/
namespace Go.Proofs.YtnmfmoimjkoieaaGreatDoor.rf
open Go.RowKit Go.Proofs.YtnmfmoimjkoieaaGreatDoor.topPlain Go.Proofs.YtnmfmoimjkoieaaGreatDoor.topWalks Go.Proofs.YtnmfmoimjkoieaaGreatDoor.decPlain Go.Proofs.YtnmfmoimjkoieaaGreatDoor.rd

set_option maxHeartbeats 6400000 in
set_option maxRecDepth 100000 in
theorem db_publish (s : ByteArray) (p : Pkt) (w : World) (hs : s.size ≤ 300) (hk : p.kind = 3) (hI : topWalks.Inv w) (hN : 5 ≤ w.heap.size) (hfv : p.fv = .slice none 0 0) (hcv : p.cv = .slice none 0 0) :
    Calls Tryz.prog 69 #[.string s, .agg (pkCells p)] w (DbPost w (bodyS p s.data.toList)) := by
  have hB := body_publish p s.data.toList hk
  unfold docPub at hB
  have hsz := Lib.size_eq s
  have htl := txtAt_le s.data.toList 0
  have hal := txtAt_at s.data.toList 0
  have cT0 := fun w => text_any s 0 w (by omega) (by omega)
  generalize hT : txtAt s.data.toList 0 = T at *
  obtain ⟨t, k⟩ := T
  simp only at hB htl hal cT0
  have cT : Hid (∀ w, Calls Tryz.prog 94 #[.string s, .int .i64 0] w fun e w' => e = .returned (.tuple #[.string (bs t), .int .i64 k]) ∧ ∃ n, w' = w.drewN n) := hide cT0
  have cP := hide fun w hI => rTopic_any (bs t) w (by rw [show (bs t).size = t.length from by rw [Lib.size_eq, data_bs]]; unfold maxLen; omega) hI
  rw [data_bs] at cP
  have cN : Hid (∀ w, 0 ≤ k → Calls Tryz.prog 96 #[.string s, .int .i64 k] w fun e w' => e = .returned (.int .i64 (numAt s.data.toList k.toNat)) ∧ ∃ n, w' = w.drewN n) := hide fun w h0 => by
    have := number_any s k.toNat w (by omega)
    rw [show ((k.toNat : Nat) : Int) = k by omega] at this
    exact this
  have hdr1 : ∀ n : Nat, n ≤ s.size → s.extract n s.size = bs (s.data.toList.drop n) := fun n hn => by
    rw [ext_bs, List.take_of_length_le (by rw [List.length_drop, ← hsz]; omega)]
  have HDR := hide hdr1
  have hnl : 1 ≤ numAt s.data.toList k.toNat → k.toNat + 2 ≤ s.size := fun h => by
    by_cases hh : s.data.toList.length < k.toNat + 2
    · rw [numAt_short _ _ hh] at h; omega
    · omega
  have HNL := hide hnl
  have H0 := hide fun p => Dc.begin w p hI hN
  have HB := hide hB
  rw [← hsz] at htl hal
  clear hB hsz hT cT0 hdr1 hnl hI hN
  obtain ⟨kind, clean, will, keep, client, present, code, dup, qos, retain, topic, payload, id, fv, cv⟩ := p
  obtain rfl := hfv
  obtain rfl := hcv
  obtain rfl := hk
  simp only at HB
  generalize numAt s.data.toList k.toNat = num at *
  simp only [pkCells]
  go_enter Tryz.func69, Tryz.ntmps69
  go_wp2_with fail
  refine (unhide cT _).mono ?_
  rintro e w1 ⟨rfl, n1, hw1⟩
  have H1 : Hid (Dc w w1 w.heap.size ⟨3, clean, will, keep, client, present, code, dup, qos, retain, topic, payload, id, .slice none 0 0, .slice none 0 0⟩) := hide (by rw [hw1]; exact (H0.out ⟨3, clean, will, keep, client, present, code, dup, qos, retain, topic, payload, id, .slice none 0 0, .slice none 0 0⟩).drawn n1)
  clear hw1 H0 cT
  go_wp2_with fail
  refine (unhide cP _ H1.out.inv).mono ?_
  rintro e w2 ⟨rfl, hb2⟩
  have H2 := hide (H1.out.belStep hb2)
  clear hb2 H1 cP
  generalize topicB t = tb at *
  by_cases h0 : k < 0
  · have HR := hide (HB.out.trans (congrArg (Option.map _) (if_pos (Or.inl h0))))
    clear HB HDR HNL cN
    generalize bodyS _ s.data.toList = R at *
    have hD := H2.out
    have p0 := hD.pk.c0; have p1 := hD.pk.c1; have p2 := hD.pk.c2; have p3 := hD.pk.c3; have p4 := hD.pk.c4; have p5 := hD.pk.c5; have p6 := hD.pk.c6; have p7 := hD.pk.c7; have p8 := hD.pk.c8; have p9 := hD.pk.c9; have p10 := hD.pk.c10; have p11 := hD.pk.c11; have p12 := hD.pk.c12; have p13 := hD.pk.c13; have p14 := hD.pk.c14
    obtain ⟨y0, y1, y2, y3, y4, y5, y6, y7, y8, y9, y10, y11, y12, y13, y14⟩ := zero_thawed hD.res
    obtain ⟨z0, z1, z2, z3, z4, z5, z6, z7, z8, z9, z10, z11, z12, z13, z14⟩ := zero_cells hD.res
    have l4 := hD.lt
    have f4 := hD.pk.fz 4
    have f10 := hD.pk.fz 10
    have f11 := hD.pk.fz 11
    clear hD
    simp only at p0 p1 p2 p3 p4 p5 p6 p7 p8 p9 p10 p11 p12 p13 p14
    have HZ := hide (World.cell?_setCells_in (w.heap.size + 1) [.int .i64 3, .bool clean, .bool will, .int .i64 keep, .string (bs client), .bool present, .int .i64 code, .bool dup, .int .i64 qos, .bool retain, .string (bs topic), .string (bs payload), .int .i64 id, .slice none 0 0, .slice none 0 0] 0 (w2) (fun j hj => zero_some2 H2.out.res j hj))
    have hfin : ∀ wF, (w2).grownBy wF (some (w.heap.size + 1)) → Below w.heap.size w wF := fun wF hg => H2.out.bel.trans (below_grown hg (by omega) (by have := H2.out.lt; omega))
    have HF := hide hfin
    clear hfin
    go_wp2_with fail
    refine bodyPost_ret (results_db _ _ (w.heap.size + 1) _ _ _ _ _ _ _ _ _ _ _ _ _ _ _ rfl (HZ.out 0 (show 0 < 15 by decide)) (HZ.out 1 (show 1 < 15 by decide)) (HZ.out 2 (show 2 < 15 by decide)) (HZ.out 3 (show 3 < 15 by decide)) (HZ.out 4 (show 4 < 15 by decide)) (HZ.out 5 (show 5 < 15 by decide)) (HZ.out 6 (show 6 < 15 by decide)) (HZ.out 7 (show 7 < 15 by decide)) (HZ.out 8 (show 8 < 15 by decide)) (HZ.out 9 (show 9 < 15 by decide)) (HZ.out 10 (show 10 < 15 by decide)) (HZ.out 11 (show 11 < 15 by decide)) (HZ.out 12 (show 12 < 15 by decide)) (HZ.out 13 (show 13 < 15 by decide)) (HZ.out 14 (show 14 < 15 by decide))) rfl ?_
    refine DbPost.bad (q := ⟨3, clean, will, keep, client, present, code, dup, qos, retain, topic, payload, id, .slice none 0 0, .slice none 0 0⟩) HR.out (HF.out _ ?_) ⟨_, _, _, rfl⟩ ⟨_, _, _, rfl⟩
    repeat refine grown_trans ?_ (grown_set _ _ _ _)
    exact grown_refl _ _
  · cases tb with
    | false =>
      have HR := hide (HB.out.trans (congrArg (Option.map _) (if_pos (Or.inr rfl))))
      clear HB HDR HNL cN
      generalize bodyS _ s.data.toList = R at *
      have hD := H2.out
      have p0 := hD.pk.c0; have p1 := hD.pk.c1; have p2 := hD.pk.c2; have p3 := hD.pk.c3; have p4 := hD.pk.c4; have p5 := hD.pk.c5; have p6 := hD.pk.c6; have p7 := hD.pk.c7; have p8 := hD.pk.c8; have p9 := hD.pk.c9; have p10 := hD.pk.c10; have p11 := hD.pk.c11; have p12 := hD.pk.c12; have p13 := hD.pk.c13; have p14 := hD.pk.c14
      obtain ⟨y0, y1, y2, y3, y4, y5, y6, y7, y8, y9, y10, y11, y12, y13, y14⟩ := zero_thawed hD.res
      obtain ⟨z0, z1, z2, z3, z4, z5, z6, z7, z8, z9, z10, z11, z12, z13, z14⟩ := zero_cells hD.res
      have l4 := hD.lt
      have f4 := hD.pk.fz 4
      have f10 := hD.pk.fz 10
      have f11 := hD.pk.fz 11
      clear hD
      simp only at p0 p1 p2 p3 p4 p5 p6 p7 p8 p9 p10 p11 p12 p13 p14
      have HZ := hide (World.cell?_setCells_in (w.heap.size + 1) [.int .i64 3, .bool clean, .bool will, .int .i64 keep, .string (bs client), .bool present, .int .i64 code, .bool dup, .int .i64 qos, .bool retain, .string (bs topic), .string (bs payload), .int .i64 id, .slice none 0 0, .slice none 0 0] 0 (w2) (fun j hj => zero_some2 H2.out.res j hj))
      have hfin : ∀ wF, (w2).grownBy wF (some (w.heap.size + 1)) → Below w.heap.size w wF := fun wF hg => H2.out.bel.trans (below_grown hg (by omega) (by have := H2.out.lt; omega))
      have HF := hide hfin
      clear hfin
      go_wp2_with fail
      refine bodyPost_ret (results_db _ _ (w.heap.size + 1) _ _ _ _ _ _ _ _ _ _ _ _ _ _ _ rfl (HZ.out 0 (show 0 < 15 by decide)) (HZ.out 1 (show 1 < 15 by decide)) (HZ.out 2 (show 2 < 15 by decide)) (HZ.out 3 (show 3 < 15 by decide)) (HZ.out 4 (show 4 < 15 by decide)) (HZ.out 5 (show 5 < 15 by decide)) (HZ.out 6 (show 6 < 15 by decide)) (HZ.out 7 (show 7 < 15 by decide)) (HZ.out 8 (show 8 < 15 by decide)) (HZ.out 9 (show 9 < 15 by decide)) (HZ.out 10 (show 10 < 15 by decide)) (HZ.out 11 (show 11 < 15 by decide)) (HZ.out 12 (show 12 < 15 by decide)) (HZ.out 13 (show 13 < 15 by decide)) (HZ.out 14 (show 14 < 15 by decide))) rfl ?_
      refine DbPost.bad (q := ⟨3, clean, will, keep, client, present, code, dup, qos, retain, topic, payload, id, .slice none 0 0, .slice none 0 0⟩) HR.out (HF.out _ ?_) ⟨_, _, _, rfl⟩ ⟨_, _, _, rfl⟩
      repeat refine grown_trans ?_ (grown_set _ _ _ _)
      exact grown_refl _ _
    | true =>
      have hB2 := HB.out.trans (congrArg (Option.map _) (if_neg (by simp; omega)))
      have HB2 := hide hB2
      clear HB hB2
      have h0' : 0 ≤ k := by omega
      by_cases hq : 0 < qos
      · have hB3 := HB2.out.trans (congrArg (Option.map _) (if_pos hq))
        have HB3 := hide hB3
        clear hB3 HB2
        have k8 := H2.out.pk.c8
        have k10 := H2.out.pk.c10
        have f10 := H2.out.pk.fz 10
        have l2 := H2.out.lt
        go_wp2_with fail
        have H3 := hide (H2.out.set (H2.out.pk.setTopic t))
        refine (unhide cN _ h0').mono ?_
        rintro e w4 ⟨rfl, n4, hw4⟩
        have H4 : Hid (Dc w w4 w.heap.size ⟨3, clean, will, keep, client, present, code, dup, qos, retain, t, payload, id, .slice none 0 0, .slice none 0 0⟩) := hide (by rw [hw4]; exact H3.out.drawn n4)
        clear hw4 cN k8 k10 f10 l2 H2 H3
        by_cases hn : num < 1
        · have HR := hide (HB3.out.trans (congrArg (Option.map _) (if_pos hn)))
          clear HB3 HDR HNL
          generalize bodyS _ s.data.toList = R at *
          have f12 := H4.out.pk.fz 12
          have H5 := hide (H4.out.set (H4.out.pk.id num))
          have hD := H4.out
          have p0 := hD.pk.c0; have p1 := hD.pk.c1; have p2 := hD.pk.c2; have p3 := hD.pk.c3; have p4 := hD.pk.c4; have p5 := hD.pk.c5; have p6 := hD.pk.c6; have p7 := hD.pk.c7; have p8 := hD.pk.c8; have p9 := hD.pk.c9; have p10 := hD.pk.c10; have p11 := hD.pk.c11; have p12 := hD.pk.c12; have p13 := hD.pk.c13; have p14 := hD.pk.c14
          obtain ⟨y0, y1, y2, y3, y4, y5, y6, y7, y8, y9, y10, y11, y12, y13, y14⟩ := zero_thawed hD.res
          obtain ⟨z0, z1, z2, z3, z4, z5, z6, z7, z8, z9, z10, z11, z12, z13, z14⟩ := zero_cells hD.res
          have l4 := hD.lt
          have f4 := hD.pk.fz 4
          have f10 := hD.pk.fz 10
          have f11 := hD.pk.fz 11
          clear hD
          simp only at p0 p1 p2 p3 p4 p5 p6 p7 p8 p9 p10 p11 p12 p13 p14
          have HZ := hide (World.cell?_setCells_in (w.heap.size + 1) [.int .i64 3, .bool clean, .bool will, .int .i64 keep, .string (bs client), .bool present, .int .i64 code, .bool dup, .int .i64 qos, .bool retain, .string (bs t), .string (bs payload), .int .i64 num, .slice none 0 0, .slice none 0 0] 0 (w4.setCell ⟨w.heap.size, 12, none⟩ (.int .i64 num)) (fun j hj => zero_some2 H5.out.res j hj))
          have hfin : ∀ wF, (w4.setCell ⟨w.heap.size, 12, none⟩ (.int .i64 num)).grownBy wF (some (w.heap.size + 1)) → Below w.heap.size w wF := fun wF hg => H5.out.bel.trans (below_grown hg (by omega) (by have := H5.out.lt; omega))
          have HF := hide hfin
          clear hfin
          go_wp2_with fail
          refine bodyPost_ret (results_db _ _ (w.heap.size + 1) _ _ _ _ _ _ _ _ _ _ _ _ _ _ _ rfl (HZ.out 0 (show 0 < 15 by decide)) (HZ.out 1 (show 1 < 15 by decide)) (HZ.out 2 (show 2 < 15 by decide)) (HZ.out 3 (show 3 < 15 by decide)) (HZ.out 4 (show 4 < 15 by decide)) (HZ.out 5 (show 5 < 15 by decide)) (HZ.out 6 (show 6 < 15 by decide)) (HZ.out 7 (show 7 < 15 by decide)) (HZ.out 8 (show 8 < 15 by decide)) (HZ.out 9 (show 9 < 15 by decide)) (HZ.out 10 (show 10 < 15 by decide)) (HZ.out 11 (show 11 < 15 by decide)) (HZ.out 12 (show 12 < 15 by decide)) (HZ.out 13 (show 13 < 15 by decide)) (HZ.out 14 (show 14 < 15 by decide))) rfl ?_
          refine DbPost.bad (q := ⟨3, clean, will, keep, client, present, code, dup, qos, retain, t, payload, num, .slice none 0 0, .slice none 0 0⟩) HR.out (HF.out _ ?_) ⟨_, _, _, rfl⟩ ⟨_, _, _, rfl⟩
          repeat refine grown_trans ?_ (grown_set _ _ _ _)
          exact grown_refl _ _
        · have hkl : k.toNat + 2 ≤ s.size := HNL.out (by omega)
          have HR := hide (HB3.out.trans (congrArg (Option.map _) (if_neg hn)))
          have hex := HDR.out (k.toNat + 2) hkl
          have HEX := hide hex
          clear HB3 HDR HNL hex
          generalize s.data.toList.drop (k.toNat + 2) = dr at *
          generalize bodyS _ s.data.toList = R at *
          have f12 := H4.out.pk.fz 12
          have H5 := hide (H4.out.set (H4.out.pk.id num))
          have H6 := hide (H5.out.set (H5.out.pk.setPayload dr))
          have hk2 : k + 2 ≤ (s.size : Int) := by omega
          have hkt : (k + 2).toNat = k.toNat + 2 := by omega
          have hex2 := HEX.out
          have hD := H4.out
          have p0 := hD.pk.c0; have p1 := hD.pk.c1; have p2 := hD.pk.c2; have p3 := hD.pk.c3; have p4 := hD.pk.c4; have p5 := hD.pk.c5; have p6 := hD.pk.c6; have p7 := hD.pk.c7; have p8 := hD.pk.c8; have p9 := hD.pk.c9; have p10 := hD.pk.c10; have p11 := hD.pk.c11; have p12 := hD.pk.c12; have p13 := hD.pk.c13; have p14 := hD.pk.c14
          obtain ⟨y0, y1, y2, y3, y4, y5, y6, y7, y8, y9, y10, y11, y12, y13, y14⟩ := zero_thawed hD.res
          obtain ⟨z0, z1, z2, z3, z4, z5, z6, z7, z8, z9, z10, z11, z12, z13, z14⟩ := zero_cells hD.res
          have l4 := hD.lt
          have f4 := hD.pk.fz 4
          have f10 := hD.pk.fz 10
          have f11 := hD.pk.fz 11
          clear hD
          simp only at p0 p1 p2 p3 p4 p5 p6 p7 p8 p9 p10 p11 p12 p13 p14
          have HZ := hide (World.cell?_setCells_in (w.heap.size + 1) [.int .i64 3, .bool clean, .bool will, .int .i64 keep, .string (bs client), .bool present, .int .i64 code, .bool dup, .int .i64 qos, .bool retain, .string (bs t), .string (bs dr), .int .i64 num, .slice none 0 0, .slice none 0 0] 0 ((w4.setCell ⟨w.heap.size, 12, none⟩ (.int .i64 num)).setCell ⟨w.heap.size, 11, none⟩ (.string (bs dr))) (fun j hj => zero_some2 H6.out.res j hj))
          have hfin : ∀ wF, ((w4.setCell ⟨w.heap.size, 12, none⟩ (.int .i64 num)).setCell ⟨w.heap.size, 11, none⟩ (.string (bs dr))).grownBy wF (some (w.heap.size + 1)) → Below w.heap.size w wF := fun wF hg => H6.out.bel.trans (below_grown hg (by omega) (by have := H6.out.lt; omega))
          have HF := hide hfin
          clear hfin
          go_wp2_with fail
          refine bodyPost_ret (results_db _ _ (w.heap.size + 1) _ _ _ _ _ _ _ _ _ _ _ _ _ _ _ rfl (HZ.out 0 (show 0 < 15 by decide)) (HZ.out 1 (show 1 < 15 by decide)) (HZ.out 2 (show 2 < 15 by decide)) (HZ.out 3 (show 3 < 15 by decide)) (HZ.out 4 (show 4 < 15 by decide)) (HZ.out 5 (show 5 < 15 by decide)) (HZ.out 6 (show 6 < 15 by decide)) (HZ.out 7 (show 7 < 15 by decide)) (HZ.out 8 (show 8 < 15 by decide)) (HZ.out 9 (show 9 < 15 by decide)) (HZ.out 10 (show 10 < 15 by decide)) (HZ.out 11 (show 11 < 15 by decide)) (HZ.out 12 (show 12 < 15 by decide)) (HZ.out 13 (show 13 < 15 by decide)) (HZ.out 14 (show 14 < 15 by decide))) rfl ?_
          refine DbPost.good (q := ⟨3, clean, will, keep, client, present, code, dup, qos, retain, t, dr, num, .slice none 0 0, .slice none 0 0⟩) HR.out (HF.out _ ?_) rfl rfl
          repeat refine grown_trans ?_ (grown_set _ _ _ _)
          exact grown_refl _ _
      · have hB3 := HB2.out.trans (congrArg (Option.map _) (if_neg hq))
        have HR := hide hB3
        have hex := HDR.out k.toNat (by omega)
        clear hB3 HB2 HDR HNL
        generalize s.data.toList.drop k.toNat = dr at *
        generalize bodyS _ s.data.toList = R at *
        have H3 := hide (H2.out.set (H2.out.pk.setTopic t))
        have H4 := hide (H3.out.set (H3.out.pk.setPayload dr))
        have hkl : k ≤ (s.size : Int) := by omega
        clear cN
        have hD := H2.out
        have p0 := hD.pk.c0; have p1 := hD.pk.c1; have p2 := hD.pk.c2; have p3 := hD.pk.c3; have p4 := hD.pk.c4; have p5 := hD.pk.c5; have p6 := hD.pk.c6; have p7 := hD.pk.c7; have p8 := hD.pk.c8; have p9 := hD.pk.c9; have p10 := hD.pk.c10; have p11 := hD.pk.c11; have p12 := hD.pk.c12; have p13 := hD.pk.c13; have p14 := hD.pk.c14
        obtain ⟨y0, y1, y2, y3, y4, y5, y6, y7, y8, y9, y10, y11, y12, y13, y14⟩ := zero_thawed hD.res
        obtain ⟨z0, z1, z2, z3, z4, z5, z6, z7, z8, z9, z10, z11, z12, z13, z14⟩ := zero_cells hD.res
        have l4 := hD.lt
        have f4 := hD.pk.fz 4
        have f10 := hD.pk.fz 10
        have f11 := hD.pk.fz 11
        clear hD
        simp only at p0 p1 p2 p3 p4 p5 p6 p7 p8 p9 p10 p11 p12 p13 p14
        have HZ := hide (World.cell?_setCells_in (w.heap.size + 1) [.int .i64 3, .bool clean, .bool will, .int .i64 keep, .string (bs client), .bool present, .int .i64 code, .bool dup, .int .i64 qos, .bool retain, .string (bs t), .string (bs dr), .int .i64 id, .slice none 0 0, .slice none 0 0] 0 ((w2.setCell ⟨w.heap.size, 10, none⟩ (.string (bs t))).setCell ⟨w.heap.size, 11, none⟩ (.string (bs dr))) (fun j hj => zero_some2 H4.out.res j hj))
        have hfin : ∀ wF, ((w2.setCell ⟨w.heap.size, 10, none⟩ (.string (bs t))).setCell ⟨w.heap.size, 11, none⟩ (.string (bs dr))).grownBy wF (some (w.heap.size + 1)) → Below w.heap.size w wF := fun wF hg => H4.out.bel.trans (below_grown hg (by omega) (by have := H4.out.lt; omega))
        have HF := hide hfin
        clear hfin
        go_wp2_with fail
        refine bodyPost_ret (results_db _ _ (w.heap.size + 1) _ _ _ _ _ _ _ _ _ _ _ _ _ _ _ rfl (HZ.out 0 (show 0 < 15 by decide)) (HZ.out 1 (show 1 < 15 by decide)) (HZ.out 2 (show 2 < 15 by decide)) (HZ.out 3 (show 3 < 15 by decide)) (HZ.out 4 (show 4 < 15 by decide)) (HZ.out 5 (show 5 < 15 by decide)) (HZ.out 6 (show 6 < 15 by decide)) (HZ.out 7 (show 7 < 15 by decide)) (HZ.out 8 (show 8 < 15 by decide)) (HZ.out 9 (show 9 < 15 by decide)) (HZ.out 10 (show 10 < 15 by decide)) (HZ.out 11 (show 11 < 15 by decide)) (HZ.out 12 (show 12 < 15 by decide)) (HZ.out 13 (show 13 < 15 by decide)) (HZ.out 14 (show 14 < 15 by decide))) rfl ?_
        refine DbPost.good (q := ⟨3, clean, will, keep, client, present, code, dup, qos, retain, t, dr, id, .slice none 0 0, .slice none 0 0⟩) HR.out (HF.out _ ?_) rfl rfl
        repeat refine grown_trans ?_ (grown_set _ _ _ _)
        exact grown_refl _ _
end Go.Proofs.YtnmfmoimjkoieaaGreatDoor.rf

namespace Go.Proofs.YtnmfmoimjkoieaaGreatDoor.rf
open Go.RowKit Go.Proofs.YtnmfmoimjkoieaaGreatDoor.topPlain Go.Proofs.YtnmfmoimjkoieaaGreatDoor.topWalks Go.Proofs.YtnmfmoimjkoieaaGreatDoor.decPlain Go.Proofs.YtnmfmoimjkoieaaGreatDoor.rd

set_option maxHeartbeats 6400000 in
set_option maxRecDepth 100000 in
theorem db_id (s : ByteArray) (p : Pkt) (w : World) (hs : s.size ≤ 300) (hk : p.kind = 4 ∨ p.kind = 5 ∨ p.kind = 6 ∨ p.kind = 7 ∨ p.kind = 11) (hI : topWalks.Inv w) (hN : 5 ≤ w.heap.size) (hfv : p.fv = .slice none 0 0) (hcv : p.cv = .slice none 0 0) :
    Calls Tryz.prog 69 #[.string s, .agg (pkCells p)] w (DbPost w (bodyS p s.data.toList)) := by
  have hB := body_id p s.data.toList hk
  have hsz := Lib.size_eq s
  have cN : Hid (∀ w, Calls Tryz.prog 96 #[.string s, .int .i64 0] w fun e w' => e = .returned (.int .i64 (numAt s.data.toList 0)) ∧ ∃ n, w' = w.drewN n) := hide fun w => number_any s 0 w (by omega)
  have hnl : 1 ≤ numAt s.data.toList 0 → 2 ≤ s.size := fun h => by
    by_cases hh : s.data.toList.length < 0 + 2
    · rw [numAt_short _ _ hh] at h; omega
    · omega
  have HNL := hide hnl
  have H0 := hide fun p => Dc.begin w p hI hN
  have HB := hide hB
  obtain ⟨u, hu⟩ : ∃ u, s.extract 2 s.size = u := ⟨_, rfl⟩
  have hud : u = bs (s.data.toList.drop 2) := by
    rw [← hu, ext_bs, List.take_of_length_le (by rw [List.length_drop, ← hsz]; omega)]
  have hus : u.size = (s.data.toList.drop 2).length := by rw [hud, Lib.size_eq, data_bs]
  have HUD := hide hud
  have HUS := hide hus
  have hus2 : u.size = s.size - 2 := by rw [hus, List.length_drop, ← hsz]
  clear hB hsz hnl hud hus
  clear hI hN
  obtain ⟨kind, clean, will, keep, client, present, code, dup, qos, retain, topic, payload, id, fv, cv⟩ := p
  obtain rfl := hfv
  obtain rfl := hcv
  simp only at hk
  have hk1 : (kind == 1) = false := beq_eq_false_iff_ne.2 (by omega)
  have hk2 : (kind == 2) = false := beq_eq_false_iff_ne.2 (by omega)
  have hk3 : (kind == 3) = false := beq_eq_false_iff_ne.2 (by omega)
  have hk12 : (kind == 12) = false := beq_eq_false_iff_ne.2 (by omega)
  have hk13 : (kind == 13) = false := beq_eq_false_iff_ne.2 (by omega)
  have hk14 : (kind == 14) = false := beq_eq_false_iff_ne.2 (by omega)
  have hk8 : (kind == 8) = false := beq_eq_false_iff_ne.2 (by omega)
  have hk10 : (kind == 10) = false := beq_eq_false_iff_ne.2 (by omega)
  have hk9 : (kind == 9) = false := beq_eq_false_iff_ne.2 (by omega)
  clear hk
  simp only [pkCells]
  go_enter Tryz.func69, Tryz.ntmps69
  go_wp2_with fail
  refine (unhide cN _).mono ?_
  rintro e w1 ⟨rfl, n1, hw1⟩
  have H1 : Hid (Dc w w1 w.heap.size ⟨kind, clean, will, keep, client, present, code, dup, qos, retain, topic, payload, id, .slice none 0 0, .slice none 0 0⟩) := hide (by rw [hw1]; exact (H0.out ⟨kind, clean, will, keep, client, present, code, dup, qos, retain, topic, payload, id, .slice none 0 0, .slice none 0 0⟩).drawn n1)
  clear hw1 H0 cN
  generalize numAt s.data.toList 0 = num at *
  have H2 := hide (H1.out.set (H1.out.pk.id num))
  have f12 := H1.out.pk.fz 12
  by_cases hn : num < 1
  · have HR := hide (HB.out.trans (if_pos hn))
    clear HB HNL HUD HUS hu
    generalize bodyS _ s.data.toList = R at *
    have hD := H1.out
    have p0 := hD.pk.c0; have p1 := hD.pk.c1; have p2 := hD.pk.c2; have p3 := hD.pk.c3; have p4 := hD.pk.c4; have p5 := hD.pk.c5; have p6 := hD.pk.c6; have p7 := hD.pk.c7; have p8 := hD.pk.c8; have p9 := hD.pk.c9; have p10 := hD.pk.c10; have p11 := hD.pk.c11; have p12 := hD.pk.c12; have p13 := hD.pk.c13; have p14 := hD.pk.c14
    obtain ⟨y0, y1, y2, y3, y4, y5, y6, y7, y8, y9, y10, y11, y12, y13, y14⟩ := zero_thawed hD.res
    obtain ⟨z0, z1, z2, z3, z4, z5, z6, z7, z8, z9, z10, z11, z12, z13, z14⟩ := zero_cells hD.res
    have l4 := hD.lt
    have f4 := hD.pk.fz 4
    have f10 := hD.pk.fz 10
    have f11 := hD.pk.fz 11
    clear hD
    simp only at p0 p1 p2 p3 p4 p5 p6 p7 p8 p9 p10 p11 p12 p13 p14
    have HZ := hide (World.cell?_setCells_in (w.heap.size + 1) [.int .i64 kind, .bool clean, .bool will, .int .i64 keep, .string (bs client), .bool present, .int .i64 code, .bool dup, .int .i64 qos, .bool retain, .string (bs topic), .string (bs payload), .int .i64 num, .slice none 0 0, .slice none 0 0] 0 (w1.setCell ⟨w.heap.size, 12, none⟩ (.int .i64 num)) (fun j hj => zero_some2 H2.out.res j hj))
    have hfin : ∀ wF, (w1.setCell ⟨w.heap.size, 12, none⟩ (.int .i64 num)).grownBy wF (some (w.heap.size + 1)) → Below w.heap.size w wF := fun wF hg => H2.out.bel.trans (below_grown hg (by omega) (by have := H2.out.lt; omega))
    have HF := hide hfin
    clear hfin
    go_wp2_with fail
    refine bodyPost_ret (results_db _ _ (w.heap.size + 1) _ _ _ _ _ _ _ _ _ _ _ _ _ _ _ rfl (HZ.out 0 (show 0 < 15 by decide)) (HZ.out 1 (show 1 < 15 by decide)) (HZ.out 2 (show 2 < 15 by decide)) (HZ.out 3 (show 3 < 15 by decide)) (HZ.out 4 (show 4 < 15 by decide)) (HZ.out 5 (show 5 < 15 by decide)) (HZ.out 6 (show 6 < 15 by decide)) (HZ.out 7 (show 7 < 15 by decide)) (HZ.out 8 (show 8 < 15 by decide)) (HZ.out 9 (show 9 < 15 by decide)) (HZ.out 10 (show 10 < 15 by decide)) (HZ.out 11 (show 11 < 15 by decide)) (HZ.out 12 (show 12 < 15 by decide)) (HZ.out 13 (show 13 < 15 by decide)) (HZ.out 14 (show 14 < 15 by decide))) rfl ?_
    refine DbPost.bad (q := ⟨kind, clean, will, keep, client, present, code, dup, qos, retain, topic, payload, num, .slice none 0 0, .slice none 0 0⟩) HR.out (HF.out _ ?_) ⟨_, _, _, rfl⟩ ⟨_, _, _, rfl⟩
    repeat refine grown_trans ?_ (grown_set _ _ _ _)
    exact grown_refl _ _
  · have h2 : 2 ≤ s.size := HNL.out (by omega)
    have hB2 := HB.out.trans (if_neg hn)
    rw [← HUS.out] at hB2
    have HB2 := hide hB2
    have h2i : (2 : Int) ≤ (s.size : Int) := by omega
    clear HB HNL HUD HUS hB2
    by_cases hz : u.size = 0
    · have HR := hide (HB2.out.trans (if_pos hz))
      have he : ((u.size : Int) == 0) = true := beq_iff_eq.2 (by omega)
      clear HB2 hz hus2
      generalize bodyS _ s.data.toList = R at *
      have hD := H1.out
      have p0 := hD.pk.c0; have p1 := hD.pk.c1; have p2 := hD.pk.c2; have p3 := hD.pk.c3; have p4 := hD.pk.c4; have p5 := hD.pk.c5; have p6 := hD.pk.c6; have p7 := hD.pk.c7; have p8 := hD.pk.c8; have p9 := hD.pk.c9; have p10 := hD.pk.c10; have p11 := hD.pk.c11; have p12 := hD.pk.c12; have p13 := hD.pk.c13; have p14 := hD.pk.c14
      obtain ⟨y0, y1, y2, y3, y4, y5, y6, y7, y8, y9, y10, y11, y12, y13, y14⟩ := zero_thawed hD.res
      obtain ⟨z0, z1, z2, z3, z4, z5, z6, z7, z8, z9, z10, z11, z12, z13, z14⟩ := zero_cells hD.res
      have l4 := hD.lt
      have f4 := hD.pk.fz 4
      have f10 := hD.pk.fz 10
      have f11 := hD.pk.fz 11
      clear hD
      simp only at p0 p1 p2 p3 p4 p5 p6 p7 p8 p9 p10 p11 p12 p13 p14
      have HZ := hide (World.cell?_setCells_in (w.heap.size + 1) [.int .i64 kind, .bool clean, .bool will, .int .i64 keep, .string (bs client), .bool present, .int .i64 code, .bool dup, .int .i64 qos, .bool retain, .string (bs topic), .string (bs payload), .int .i64 num, .slice none 0 0, .slice none 0 0] 0 (w1.setCell ⟨w.heap.size, 12, none⟩ (.int .i64 num)) (fun j hj => zero_some2 H2.out.res j hj))
      have hfin : ∀ wF, (w1.setCell ⟨w.heap.size, 12, none⟩ (.int .i64 num)).grownBy wF (some (w.heap.size + 1)) → Below w.heap.size w wF := fun wF hg => H2.out.bel.trans (below_grown hg (by omega) (by have := H2.out.lt; omega))
      have HF := hide hfin
      clear hfin
      go_wp2_with fail
      refine bodyPost_ret (results_db _ _ (w.heap.size + 1) _ _ _ _ _ _ _ _ _ _ _ _ _ _ _ rfl (HZ.out 0 (show 0 < 15 by decide)) (HZ.out 1 (show 1 < 15 by decide)) (HZ.out 2 (show 2 < 15 by decide)) (HZ.out 3 (show 3 < 15 by decide)) (HZ.out 4 (show 4 < 15 by decide)) (HZ.out 5 (show 5 < 15 by decide)) (HZ.out 6 (show 6 < 15 by decide)) (HZ.out 7 (show 7 < 15 by decide)) (HZ.out 8 (show 8 < 15 by decide)) (HZ.out 9 (show 9 < 15 by decide)) (HZ.out 10 (show 10 < 15 by decide)) (HZ.out 11 (show 11 < 15 by decide)) (HZ.out 12 (show 12 < 15 by decide)) (HZ.out 13 (show 13 < 15 by decide)) (HZ.out 14 (show 14 < 15 by decide))) rfl ?_
      refine DbPost.good (q := ⟨kind, clean, will, keep, client, present, code, dup, qos, retain, topic, payload, num, .slice none 0 0, .slice none 0 0⟩) HR.out (HF.out _ ?_) rfl rfl
      repeat refine grown_trans ?_ (grown_set _ _ _ _)
      exact grown_refl _ _
    · have HR := hide (HB2.out.trans (if_neg hz))
      have he : ((u.size : Int) == 0) = false := beq_eq_false_iff_ne.2 (by omega)
      clear HB2 hz hus2
      generalize bodyS _ s.data.toList = R at *
      have hD := H1.out
      have p0 := hD.pk.c0; have p1 := hD.pk.c1; have p2 := hD.pk.c2; have p3 := hD.pk.c3; have p4 := hD.pk.c4; have p5 := hD.pk.c5; have p6 := hD.pk.c6; have p7 := hD.pk.c7; have p8 := hD.pk.c8; have p9 := hD.pk.c9; have p10 := hD.pk.c10; have p11 := hD.pk.c11; have p12 := hD.pk.c12; have p13 := hD.pk.c13; have p14 := hD.pk.c14
      obtain ⟨y0, y1, y2, y3, y4, y5, y6, y7, y8, y9, y10, y11, y12, y13, y14⟩ := zero_thawed hD.res
      obtain ⟨z0, z1, z2, z3, z4, z5, z6, z7, z8, z9, z10, z11, z12, z13, z14⟩ := zero_cells hD.res
      have l4 := hD.lt
      have f4 := hD.pk.fz 4
      have f10 := hD.pk.fz 10
      have f11 := hD.pk.fz 11
      clear hD
      simp only at p0 p1 p2 p3 p4 p5 p6 p7 p8 p9 p10 p11 p12 p13 p14
      have HZ := hide (World.cell?_setCells_in (w.heap.size + 1) [.int .i64 kind, .bool clean, .bool will, .int .i64 keep, .string (bs client), .bool present, .int .i64 code, .bool dup, .int .i64 qos, .bool retain, .string (bs topic), .string (bs payload), .int .i64 num, .slice none 0 0, .slice none 0 0] 0 (w1.setCell ⟨w.heap.size, 12, none⟩ (.int .i64 num)) (fun j hj => zero_some2 H2.out.res j hj))
      have hfin : ∀ wF, (w1.setCell ⟨w.heap.size, 12, none⟩ (.int .i64 num)).grownBy wF (some (w.heap.size + 1)) → Below w.heap.size w wF := fun wF hg => H2.out.bel.trans (below_grown hg (by omega) (by have := H2.out.lt; omega))
      have HF := hide hfin
      clear hfin
      go_wp2_with fail
      refine bodyPost_ret (results_db _ _ (w.heap.size + 1) _ _ _ _ _ _ _ _ _ _ _ _ _ _ _ rfl (HZ.out 0 (show 0 < 15 by decide)) (HZ.out 1 (show 1 < 15 by decide)) (HZ.out 2 (show 2 < 15 by decide)) (HZ.out 3 (show 3 < 15 by decide)) (HZ.out 4 (show 4 < 15 by decide)) (HZ.out 5 (show 5 < 15 by decide)) (HZ.out 6 (show 6 < 15 by decide)) (HZ.out 7 (show 7 < 15 by decide)) (HZ.out 8 (show 8 < 15 by decide)) (HZ.out 9 (show 9 < 15 by decide)) (HZ.out 10 (show 10 < 15 by decide)) (HZ.out 11 (show 11 < 15 by decide)) (HZ.out 12 (show 12 < 15 by decide)) (HZ.out 13 (show 13 < 15 by decide)) (HZ.out 14 (show 14 < 15 by decide))) rfl ?_
      refine DbPost.bad (q := ⟨kind, clean, will, keep, client, present, code, dup, qos, retain, topic, payload, num, .slice none 0 0, .slice none 0 0⟩) HR.out (HF.out _ ?_) ⟨_, _, _, rfl⟩ ⟨_, _, _, rfl⟩
      repeat refine grown_trans ?_ (grown_set _ _ _ _)
      exact grown_refl _ _
end Go.Proofs.YtnmfmoimjkoieaaGreatDoor.rf
