import Derived.Test.YtnmfmoimjkoieaaGreatDoorJ37
import Derived.Test.YtnmfmoimjkoieaaGreatDoorJ34
/- courantref.body: SUBSCRIBE, UNSUBSCRIBE. -/
namespace Go.Proofs.YtnmfmoimjkoieaaGreatDoor.rf
open Go.RowKit Go.Proofs.YtnmfmoimjkoieaaGreatDoor.topPlain Go.Proofs.YtnmfmoimjkoieaaGreatDoor.topWalks Go.Proofs.YtnmfmoimjkoieaaGreatDoor.decPlain Go.Proofs.YtnmfmoimjkoieaaGreatDoor.rd

theorem DbPost.fils {w w' : World} {q : Pkt} {fs : List (List UInt8 × Int)} {fv : Value} {R : Option (Pkt × List (List UInt8 × Int) × List Int)} (hR : R = some (q, fs, [])) (hb : Below w.heap.size w w') (h1 : w'.ownsRow w.heap.size 95 2 fv fs.length (filC fs)) (h2 : q.cv = .slice none 0 0) : DbPost w R (.returned (.tuple #[.agg (pkCells { q with fv := fv }), .bool true])) w' := by
  subst hR
  obtain ⟨kind, clean, will, keep, client, present, code, dup, qos, retain, topic, payload, id, fv0, cv⟩ := q
  obtain rfl := h2
  exact ⟨hb, _, _, rfl, h1, World.ownsRow_nil _ _ _ _⟩

set_option maxHeartbeats 6400000 in
set_option maxRecDepth 100000 in
theorem db_filters (s : ByteArray) (p : Pkt) (w : World) (hs : s.size ≤ 300) (hk : p.kind = 8 ∨ p.kind = 10) (hI : topWalks.Inv w) (hN : 5 ≤ w.heap.size) (hfv : p.fv = .slice none 0 0) (hcv : p.cv = .slice none 0 0) :
    Calls Tryz.prog 69 #[.string s, .agg (pkCells p)] w (DbPost w (bodyS p s.data.toList)) := by
  have hB := body_filters p s.data.toList hk
  have hsz := Lib.size_eq s
  have cN : Hid (∀ w, Calls Tryz.prog 96 #[.string s, .int .i64 0] w fun e w' => e = .returned (.int .i64 (numAt s.data.toList 0)) ∧ ∃ n, w' = w.drewN n) := hide fun w => number_any s 0 w (by omega)
  have hnl : 1 ≤ numAt s.data.toList 0 → 2 ≤ s.size := fun h => by
    by_cases hh : s.data.toList.length < 0 + 2
    · rw [numAt_short _ _ hh] at h; omega
    · omega
  have HNL := hide hnl
  have H0 := hide fun p => Dc.begin w p hI hN
  have HB := hide hB
  obtain ⟨u, hu⟩ : ∃ u, s.extract 2 s.size = u := ⟨_, rfl⟩
  have hud : u = bs (s.data.toList.drop 2) := by
    rw [← hu, ext_bs, List.take_of_length_le (by rw [List.length_drop, ← hsz]; omega)]
  have hus : u.size = (s.data.toList.drop 2).length := by rw [hud, Lib.size_eq, data_bs]
  have HUD := hide hud
  have HUS := hide hus
  have hus2 : u.size = s.size - 2 := by rw [hus, List.length_drop, ← hsz]
  clear hB hsz hnl hud hus
  have cF := hide fun (k8 : Bool) w' (hI : topWalks.Inv w') (hN : 5 ≤ w'.heap.size) => dfilters_any u k8 w' (by omega) hI hN
  rw [show u.data.toList = s.data.toList.drop 2 by rw [HUD.out, data_bs]] at cF
  clear hI
  obtain ⟨kind, clean, will, keep, client, present, code, dup, qos, retain, topic, payload, id, fv, cv⟩ := p
  obtain rfl := hfv
  obtain rfl := hcv
  simp only at hk
  have hk1 : (kind == 1) = false := beq_eq_false_iff_ne.2 (by omega)
  have hk2 : (kind == 2) = false := beq_eq_false_iff_ne.2 (by omega)
  have hk3 : (kind == 3) = false := beq_eq_false_iff_ne.2 (by omega)
  have hk12 : (kind == 12) = false := beq_eq_false_iff_ne.2 (by omega)
  have hk13 : (kind == 13) = false := beq_eq_false_iff_ne.2 (by omega)
  have hk14 : (kind == 14) = false := beq_eq_false_iff_ne.2 (by omega)
  obtain ⟨k8, hk8⟩ : ∃ k8, (kind == 8) = k8 := ⟨_, rfl⟩
  have hk10 : k8 = false → (kind == 10) = true := fun h => by
    subst h
    have := beq_eq_false_iff_ne.1 hk8
    exact beq_iff_eq.2 (hk.resolve_left this)
  simp only [hk8] at HB
  clear hk
  simp only [pkCells]
  go_enter Tryz.func69, Tryz.ntmps69
  go_wp2_with fail
  refine (unhide cN _).mono ?_
  rintro e w1 ⟨rfl, n1, hw1⟩
  have H1 : Hid (Dc w w1 w.heap.size ⟨kind, clean, will, keep, client, present, code, dup, qos, retain, topic, payload, id, .slice none 0 0, .slice none 0 0⟩) := hide (by rw [hw1]; exact (H0.out ⟨kind, clean, will, keep, client, present, code, dup, qos, retain, topic, payload, id, .slice none 0 0, .slice none 0 0⟩).drawn n1)
  clear hw1 H0 cN
  generalize numAt s.data.toList 0 = num at *
  have H2 := hide (H1.out.set (H1.out.pk.id num))
  have f12 := H1.out.pk.fz 12
  by_cases hn : num < 1
  · have HR := hide (HB.out.trans (if_pos hn))
    clear HB HNL HUD HUS hu cF
    generalize bodyS _ s.data.toList = R at *
    have hD := H1.out
    have p0 := hD.pk.c0; have p1 := hD.pk.c1; have p2 := hD.pk.c2; have p3 := hD.pk.c3; have p4 := hD.pk.c4; have p5 := hD.pk.c5; have p6 := hD.pk.c6; have p7 := hD.pk.c7; have p8 := hD.pk.c8; have p9 := hD.pk.c9; have p10 := hD.pk.c10; have p11 := hD.pk.c11; have p12 := hD.pk.c12; have p13 := hD.pk.c13; have p14 := hD.pk.c14
    obtain ⟨y0, y1, y2, y3, y4, y5, y6, y7, y8, y9, y10, y11, y12, y13, y14⟩ := zero_thawed hD.res
    obtain ⟨z0, z1, z2, z3, z4, z5, z6, z7, z8, z9, z10, z11, z12, z13, z14⟩ := zero_cells hD.res
    have l4 := hD.lt
    have f4 := hD.pk.fz 4
    have f10 := hD.pk.fz 10
    have f11 := hD.pk.fz 11
    clear hD
    simp only at p0 p1 p2 p3 p4 p5 p6 p7 p8 p9 p10 p11 p12 p13 p14
    have HZ := hide (World.cell?_setCells_in (w.heap.size + 1) [.int .i64 kind, .bool clean, .bool will, .int .i64 keep, .string (bs client), .bool present, .int .i64 code, .bool dup, .int .i64 qos, .bool retain, .string (bs topic), .string (bs payload), .int .i64 num, .slice none 0 0, .slice none 0 0] 0 (w1.setCell ⟨w.heap.size, 12, none⟩ (.int .i64 num)) (fun j hj => zero_some2 H2.out.res j hj))
    have hfin : ∀ wF, (w1.setCell ⟨w.heap.size, 12, none⟩ (.int .i64 num)).grownBy wF (some (w.heap.size + 1)) → Below w.heap.size w wF := fun wF hg => H2.out.bel.trans (below_grown hg (by omega) (by have := H2.out.lt; omega))
    have HF := hide hfin
    clear hfin
    go_wp2_with fail
    refine bodyPost_ret (results_db _ _ (w.heap.size + 1) _ _ _ _ _ _ _ _ _ _ _ _ _ _ _ rfl (HZ.out 0 (show 0 < 15 by decide)) (HZ.out 1 (show 1 < 15 by decide)) (HZ.out 2 (show 2 < 15 by decide)) (HZ.out 3 (show 3 < 15 by decide)) (HZ.out 4 (show 4 < 15 by decide)) (HZ.out 5 (show 5 < 15 by decide)) (HZ.out 6 (show 6 < 15 by decide)) (HZ.out 7 (show 7 < 15 by decide)) (HZ.out 8 (show 8 < 15 by decide)) (HZ.out 9 (show 9 < 15 by decide)) (HZ.out 10 (show 10 < 15 by decide)) (HZ.out 11 (show 11 < 15 by decide)) (HZ.out 12 (show 12 < 15 by decide)) (HZ.out 13 (show 13 < 15 by decide)) (HZ.out 14 (show 14 < 15 by decide))) rfl ?_
    refine DbPost.bad (q := ⟨kind, clean, will, keep, client, present, code, dup, qos, retain, topic, payload, num, .slice none 0 0, .slice none 0 0⟩) HR.out (HF.out _ ?_) ⟨_, _, _, rfl⟩ ⟨_, _, _, rfl⟩
    repeat refine grown_trans ?_ (grown_set _ _ _ _)
    exact grown_refl _ _
  · have h2 : 2 ≤ s.size := HNL.out (by omega)
    have HB2 := hide (HB.out.trans (if_neg hn))
    have h2i : (2 : Int) ≤ (s.size : Int) := by omega
    clear HB HNL HUD HUS
    have k0 := H1.out.pk.c0
    have k12 := H1.out.pk.c12
    have l1 := H1.out.lt
    cases k8
    all_goals
      try have hk10' := hk10 rfl
      clear hk10
      go_wp2_with fail
      refine (unhide cF _ _ H2.out.inv (Nat.le_trans hN (Nat.le_of_lt (Nat.lt_of_lt_of_le (by omega) (Nat.le_of_lt H2.out.lt))))).mono ?_
      rintro e w3 ⟨hb3, v3, ok3, rfl, hp3⟩
      have H3 := hide (H2.out.belStep hb3)
      unfold FilPost at hp3
      have HP3 := hide hp3
      clear hp3 hb3 cF k0 k12 f12 l1
      generalize filtersS _ (some (s.data.toList.drop 2)) = F at *
      obtain ⟨fs0, st0⟩ := F
      simp only at HP3 HB2
      have hC : w.heap.size + 1 < (w1.setCell ⟨w.heap.size, 12, none⟩ (.int .i64 num)).heap.size := H2.out.lt
      have HC := hide hC
      clear hC
      cases hst : whole fs0 st0 with
      | none =>
        rw [hst] at HP3
        obtain ⟨rfl, q3, m3, c3, rfl⟩ := HP3.out
        have HR : Hid (bodyS ⟨kind, clean, will, keep, client, present, code, dup, qos, retain, topic, payload, id, .slice none 0 0, .slice none 0 0⟩ s.data.toList = none) := hide (HB2.out.trans ((whole_map (fun f : List (List UInt8 × Int) => ((⟨kind, clean, will, keep, client, present, code, dup, qos, retain, topic, payload, num, .slice none 0 0, .slice none 0 0⟩ : Pkt), f, ([] : List Int))) fs0 st0).trans (by rw [hst]; rfl)))
        clear HB2 HP3 hst hu h2i
        generalize bodyS _ s.data.toList = R at *
        have f13 := H3.out.pk.fz 13
        have H4 := hide (H3.out.set (H3.out.pk.setFv (.slice q3 m3 c3)))
        have hD := H3.out
        have p0 := hD.pk.c0; have p1 := hD.pk.c1; have p2 := hD.pk.c2; have p3 := hD.pk.c3; have p4 := hD.pk.c4; have p5 := hD.pk.c5; have p6 := hD.pk.c6; have p7 := hD.pk.c7; have p8 := hD.pk.c8; have p9 := hD.pk.c9; have p10 := hD.pk.c10; have p11 := hD.pk.c11; have p12 := hD.pk.c12; have p13 := hD.pk.c13; have p14 := hD.pk.c14
        obtain ⟨y0, y1, y2, y3, y4, y5, y6, y7, y8, y9, y10, y11, y12, y13, y14⟩ := zero_thawed hD.res
        obtain ⟨z0, z1, z2, z3, z4, z5, z6, z7, z8, z9, z10, z11, z12, z13, z14⟩ := zero_cells hD.res
        have l4 := hD.lt
        have f4 := hD.pk.fz 4
        have f10 := hD.pk.fz 10
        have f11 := hD.pk.fz 11
        clear hD
        simp only at p0 p1 p2 p3 p4 p5 p6 p7 p8 p9 p10 p11 p12 p13 p14
        have HZ := hide (World.cell?_setCells_in (w.heap.size + 1) [.int .i64 kind, .bool clean, .bool will, .int .i64 keep, .string (bs client), .bool present, .int .i64 code, .bool dup, .int .i64 qos, .bool retain, .string (bs topic), .string (bs payload), .int .i64 num, .slice q3 m3 c3, .slice none 0 0] 0 (w3.setCell ⟨w.heap.size, 13, none⟩ (.slice q3 m3 c3)) (fun j hj => zero_some2 H4.out.res j hj))
        have hfin : ∀ wF, (w3.setCell ⟨w.heap.size, 13, none⟩ (.slice q3 m3 c3)).grownBy wF (some (w.heap.size + 1)) → Below w.heap.size w wF := fun wF hg => H4.out.bel.trans (below_grown hg (by omega) (by have := H4.out.lt; omega))
        have HF := hide hfin
        clear hfin
        go_wp2_with fail
        refine bodyPost_ret (results_db _ _ (w.heap.size + 1) _ _ _ _ _ _ _ _ _ _ _ _ _ _ _ rfl (HZ.out 0 (show 0 < 15 by decide)) (HZ.out 1 (show 1 < 15 by decide)) (HZ.out 2 (show 2 < 15 by decide)) (HZ.out 3 (show 3 < 15 by decide)) (HZ.out 4 (show 4 < 15 by decide)) (HZ.out 5 (show 5 < 15 by decide)) (HZ.out 6 (show 6 < 15 by decide)) (HZ.out 7 (show 7 < 15 by decide)) (HZ.out 8 (show 8 < 15 by decide)) (HZ.out 9 (show 9 < 15 by decide)) (HZ.out 10 (show 10 < 15 by decide)) (HZ.out 11 (show 11 < 15 by decide)) (HZ.out 12 (show 12 < 15 by decide)) (HZ.out 13 (show 13 < 15 by decide)) (HZ.out 14 (show 14 < 15 by decide))) rfl ?_
        refine DbPost.bad (q := ⟨kind, clean, will, keep, client, present, code, dup, qos, retain, topic, payload, num, .slice q3 m3 c3, .slice none 0 0⟩) HR.out (HF.out _ ?_) ⟨_, _, _, rfl⟩ ⟨_, _, _, rfl⟩
        repeat refine grown_trans ?_ (grown_set _ _ _ _)
        exact grown_refl _ _
      | some fs1 =>
        rw [hst] at HP3
        obtain ⟨rfl, ho3⟩ := HP3.out
        have HO3 := hide ho3
        obtain ⟨q3, m3, c3, rfl⟩ := own_slice ho3
        have HR : Hid (bodyS ⟨kind, clean, will, keep, client, present, code, dup, qos, retain, topic, payload, id, .slice none 0 0, .slice none 0 0⟩ s.data.toList = some (⟨kind, clean, will, keep, client, present, code, dup, qos, retain, topic, payload, num, .slice none 0 0, .slice none 0 0⟩, fs1, [])) := hide (HB2.out.trans ((whole_map (fun f : List (List UInt8 × Int) => ((⟨kind, clean, will, keep, client, present, code, dup, qos, retain, topic, payload, num, .slice none 0 0, .slice none 0 0⟩ : Pkt), f, ([] : List Int))) fs0 st0).trans (by rw [hst]; rfl)))
        clear HB2 HP3 hst hu h2i ho3
        generalize bodyS _ s.data.toList = R at *
        have f13 := H3.out.pk.fz 13
        have H4 := hide (H3.out.set (H3.out.pk.setFv (.slice q3 m3 c3)))
        have HO4 := hide (own_keep HO3.out (show w.heap.size < _ from Nat.lt_trans (Nat.lt_succ_self _) HC.out) (grown_set w3 w.heap.size 13 (.slice q3 m3 c3)))
        have hD := H3.out
        have p0 := hD.pk.c0; have p1 := hD.pk.c1; have p2 := hD.pk.c2; have p3 := hD.pk.c3; have p4 := hD.pk.c4; have p5 := hD.pk.c5; have p6 := hD.pk.c6; have p7 := hD.pk.c7; have p8 := hD.pk.c8; have p9 := hD.pk.c9; have p10 := hD.pk.c10; have p11 := hD.pk.c11; have p12 := hD.pk.c12; have p13 := hD.pk.c13; have p14 := hD.pk.c14
        obtain ⟨y0, y1, y2, y3, y4, y5, y6, y7, y8, y9, y10, y11, y12, y13, y14⟩ := zero_thawed hD.res
        obtain ⟨z0, z1, z2, z3, z4, z5, z6, z7, z8, z9, z10, z11, z12, z13, z14⟩ := zero_cells hD.res
        have l4 := hD.lt
        have f4 := hD.pk.fz 4
        have f10 := hD.pk.fz 10
        have f11 := hD.pk.fz 11
        clear hD
        simp only at p0 p1 p2 p3 p4 p5 p6 p7 p8 p9 p10 p11 p12 p13 p14
        have hfin2 : ∀ wF, (w3.setCell ⟨w.heap.size, 13, none⟩ (.slice q3 m3 c3)).grownBy wF (some (w.heap.size + 1)) → wF.ownsRow w.heap.size 95 2 (.slice q3 m3 c3) fs1.length (filC fs1) := fun wF hg => own_less (own_keep HO4.out HC.out hg) (Nat.le_of_lt (Nat.lt_trans (Nat.lt_succ_self _) HC.out))
        have HF2 := hide hfin2
        clear hfin2
        have HZ := hide (World.cell?_setCells_in (w.heap.size + 1) [.int .i64 kind, .bool clean, .bool will, .int .i64 keep, .string (bs client), .bool present, .int .i64 code, .bool dup, .int .i64 qos, .bool retain, .string (bs topic), .string (bs payload), .int .i64 num, .slice q3 m3 c3, .slice none 0 0] 0 (w3.setCell ⟨w.heap.size, 13, none⟩ (.slice q3 m3 c3)) (fun j hj => zero_some2 H4.out.res j hj))
        have hfin : ∀ wF, (w3.setCell ⟨w.heap.size, 13, none⟩ (.slice q3 m3 c3)).grownBy wF (some (w.heap.size + 1)) → Below w.heap.size w wF := fun wF hg => H4.out.bel.trans (below_grown hg (by omega) (by have := H4.out.lt; omega))
        have HF := hide hfin
        clear hfin
        go_wp2_with fail
        refine bodyPost_ret (results_db _ _ (w.heap.size + 1) _ _ _ _ _ _ _ _ _ _ _ _ _ _ _ rfl (HZ.out 0 (show 0 < 15 by decide)) (HZ.out 1 (show 1 < 15 by decide)) (HZ.out 2 (show 2 < 15 by decide)) (HZ.out 3 (show 3 < 15 by decide)) (HZ.out 4 (show 4 < 15 by decide)) (HZ.out 5 (show 5 < 15 by decide)) (HZ.out 6 (show 6 < 15 by decide)) (HZ.out 7 (show 7 < 15 by decide)) (HZ.out 8 (show 8 < 15 by decide)) (HZ.out 9 (show 9 < 15 by decide)) (HZ.out 10 (show 10 < 15 by decide)) (HZ.out 11 (show 11 < 15 by decide)) (HZ.out 12 (show 12 < 15 by decide)) (HZ.out 13 (show 13 < 15 by decide)) (HZ.out 14 (show 14 < 15 by decide))) rfl ?_
        have hgw : ∀ wF, (w3.setCell ⟨w.heap.size, 13, none⟩ (.slice q3 m3 c3)).grownBy wF (some (w.heap.size + 1)) → DbPost w R (.returned (.tuple #[.agg (pkCells ⟨kind, clean, will, keep, client, present, code, dup, qos, retain, topic, payload, num, .slice q3 m3 c3, .slice none 0 0⟩), .bool true])) wF := fun wF hg => DbPost.fils (q := ⟨kind, clean, will, keep, client, present, code, dup, qos, retain, topic, payload, num, .slice none 0 0, .slice none 0 0⟩) HR.out (HF.out wF hg) (HF2.out wF hg) rfl
        refine hgw _ ?_
        repeat refine grown_trans ?_ (grown_set _ _ _ _)
        exact grown_refl _ _
end Go.Proofs.YtnmfmoimjkoieaaGreatDoor.rf
