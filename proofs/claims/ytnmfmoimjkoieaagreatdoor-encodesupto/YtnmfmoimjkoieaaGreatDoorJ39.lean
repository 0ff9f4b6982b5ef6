import Derived.Test.YtnmfmoimjkoieaaGreatDoorJ37
import Derived.Test.YtnmfmoimjkoieaaGreatDoorJ34
/- courantref.body: SUBACK. -/
namespace Go.Proofs.YtnmfmoimjkoieaaGreatDoor.rf
open Go.RowKit Go.Proofs.YtnmfmoimjkoieaaGreatDoor.topPlain Go.Proofs.YtnmfmoimjkoieaaGreatDoor.topWalks Go.Proofs.YtnmfmoimjkoieaaGreatDoor.decPlain Go.Proofs.YtnmfmoimjkoieaaGreatDoor.rd

theorem Dc.other {w0 w w' : World} {B : Nat} {p : Pkt} (h : Dc w0 w B p) {row : Option Nat} (hg : w.grownBy w' row) (hrow : ∀ k, row = some k → B + 1 < k) : Dc w0 w' B p := by
  have hlt := h.lt
  have hbel : Below B w w' := ⟨hg.os, hg.tape, hg.output, hg.size, fun k hk => hg.block k (by omega) (fun e => by have := hrow k e.symm; omega)⟩
  obtain ⟨k, f⟩ := block_keep hg (show B < w.heap.size by omega) (fun e => by have := hrow B e.symm; omega)
  have hp := h.pk
  have hi : topWalks.Inv w' := by
    cases row with
    | none => exact inv_grown (br := B) h.inv h.low ⟨hg.os, hg.tape, hg.output, hg.size, fun i hi _ => hg.block i hi (by simp)⟩
    | some k => exact inv_grown (br := k) h.inv (by have := hrow k rfl; have := h.low; omega) hg
  exact ⟨⟨fun i => by rw [f]; exact hp.fz i, by rw [k]; exact hp.c0, by rw [k]; exact hp.c1, by rw [k]; exact hp.c2, by rw [k]; exact hp.c3, by rw [k]; exact hp.c4, by rw [k]; exact hp.c5, by rw [k]; exact hp.c6, by rw [k]; exact hp.c7, by rw [k]; exact hp.c8, by rw [k]; exact hp.c9, by rw [k]; exact hp.c10, by rw [k]; exact hp.c11, by rw [k]; exact hp.c12, by rw [k]; exact hp.c13, by rw [k]; exact hp.c14⟩,
    (hg.block _ hlt (fun e => by have := hrow _ e.symm; omega)).trans h.res, h.bel.trans hbel, hi, h.low⟩
theorem DbPost.cods {w w' : World} {q : Pkt} {cs : List Int} {cv : Value} {R : Option (Pkt × List (List UInt8 × Int) × List Int)} (hR : R = some (q, [], cs)) (hb : Below w.heap.size w w') (h1 : w'.ownsRow w.heap.size 3 1 cv cs.length (ints cs)) (h2 : q.fv = .slice none 0 0) : DbPost w R (.returned (.tuple #[.agg (pkCells { q with cv := cv }), .bool true])) w' := by
  subst hR
  obtain ⟨kind, clean, will, keep, client, present, code, dup, qos, retain, topic, payload, id, fv0, cv⟩ := q
  obtain rfl := h2
  exact ⟨hb, _, _, rfl, World.ownsRow_nil _ _ _ _, h1⟩
theorem codesS_pos (l : List UInt8) (h : 0 < l.length) : codesS (some l) = codL l [] := by
  unfold codesS
  rw [decide_eq_true (show 0 < lenS (some l) by simpa [lenS] using h)]
  rfl
theorem codeOk_and {x : UInt8} : codeOk x.toNat = !(decide (2 < x.toNat) && !decide (x.toNat = 128)) := by
  unfold codeOk
  by_cases h1 : x.toNat ≤ 2
  · rw [decide_eq_true h1, decide_eq_false (show ¬2 < x.toNat by omega)]; rfl
  · rw [decide_eq_false h1, decide_eq_true (show 2 < x.toNat by omega)]
    cases decide (x.toNat = 128) <;> rfl
theorem int_news (w : World) (n : Int) : ∀ (j : Nat) u, ([.int .i64 n] : List Value)[j]? = some u → (w.alloc (.cells #[.int .i64 n] 3)).cell? ((⟨w.heap.size, 0, none⟩ : Addr).add j) = some u := by
  intro j u hj
  match j, hj with
  | 0, hj => simp at hj; subst hj; simp [Addr.add]
def codV (l : List UInt8) : List Int := l.map fun x => (x.toNat : Int)

set_option maxHeartbeats 6400000 in
set_option maxRecDepth 100000 in
theorem db_codes (s : ByteArray) (p : Pkt) (w : World) (hs : s.size ≤ 300) (hk : p.kind = 9) (hI : topWalks.Inv w) (hN : 5 ≤ w.heap.size) (hfv : p.fv = .slice none 0 0) (hcv : p.cv = .slice none 0 0) :
    Calls Tryz.prog 69 #[.string s, .agg (pkCells p)] w (DbPost w (bodyS p s.data.toList)) := by
  have hB := body_codes p s.data.toList hk
  have hsz := Lib.size_eq s
  have cN : Hid (∀ w, Calls Tryz.prog 96 #[.string s, .int .i64 0] w fun e w' => e = .returned (.int .i64 (numAt s.data.toList 0)) ∧ ∃ n, w' = w.drewN n) := hide fun w => number_any s 0 w (by omega)
  have hnl : 1 ≤ numAt s.data.toList 0 → 2 ≤ s.size := fun h => by
    by_cases hh : s.data.toList.length < 0 + 2
    · rw [numAt_short _ _ hh] at h; omega
    · omega
  have HNL := hide hnl
  have H0 := hide fun p => Dc.begin w p hI hN
  have HB := hide hB
  obtain ⟨u, hu⟩ : ∃ u, s.extract 2 s.size = u := ⟨_, rfl⟩
  have hud : u = bs (s.data.toList.drop 2) := by
    rw [← hu, ext_bs, List.take_of_length_le (by rw [List.length_drop, ← hsz]; omega)]
  have hus : u.size = (s.data.toList.drop 2).length := by rw [hud, Lib.size_eq, data_bs]
  have HUD := hide hud
  have HUS := hide hus
  have hus2 : u.size = s.size - 2 := by rw [hus, List.length_drop, ← hsz]
  clear hB hsz hnl hud hus
  have hul : u.data.toList = s.data.toList.drop 2 := by rw [HUD.out, data_bs]
  rw [← hul] at HB
  obtain ⟨i0, hi, hz0, hz1, hz2⟩ := info_parts infoInt
  clear hI hul HUD
  obtain ⟨kind, clean, will, keep, client, present, code, dup, qos, retain, topic, payload, id, fv, cv⟩ := p
  obtain rfl := hfv
  obtain rfl := hcv
  obtain rfl := hk
  simp only [pkCells]
  go_enter Tryz.func69, Tryz.ntmps69
  go_wp2_with fail
  refine (unhide cN _).mono ?_
  rintro e w1 ⟨rfl, n1, hw1⟩
  have H1 : Hid (Dc w w1 w.heap.size ⟨9, clean, will, keep, client, present, code, dup, qos, retain, topic, payload, id, .slice none 0 0, .slice none 0 0⟩) := hide (by rw [hw1]; exact (H0.out ⟨9, clean, will, keep, client, present, code, dup, qos, retain, topic, payload, id, .slice none 0 0, .slice none 0 0⟩).drawn n1)
  clear hw1 H0 cN
  generalize numAt s.data.toList 0 = num at *
  have H2 := hide (H1.out.set (H1.out.pk.id num))
  have f12 := H1.out.pk.fz 12
  by_cases hn : num < 1
  · have HR := hide (HB.out.trans (if_pos hn))
    clear HB HNL HUS hu
    generalize bodyS _ s.data.toList = R at *
    have hD := H1.out
    have p0 := hD.pk.c0; have p1 := hD.pk.c1; have p2 := hD.pk.c2; have p3 := hD.pk.c3; have p4 := hD.pk.c4; have p5 := hD.pk.c5; have p6 := hD.pk.c6; have p7 := hD.pk.c7; have p8 := hD.pk.c8; have p9 := hD.pk.c9; have p10 := hD.pk.c10; have p11 := hD.pk.c11; have p12 := hD.pk.c12; have p13 := hD.pk.c13; have p14 := hD.pk.c14
    obtain ⟨y0, y1, y2, y3, y4, y5, y6, y7, y8, y9, y10, y11, y12, y13, y14⟩ := zero_thawed hD.res
    obtain ⟨z0, z1, z2, z3, z4, z5, z6, z7, z8, z9, z10, z11, z12, z13, z14⟩ := zero_cells hD.res
    have l4 := hD.lt
    have f4 := hD.pk.fz 4
    have f10 := hD.pk.fz 10
    have f11 := hD.pk.fz 11
    clear hD
    simp only at p0 p1 p2 p3 p4 p5 p6 p7 p8 p9 p10 p11 p12 p13 p14
    have HZ := hide (World.cell?_setCells_in (w.heap.size + 1) [.int .i64 9, .bool clean, .bool will, .int .i64 keep, .string (bs client), .bool present, .int .i64 code, .bool dup, .int .i64 qos, .bool retain, .string (bs topic), .string (bs payload), .int .i64 num, .slice none 0 0, .slice none 0 0] 0 (w1.setCell ⟨w.heap.size, 12, none⟩ (.int .i64 num)) (fun j hj => zero_some2 H2.out.res j hj))
    have hfin : ∀ wF, (w1.setCell ⟨w.heap.size, 12, none⟩ (.int .i64 num)).grownBy wF (some (w.heap.size + 1)) → Below w.heap.size w wF := fun wF hg => H2.out.bel.trans (below_grown hg (by omega) (by have := H2.out.lt; omega))
    have HF := hide hfin
    clear hfin
    go_wp2_with fail
    refine bodyPost_ret (results_db _ _ (w.heap.size + 1) _ _ _ _ _ _ _ _ _ _ _ _ _ _ _ rfl (HZ.out 0 (show 0 < 15 by decide)) (HZ.out 1 (show 1 < 15 by decide)) (HZ.out 2 (show 2 < 15 by decide)) (HZ.out 3 (show 3 < 15 by decide)) (HZ.out 4 (show 4 < 15 by decide)) (HZ.out 5 (show 5 < 15 by decide)) (HZ.out 6 (show 6 < 15 by decide)) (HZ.out 7 (show 7 < 15 by decide)) (HZ.out 8 (show 8 < 15 by decide)) (HZ.out 9 (show 9 < 15 by decide)) (HZ.out 10 (show 10 < 15 by decide)) (HZ.out 11 (show 11 < 15 by decide)) (HZ.out 12 (show 12 < 15 by decide)) (HZ.out 13 (show 13 < 15 by decide)) (HZ.out 14 (show 14 < 15 by decide))) rfl ?_
    refine DbPost.bad (q := ⟨9, clean, will, keep, client, present, code, dup, qos, retain, topic, payload, num, .slice none 0 0, .slice none 0 0⟩) HR.out (HF.out _ ?_) ⟨_, _, _, rfl⟩ ⟨_, _, _, rfl⟩
    repeat refine grown_trans ?_ (grown_set _ _ _ _)
    exact grown_refl _ _
  · have h2 : 2 ≤ s.size := HNL.out (by omega)
    have HB2 := hide (HB.out.trans (if_neg hn))
    have h2i : (2 : Int) ≤ (s.size : Int) := by omega
    clear HB HNL HUS
    generalize bodyS _ s.data.toList = R at *
    have k0 := H1.out.pk.c0
    have k12 := H1.out.pk.c12
    have l1 := H1.out.lt
    obtain ⟨C, hC⟩ : ∃ C, w1.heap.size = C := ⟨_, rfl⟩
    have hC1 : w.heap.size + 1 < C := by omega
    have hC2 : C ≤ (w1.setCell ⟨w.heap.size, 12, none⟩ (.int .i64 num)).heap.size := by simp [hC]
    have hus : u.size = u.data.toList.length := Lib.size_eq u
    have HUS := hide hus
    have hu300 : u.size ≤ 300 := by omega
    clear hus hC hus2
    go_wp2_with fail
    clear hu
    go_loopw [11] (fun i wr => ∃ (k : Nat) (v : Value), i = .int .i64 (k : Int) ∧ k ≤ u.size ∧ Dc w wr w.heap.size ⟨9, clean, will, keep, client, present, code, dup, qos, retain, topic, payload, num, .slice none 0 0, v⟩ ∧ wr.ownsRow C 3 1 v (codV (u.data.toList.take k)).length (ints (codV (u.data.toList.take k))) ∧ (∀ x ∈ u.data.toList.take k, codeOk x.toNat = true) ∧ C ≤ wr.heap.size) (fun i _ => u.size - (intOf i).toNat)
    case atStart => exact ⟨0, .slice none 0 0, rfl, Nat.zero_le _, H2.out, World.ownsRow_nil _ _ _ _, (fun x hx => by simp at hx), hC2⟩
    case round =>
      obtain ⟨k, v, rfl, hku, hD, hown, hall, hCr⟩ := hrel
      have HD := hide hD
      have HO := hide hown
      have HA := hide hall
      clear hD hown hall H1 H2 k0 k12 f12
      have hlenk : (codV (u.data.toList.take k)).length = k := by
        unfold codV
        rw [List.length_map, List.length_take, ← HUS.out]
        omega
      have HLK := hide hlenk
      obtain ⟨q3, m3, c3, rfl⟩ := own_slice HO.out
      clear hlenk
      by_cases hend : k = u.size
      · have hnlt : ¬ ((k : Int) < (u.size : Int)) := by omega
        have htk : u.data.toList.take k = u.data.toList := List.take_of_length_le (by rw [← HUS.out]; omega)
        by_cases h0 : u.size = 0
        · have hud : u.data.toList = [] := List.eq_nil_of_length_eq_zero (by rw [← HUS.out]; exact h0)
          have HR : Hid (R = none) := hide (HB2.out.trans (by rw [hud]; rfl))
          have hgt : ¬ (0 : Int) < (u.size : Int) := by omega
          clear HB2 HA HO htk hud
          have hD := HD.out
          have p0 := hD.pk.c0; have p1 := hD.pk.c1; have p2 := hD.pk.c2; have p3 := hD.pk.c3; have p4 := hD.pk.c4; have p5 := hD.pk.c5; have p6 := hD.pk.c6; have p7 := hD.pk.c7; have p8 := hD.pk.c8; have p9 := hD.pk.c9; have p10 := hD.pk.c10; have p11 := hD.pk.c11; have p12 := hD.pk.c12; have p13 := hD.pk.c13; have p14 := hD.pk.c14
          obtain ⟨y0, y1, y2, y3, y4, y5, y6, y7, y8, y9, y10, y11, y12, y13, y14⟩ := zero_thawed hD.res
          obtain ⟨z0, z1, z2, z3, z4, z5, z6, z7, z8, z9, z10, z11, z12, z13, z14⟩ := zero_cells hD.res
          have l4 := hD.lt
          have f4 := hD.pk.fz 4
          have f10 := hD.pk.fz 10
          have f11 := hD.pk.fz 11
          clear hD
          simp only at p0 p1 p2 p3 p4 p5 p6 p7 p8 p9 p10 p11 p12 p13 p14
          have HZ := hide (World.cell?_setCells_in (w.heap.size + 1) [.int .i64 9, .bool clean, .bool will, .int .i64 keep, .string (bs client), .bool present, .int .i64 code, .bool dup, .int .i64 qos, .bool retain, .string (bs topic), .string (bs payload), .int .i64 num, .slice none 0 0, .slice q3 m3 c3] 0 (wr) (fun j hj => zero_some2 HD.out.res j hj))
          have hfin : ∀ wF, (wr).grownBy wF (some (w.heap.size + 1)) → Below w.heap.size w wF := fun wF hg => HD.out.bel.trans (below_grown hg (by omega) (by have := HD.out.lt; omega))
          have HF := hide hfin
          clear hfin
          go_wp2_with fail
          refine bodyPost_ret (results_db _ _ (w.heap.size + 1) _ _ _ _ _ _ _ _ _ _ _ _ _ _ _ rfl (HZ.out 0 (show 0 < 15 by decide)) (HZ.out 1 (show 1 < 15 by decide)) (HZ.out 2 (show 2 < 15 by decide)) (HZ.out 3 (show 3 < 15 by decide)) (HZ.out 4 (show 4 < 15 by decide)) (HZ.out 5 (show 5 < 15 by decide)) (HZ.out 6 (show 6 < 15 by decide)) (HZ.out 7 (show 7 < 15 by decide)) (HZ.out 8 (show 8 < 15 by decide)) (HZ.out 9 (show 9 < 15 by decide)) (HZ.out 10 (show 10 < 15 by decide)) (HZ.out 11 (show 11 < 15 by decide)) (HZ.out 12 (show 12 < 15 by decide)) (HZ.out 13 (show 13 < 15 by decide)) (HZ.out 14 (show 14 < 15 by decide))) rfl ?_
          refine DbPost.bad (q := ⟨9, clean, will, keep, client, present, code, dup, qos, retain, topic, payload, num, .slice none 0 0, .slice q3 m3 c3⟩) HR.out (HF.out _ ?_) ⟨_, _, _, rfl⟩ ⟨_, _, _, rfl⟩
          repeat refine grown_trans ?_ (grown_set _ _ _ _)
          exact grown_refl _ _
        · have hR : R = some (⟨9, clean, will, keep, client, present, code, dup, qos, retain, topic, payload, num, .slice none 0 0, .slice none 0 0⟩, [], codV u.data.toList) := by
            refine HB2.out.trans ?_
            have := HA.out
            rw [htk] at this
            rw [codesS_pos _ (by rw [← HUS.out]; omega), codL_all _ _ this]
            rfl
          have HR := hide hR
          have ho : wr.ownsRow C 3 1 (.slice q3 m3 c3) (codV u.data.toList).length (ints (codV u.data.toList)) := by have := HO.out; rw [htk] at this; exact this
          have HO2 := hide ho
          have hgt : decide (0 < u.size) = true := decide_eq_true (by omega)
          have hfin2 : ∀ wF, wr.grownBy wF (some (w.heap.size + 1)) → wF.ownsRow w.heap.size 3 1 (.slice q3 m3 c3) (codV u.data.toList).length (ints (codV u.data.toList)) := fun wF hg => own_less (own_keep HO2.out hC1 hg) (by omega)
          have HF2 := hide hfin2
          clear HB2 HA HO htk hR ho HO2 hfin2
          have hD := HD.out
          have p0 := hD.pk.c0; have p1 := hD.pk.c1; have p2 := hD.pk.c2; have p3 := hD.pk.c3; have p4 := hD.pk.c4; have p5 := hD.pk.c5; have p6 := hD.pk.c6; have p7 := hD.pk.c7; have p8 := hD.pk.c8; have p9 := hD.pk.c9; have p10 := hD.pk.c10; have p11 := hD.pk.c11; have p12 := hD.pk.c12; have p13 := hD.pk.c13; have p14 := hD.pk.c14
          obtain ⟨y0, y1, y2, y3, y4, y5, y6, y7, y8, y9, y10, y11, y12, y13, y14⟩ := zero_thawed hD.res
          obtain ⟨z0, z1, z2, z3, z4, z5, z6, z7, z8, z9, z10, z11, z12, z13, z14⟩ := zero_cells hD.res
          have l4 := hD.lt
          have f4 := hD.pk.fz 4
          have f10 := hD.pk.fz 10
          have f11 := hD.pk.fz 11
          clear hD
          simp only at p0 p1 p2 p3 p4 p5 p6 p7 p8 p9 p10 p11 p12 p13 p14
          have HZ := hide (World.cell?_setCells_in (w.heap.size + 1) [.int .i64 9, .bool clean, .bool will, .int .i64 keep, .string (bs client), .bool present, .int .i64 code, .bool dup, .int .i64 qos, .bool retain, .string (bs topic), .string (bs payload), .int .i64 num, .slice none 0 0, .slice q3 m3 c3] 0 (wr) (fun j hj => zero_some2 HD.out.res j hj))
          have hfin : ∀ wF, (wr).grownBy wF (some (w.heap.size + 1)) → Below w.heap.size w wF := fun wF hg => HD.out.bel.trans (below_grown hg (by omega) (by have := HD.out.lt; omega))
          have HF := hide hfin
          clear hfin
          go_wp2_with fail
          refine bodyPost_ret (results_db _ _ (w.heap.size + 1) _ _ _ _ _ _ _ _ _ _ _ _ _ _ _ rfl (HZ.out 0 (show 0 < 15 by decide)) (HZ.out 1 (show 1 < 15 by decide)) (HZ.out 2 (show 2 < 15 by decide)) (HZ.out 3 (show 3 < 15 by decide)) (HZ.out 4 (show 4 < 15 by decide)) (HZ.out 5 (show 5 < 15 by decide)) (HZ.out 6 (show 6 < 15 by decide)) (HZ.out 7 (show 7 < 15 by decide)) (HZ.out 8 (show 8 < 15 by decide)) (HZ.out 9 (show 9 < 15 by decide)) (HZ.out 10 (show 10 < 15 by decide)) (HZ.out 11 (show 11 < 15 by decide)) (HZ.out 12 (show 12 < 15 by decide)) (HZ.out 13 (show 13 < 15 by decide)) (HZ.out 14 (show 14 < 15 by decide))) rfl ?_
          have hgw : ∀ wF, wr.grownBy wF (some (w.heap.size + 1)) → DbPost w R (.returned (.tuple #[.agg (pkCells ⟨9, clean, will, keep, client, present, code, dup, qos, retain, topic, payload, num, .slice none 0 0, .slice q3 m3 c3⟩), .bool true])) wF := fun wF hg => DbPost.cods (q := ⟨9, clean, will, keep, client, present, code, dup, qos, retain, topic, payload, num, .slice none 0 0, .slice none 0 0⟩) HR.out (HF.out wF hg) (HF2.out wF hg) rfl
          refine hgw _ ?_
          repeat refine grown_trans ?_ (grown_set _ _ _ _)
          exact grown_refl _ _
      · have hlt : k < u.size := by omega
        have hlti : (k : Int) < (u.size : Int) := by omega
        obtain ⟨x, hx⟩ : ∃ x : UInt8, u[k]'hlt = x := ⟨_, rfl⟩
        have hxg : u.data.toList[k]? = some x := by rw [← hx]; exact get_list u k hlt
        have hxm : x ∈ u.data.toList := List.mem_of_getElem? hxg
        have htk1 : u.data.toList.take (k + 1) = u.data.toList.take k ++ [x] := by
          rw [List.take_add_one, hxg]; rfl
        have HXM := hide hxm
        have HT1 := hide htk1
        have hxl := x.toNat_lt
        clear hxg hxm htk1 hend
        by_cases hbad : 2 < x.toNat ∧ ¬x.toNat = 128
        · have hc : codeOk x.toNat = false := by rw [codeOk_and, decide_eq_true hbad.1, decide_eq_false hbad.2]; rfl
          have HR : Hid (R = none) := hide (HB2.out.trans (by
            rw [codesS_pos _ (by rw [← HUS.out]; omega)]
            have := codL_bad u.data.toList [] x HXM.out hc
            generalize codL u.data.toList [] = Z at *
            obtain ⟨z1, z2⟩ := Z
            simp only at this
            subst this
            rfl))
          have g2 : (2 : Int) < (x.toNat : Int) := by omega
          have g128 : ((x.toNat : Int) != 128) = true := by rw [bne, show ((x.toNat : Int) == 128) = false from beq_eq_false_iff_ne.2 (by omega)]; rfl
          clear HB2 HA HO hc hbad HXM HT1
          have hD := HD.out
          have p0 := hD.pk.c0; have p1 := hD.pk.c1; have p2 := hD.pk.c2; have p3 := hD.pk.c3; have p4 := hD.pk.c4; have p5 := hD.pk.c5; have p6 := hD.pk.c6; have p7 := hD.pk.c7; have p8 := hD.pk.c8; have p9 := hD.pk.c9; have p10 := hD.pk.c10; have p11 := hD.pk.c11; have p12 := hD.pk.c12; have p13 := hD.pk.c13; have p14 := hD.pk.c14
          obtain ⟨y0, y1, y2, y3, y4, y5, y6, y7, y8, y9, y10, y11, y12, y13, y14⟩ := zero_thawed hD.res
          obtain ⟨z0, z1, z2, z3, z4, z5, z6, z7, z8, z9, z10, z11, z12, z13, z14⟩ := zero_cells hD.res
          have l4 := hD.lt
          have f4 := hD.pk.fz 4
          have f10 := hD.pk.fz 10
          have f11 := hD.pk.fz 11
          clear hD
          simp only at p0 p1 p2 p3 p4 p5 p6 p7 p8 p9 p10 p11 p12 p13 p14
          have HZ := hide (World.cell?_setCells_in (w.heap.size + 1) [.int .i64 9, .bool clean, .bool will, .int .i64 keep, .string (bs client), .bool present, .int .i64 code, .bool dup, .int .i64 qos, .bool retain, .string (bs topic), .string (bs payload), .int .i64 num, .slice none 0 0, .slice q3 m3 c3] 0 (wr) (fun j hj => zero_some2 HD.out.res j hj))
          have hfin : ∀ wF, (wr).grownBy wF (some (w.heap.size + 1)) → Below w.heap.size w wF := fun wF hg => HD.out.bel.trans (below_grown hg (by omega) (by have := HD.out.lt; omega))
          have HF := hide hfin
          clear hfin
          go_wp2_with fail
          refine bodyPost_ret (results_db _ _ (w.heap.size + 1) _ _ _ _ _ _ _ _ _ _ _ _ _ _ _ rfl (HZ.out 0 (show 0 < 15 by decide)) (HZ.out 1 (show 1 < 15 by decide)) (HZ.out 2 (show 2 < 15 by decide)) (HZ.out 3 (show 3 < 15 by decide)) (HZ.out 4 (show 4 < 15 by decide)) (HZ.out 5 (show 5 < 15 by decide)) (HZ.out 6 (show 6 < 15 by decide)) (HZ.out 7 (show 7 < 15 by decide)) (HZ.out 8 (show 8 < 15 by decide)) (HZ.out 9 (show 9 < 15 by decide)) (HZ.out 10 (show 10 < 15 by decide)) (HZ.out 11 (show 11 < 15 by decide)) (HZ.out 12 (show 12 < 15 by decide)) (HZ.out 13 (show 13 < 15 by decide)) (HZ.out 14 (show 14 < 15 by decide))) rfl ?_
          refine DbPost.bad (q := ⟨9, clean, will, keep, client, present, code, dup, qos, retain, topic, payload, num, .slice none 0 0, .slice q3 m3 c3⟩) HR.out (HF.out _ ?_) ⟨_, _, _, rfl⟩ ⟨_, _, _, rfl⟩
          repeat refine grown_trans ?_ (grown_set _ _ _ _)
          exact grown_refl _ _
        · have hc : codeOk x.toNat = true := by
            rw [codeOk_and]
            by_cases g : 2 < x.toNat
            · rw [decide_eq_true (show x.toNat = 128 by omega)]; simp
            · rw [decide_eq_false g]; rfl
          have HCK := hide hc
          have k14 := HD.out.pk.c14
          clear hc HXM
          have hcase : ¬ (2 : Int) < (x.toNat : Int) ∨ (2 : Int) < (x.toNat : Int) ∧ ((x.toNat : Int) != 128) = false := by
            by_cases g : (2 : Int) < (x.toNat : Int)
            · refine Or.inr ⟨g, ?_⟩
              rw [bne, show ((x.toNat : Int) == 128) = true from beq_iff_eq.2 (by omega)]; rfl
            · exact Or.inl g
          clear hbad
          have hlw := HD.out.lt
          have hown := HO.out
          rw [HLK.out] at hown
          have HO5 := hide hown
          clear hown
          rcases hcase with g2 | ⟨g2, g128⟩
          all_goals
            have hwx : IntKind.i64.wrap (x.toNat : Int) = (x.toNat : Int) := wraps_i64 _ (by omega) (by omega)
            have HNW := hide (int_news wr (x.toNat : Int))
            have hA : ∀ o, (wr.alloc o).cell? ⟨w.heap.size, 14, none⟩ = some (.slice q3 m3 c3) := fun o => by rw [alloc_keep (topWalks.cell_lt k14)]; exact k14
            go_wp2_with fail
            go_region_law (
              refine step_append_own rfl (.tmp 136) (.tmp 141) 34 rfl C 3 i0 (.int .i64 0) 1 8 Tryz.underlying34 hi hz0 hz1 hz2 rfl (by decide) (.slice q3 m3 c3) k (ints (codV (u.data.toList.take k))) ?s1 ?s2 ⟨wr.heap.size, 0, none⟩ 1 1 [.int .i64 (x.toNat : Int)] ?s3 rfl ?s4 ?s5 ?s6 ?s7 ?s8 ?_
              case s1 => simp [Act.eval]
              case s3 => simp [Act.eval]
              case s2 => exact HO5.out.alloc _
              case s4 => exact HNW.out
              case s5 => intro u hu; simp at hu; subst hu; rfl
              case s6 => unfold maxLen; omega
              case s7 => omega
              case s8 => exact Nat.le_trans hCr (by show wr.heap.size ≤ (wr.alloc _).heap.size; simp)
              intro v' w6 hown' hgrow
              obtain ⟨g', cap', rfl⟩ := own_form hown' (by omega)
              have hsz6 : C ≤ w6.heap.size := Nat.le_trans hCr (Nat.le_trans (by simp) hgrow.size)
              have hg6 : (wr.alloc (.cells #[.int .i64 (x.toNat : Int)] 3)).grownBy w6 (Value.slice q3 m3 c3).ownBlock := ⟨hgrow.os, hgrow.tape, hgrow.output, hgrow.size, hgrow.block⟩
              have HD6 := hide ((HD.out.other (World.grownBy_alloc wr _ none) (fun _ h => by cases h)).other hg6 (fun k hk => by have := (HO5.out.lt k hk).1; omega))
              have HOW := hide hown'
              have k14' := HD6.out.pk.c14
              have f14 := HD6.out.pk.fz 14
              clear hown' hgrow k14 hA hwx hg6)
            all_goals
              go_wp2
              have HD7 := hide (HD6.out.set (HD6.out.pk.setCv (.slice (some ⟨g', 0, none⟩) (k + 1) cap')))
              have HO7 : Hid ((w6.setCell ⟨w.heap.size, 14, none⟩ (.slice (some ⟨g', 0, none⟩) (k + 1) cap')).ownsRow C 3 1 (.slice (some ⟨g', 0, none⟩) (k + 1) cap') (codV (u.data.toList.take (k + 1))).length (ints (codV (u.data.toList.take (k + 1))))) := by
                refine own_keep ?_ (show w.heap.size < C by omega) (grown_set _ _ _ _)
                rw [HT1.out]
                have e1 : (codV (u.data.toList.take k ++ [x])).length = k + 1 := by
                  have := HLK.out
                  unfold codV at this ⊢
                  rw [List.map_append, List.length_append, this]; rfl
                have e2 : ints (codV (u.data.toList.take k ++ [x])) = ints (codV (u.data.toList.take k)) ++ [.int .i64 (x.toNat : Int)] := by simp [ints, codV]
                rw [e1, e2]
                exact HOW.out
              go_roundw
              case rel => exact ⟨k + 1, _, by go_num, by omega, HD7.out, HO7.out, (fun y hy => by
                rw [HT1.out] at hy
                rcases List.mem_append.1 hy with h | h
                · exact HA.out y h
                · rw [List.mem_singleton.1 h]; exact HCK.out), by simpa using hsz6⟩
              case measure => simp [intOf]; omega
end Go.Proofs.YtnmfmoimjkoieaaGreatDoor.rf
