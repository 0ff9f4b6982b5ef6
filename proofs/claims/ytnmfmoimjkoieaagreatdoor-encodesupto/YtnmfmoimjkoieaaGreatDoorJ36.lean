import Derived.Test.YtnmfmoimjkoieaaGreatDoorJ35
import Derived.Test.YtnmfmoimjkoieaaGreatDoorJ34
/- courantref.connect: CONNECT. courantref.body: CONNECT, CONNACK, and those with nothing in them. courantref.body: CONNACK, CONNECT. -/
namespace Go.Proofs.YtnmfmoimjkoieaaGreatDoor.rf
open Go.RowKit Go.Proofs.YtnmfmoimjkoieaaGreatDoor.topPlain Go.Proofs.YtnmfmoimjkoieaaGreatDoor.topWalks Go.Proofs.YtnmfmoimjkoieaaGreatDoor.decPlain Go.Proofs.YtnmfmoimjkoieaaGreatDoor.rd

theorem extract7 (s : ByteArray) : (s.extract 0 7).toList = s.data.toList.take 7 := by
  have h := congrArg (fun b : ByteArray => b.data.toList) (ext_bs s 0 7)
  rw [ByteArray.toList_eq]
  exact h
theorem txtAt_at (l : List UInt8) (k : Nat) : (txtAt l k).2 ≤ (l.length : Int) := by
  unfold txtAt
  split
  · simp only; omega
  · simp only; omega
/-- courantref.connect, all of it -/
theorem dconnect_any (s : ByteArray) (p : Pkt) (w : World) (hs : s.size ≤ 300) (hI : topWalks.Inv w) (hN : 5 ≤ w.heap.size) (hfv : p.fv = .slice none 0 0) (hcv : p.cv = .slice none 0 0) :
    Calls Tryz.prog 93 #[.string s, .agg (pkCells p)] w fun e w' => ∃ q ok, DcPost w q ok e w' ∧ q.fv = .slice none 0 0 ∧ q.cv = .slice none 0 0 ∧ match docConnect s.data.toList p with | some r => ok = true ∧ q = r | none => ok = false := by
  have hsz := Lib.size_eq s
  unfold docConnect
  by_cases hpre : s.data.toList.length < 12 ∨ s.data.toList.take 7 ≠ [0, 4, 77, 81, 84, 84, 4]
  · rw [if_pos hpre]
    refine (dc_short s p w ?_ hfv hcv).mono fun e w' h => ⟨p, false, h, hfv, hcv, rfl⟩
    by_cases h12 : s.size < 12
    · exact Or.inl h12
    · refine Or.inr ⟨by omega, ?_⟩
      rcases hpre with h | h
      · omega
      · rw [extract7]
        exact beq_eq_false_iff_ne.2 h
  · rw [if_neg hpre]
    obtain ⟨h12, hp⟩ := not_or.1 hpre
    have hp := Classical.not_not.1 hp
    have h12' : 12 ≤ s.size := by omega
    have hpre' : ((s.extract 0 7).toList == [0, 4, 77, 81, 84, 84, 4]) = true := by rw [extract7]; exact beq_iff_eq.2 hp
    have hx7 : s[7]'(Nat.lt_of_lt_of_le (by decide) h12') = s.data.toList.getD 7 0 := by rw [List.getD_eq_getElem?_getD, get_list s 7 (by omega)]; rfl
    generalize s.data.toList.getD 7 0 = x at *
    have hcl := txtAt_le s.data.toList 10
    unfold docRest
    by_cases hbad : bitOk x.toNat = false ∨ (txtAt s.data.toList 10).2 < 0 ∨ nameB 0 10 (txtAt s.data.toList 10).1 = false
    · rw [if_pos hbad]
      exact (dc_bad s p w x (txtAt s.data.toList 10).1 (txtAt s.data.toList 10).2 h12' hs hpre' hx7 rfl (by omega) hI hN hfv hcv hbad).mono fun e w' h => ⟨_, false, h, hfv, hcv, rfl⟩
    · rw [if_neg hbad]
      obtain ⟨hb1, hb2⟩ := not_or.1 hbad
      obtain ⟨hb2, hb3⟩ := not_or.1 hb2
      have hb3 : nameB 0 10 (txtAt s.data.toList 10).1 = true := by
        cases hx : nameB 0 10 (txtAt s.data.toList 10).1
        · exact absurd hx hb3
        · rfl
      have hok : bitOk x.toNat = true := by
        cases hx : bitOk x.toNat
        · exact absurd hx hb1
        · rfl
      unfold bitOk at hok
      simp only [Bool.and_eq_true, Bool.or_eq_true, decide_eq_true_eq, Bool.not_eq_true', decide_eq_false_iff_not] at hok
      obtain ⟨⟨⟨o1, o2⟩, o3⟩, o4⟩ := hok
      have hae : (txtAt s.data.toList 10).2 = (((txtAt s.data.toList 10).2.toNat : Nat) : Int) := by omega
      have hal := txtAt_at s.data.toList 10
      by_cases hw : x.toNat / 4 % 2 = 1
      · rw [if_pos hw]
        unfold docWill
        have htl := txtAt_le s.data.toList (txtAt s.data.toList 10).2.toNat
        have hkl := txtAt_at s.data.toList (txtAt s.data.toList 10).2.toNat
        generalize hT : txtAt s.data.toList (txtAt s.data.toList 10).2.toNat = T at *
        obtain ⟨t, k⟩ := T
        simp only at htl hkl ⊢
        generalize hY : txtAt s.data.toList k.toNat = Y at *
        obtain ⟨y, k3⟩ := Y
        simp only
        have hcall := fun q ok h1 h2 h3 => dc_will s p w x (txtAt s.data.toList 10).1 (txtAt s.data.toList 10).2.toNat h12' hs hpre' hx7 (Prod.ext rfl hae) (by omega) hI hN hfv hcv (by omega) t k hT (by omega) (by omega) y k3 (fun n hn => by rw [← hY, hn]; rfl) (by omega) (by omega) hw (by omega) hb3 q ok h1 h2 h3
        by_cases hk : k < 0 ∨ topicB t = false
        · rw [if_pos hk]
          exact (hcall _ false (fun _ => ⟨rfl, rfl⟩) (fun h0 h1 _ => by rcases hk with h | h; omega; rw [h1] at h; cases h) (fun h0 h1 _ => by rcases hk with h | h; omega; rw [h1] at h; cases h)).mono fun e w' h => ⟨_, false, h, hfv, hcv, rfl⟩
        · rw [if_neg hk]
          obtain ⟨hk1, hk2⟩ := not_or.1 hk
          have hk2 : topicB t = true := by
            cases hx : topicB t
            · exact absurd hx hk2
            · rfl
          by_cases h3 : k3 < 0
          · rw [if_pos h3]
            exact (hcall _ false (fun h => absurd h hk) (fun _ _ _ => ⟨rfl, rfl⟩) (fun _ _ h => by omega)).mono fun e w' h => ⟨_, false, h, hfv, hcv, rfl⟩
          · rw [if_neg h3]
            refine (hcall _ (k3 == (s.size : Int)) (fun h => absurd h hk) (fun _ _ h => by omega) (fun _ _ _ => ⟨rfl, rfl⟩)).mono fun e w' h => ⟨_, _, h, hfv, hcv, ?_⟩
            rw [← hsz]
            by_cases he : k3 = (s.size : Int)
            · rw [if_pos he]; exact ⟨beq_iff_eq.2 he, rfl⟩
            · rw [if_neg he]; exact beq_eq_false_iff_ne.2 he
      · rw [if_neg hw]
        obtain ⟨o5, o6⟩ := o4.resolve_left hw
        refine (dc_plain s p w x (txtAt s.data.toList 10).1 (txtAt s.data.toList 10).2.toNat h12' hs hpre' hx7 (Prod.ext rfl hae) (by omega) hI hN hfv hcv (by omega) (by omega) hw o5 o6 hb3).mono fun e w' h => ⟨_, _, h, hfv, hcv, ?_⟩
        rw [← hae, ← hsz]
        by_cases he : (txtAt s.data.toList 10).2 = (s.size : Int)
        · rw [if_pos he]; exact ⟨beq_iff_eq.2 he, rfl⟩
        · rw [if_neg he]; exact beq_eq_false_iff_ne.2 he
end Go.Proofs.YtnmfmoimjkoieaaGreatDoor.rf

namespace Go.Proofs.YtnmfmoimjkoieaaGreatDoor.rf
open Go.RowKit Go.Proofs.YtnmfmoimjkoieaaGreatDoor.topPlain Go.Proofs.YtnmfmoimjkoieaaGreatDoor.topWalks Go.Proofs.YtnmfmoimjkoieaaGreatDoor.decPlain Go.Proofs.YtnmfmoimjkoieaaGreatDoor.rd

/-- what the document's reading of a body leaves -/
def DbPost (w : World) (R : Option (Pkt × List (List UInt8 × Int) × List Int)) (e : Ending) (w' : World) : Prop :=
  Below w.heap.size w w' ∧ match R with
    | some r => ∃ fv cv, e = .returned (.tuple #[.agg (pkCells { r.1 with fv := fv, cv := cv }), .bool true]) ∧ w'.ownsRow w.heap.size 95 2 fv r.2.1.length (filC r.2.1) ∧ w'.ownsRow w.heap.size 3 1 cv r.2.2.length (ints r.2.2)
    | none => ∃ q : Pkt, e = .returned (.tuple #[.agg (pkCells q), .bool false]) ∧ (∃ a n c, q.fv = .slice a n c) ∧ ∃ a n c, q.cv = .slice a n c
theorem DbPost.bad {w w' : World} {q : Pkt} {R : Option (Pkt × List (List UInt8 × Int) × List Int)} (hR : R = none) (hb : Below w.heap.size w w') (h1 : ∃ a n c, q.fv = .slice a n c) (h2 : ∃ a n c, q.cv = .slice a n c) : DbPost w R (.returned (.tuple #[.agg (pkCells q), .bool false])) w' := by
  subst hR; exact ⟨hb, q, rfl, h1, h2⟩
theorem DbPost.good {w w' : World} {q : Pkt} {R : Option (Pkt × List (List UInt8 × Int) × List Int)} (hR : R = some (q, [], [])) (hb : Below w.heap.size w w') (h1 : q.fv = .slice none 0 0) (h2 : q.cv = .slice none 0 0) : DbPost w R (.returned (.tuple #[.agg (pkCells q), .bool true])) w' := by
  subst hR
  obtain ⟨kind, clean, will, keep, client, present, code, dup, qos, retain, topic, payload, id, fv, cv⟩ := q
  obtain rfl := h1
  obtain rfl := h2
  exact ⟨hb, _, _, rfl, World.ownsRow_nil _ _ _ _, World.ownsRow_nil _ _ _ _⟩

set_option maxHeartbeats 800000 in
theorem results_db (X : World) (tmps : Array Value) (N : Nat) (v0 v1 v2 v3 v4 v5 v6 v7 v8 v9 v10 v11 v12 v13 v14 : Value) (ht : tmps[4]?.getD undef = .pointer (some ⟨N, 0, none⟩)) (h0 : X.cell? ⟨N, 0, none⟩ = some v0) (h1 : X.cell? ⟨N, 1, none⟩ = some v1) (h2 : X.cell? ⟨N, 2, none⟩ = some v2) (h3 : X.cell? ⟨N, 3, none⟩ = some v3) (h4 : X.cell? ⟨N, 4, none⟩ = some v4) (h5 : X.cell? ⟨N, 5, none⟩ = some v5) (h6 : X.cell? ⟨N, 6, none⟩ = some v6) (h7 : X.cell? ⟨N, 7, none⟩ = some v7) (h8 : X.cell? ⟨N, 8, none⟩ = some v8) (h9 : X.cell? ⟨N, 9, none⟩ = some v9) (h10 : X.cell? ⟨N, 10, none⟩ = some v10) (h11 : X.cell? ⟨N, 11, none⟩ = some v11) (h12 : X.cell? ⟨N, 12, none⟩ = some v12) (h13 : X.cell? ⟨N, 13, none⟩ = some v13) (h14 : X.cell? ⟨N, 14, none⟩ = some v14) :
    (results Tryz.f69 tmps).run Tryz.prog X = .ok (.tuple #[.agg #[v0, v1, v2, v3, v4, v5, v6, v7, v8, v9, v10, v11, v12, v13, v14], tmps.getD 5 undef]) X := by
  simp [results, Tryz.results69, go_sem, ht, h0, h1, h2, h3, h4, h5, h6, h7, h8, h9, h10, h11, h12, h13, h14]
theorem results_db_new (w0 : World) (tmps : Array Value) (q : Pkt) (N : Nat) (hN : w0.heap.size = N) (ht : tmps[4]?.getD undef = .pointer (some ⟨N, 0, none⟩)) :
    (results Tryz.f69 tmps).run Tryz.prog (w0.alloc (.cells (pkCells q) 36)) = .ok (.tuple #[.agg (pkCells q), tmps.getD 5 undef]) (w0.alloc (.cells (pkCells q) 36)) := by
  subst hN
  have h : PkIs (w0.alloc (.cells (pkCells q) 36)) w0.heap.size q := pkIs_heap (by show (w0.heap.push _)[w0.heap.size]? = _; simp)
  exact results_db _ _ _ _ _ _ _ _ _ _ _ _ _ _ _ _ _ _ ht h.c0 h.c1 h.c2 h.c3 h.c4 h.c5 h.c6 h.c7 h.c8 h.c9 h.c10 h.c11 h.c12 h.c13 h.c14

set_option maxHeartbeats 3200000 in
set_option maxRecDepth 100000 in
theorem db_empty (s : ByteArray) (p : Pkt) (w : World) (hk : p.kind = 12 ∨ p.kind = 13 ∨ p.kind = 14) (hfv : p.fv = .slice none 0 0) (hcv : p.cv = .slice none 0 0) :
    Calls Tryz.prog 69 #[.string s, .agg (pkCells p)] w (DbPost w (bodyS p s.data.toList)) := by
  have hB := body_empty p s.data.toList hk
  rw [← Lib.size_eq] at hB
  have HB := hide hB
  clear hB
  obtain ⟨kind, clean, will, keep, client, present, code, dup, qos, retain, topic, payload, id, fv, cv⟩ := p
  obtain rfl := hfv
  obtain rfl := hcv
  by_cases hz : s.size = 0
  · have he : ((s.size : Int) == 0) = true := beq_iff_eq.2 (by omega)
    have HR : Hid (bodyS ⟨kind, clean, will, keep, client, present, code, dup, qos, retain, topic, payload, id, .slice none 0 0, .slice none 0 0⟩ s.data.toList = some (⟨kind, clean, will, keep, client, present, code, dup, qos, retain, topic, payload, id, .slice none 0 0, .slice none 0 0⟩, [], [])) := hide (by rw [HB.out, if_pos hz])
    clear hz HB
    generalize bodyS ⟨kind, clean, will, keep, client, present, code, dup, qos, retain, topic, payload, id, .slice none 0 0, .slice none 0 0⟩ s.data.toList = R at *
    simp only at hk
    rcases hk with rfl | rfl | rfl
    all_goals
      simp only [pkCells]
      go_enter Tryz.func69, Tryz.ntmps69
      go_wp2_with fail
      refine bodyPost_ret (results_db_new _ _ ⟨_, clean, will, keep, client, present, code, dup, qos, retain, topic, payload, id, .slice none 0 0, .slice none 0 0⟩ (w.heap.size + 1) (by simp) rfl) rfl ?_
      exact DbPost.good HR.out (((Below.refl _ _).alloc (Nat.le_refl _) _).alloc (by simp) _) rfl rfl
  · have he : ((s.size : Int) == 0) = false := beq_eq_false_iff_ne.2 (by omega)
    have HR : Hid (bodyS ⟨kind, clean, will, keep, client, present, code, dup, qos, retain, topic, payload, id, .slice none 0 0, .slice none 0 0⟩ s.data.toList = none) := hide (by rw [HB.out, if_neg hz])
    clear hz HB
    generalize bodyS ⟨kind, clean, will, keep, client, present, code, dup, qos, retain, topic, payload, id, .slice none 0 0, .slice none 0 0⟩ s.data.toList = R at *
    simp only at hk
    rcases hk with rfl | rfl | rfl
    all_goals
      simp only [pkCells]
      go_enter Tryz.func69, Tryz.ntmps69
      go_wp2_with fail
      refine bodyPost_ret (results_db_new _ _ ⟨_, clean, will, keep, client, present, code, dup, qos, retain, topic, payload, id, .slice none 0 0, .slice none 0 0⟩ (w.heap.size + 1) (by simp) rfl) rfl ?_
      exact DbPost.bad HR.out (((Below.refl _ _).alloc (Nat.le_refl _) _).alloc (by simp) _) ⟨_, _, _, rfl⟩ ⟨_, _, _, rfl⟩
end Go.Proofs.YtnmfmoimjkoieaaGreatDoor.rf

namespace Go.Proofs.YtnmfmoimjkoieaaGreatDoor.rf
open Go.RowKit Go.Proofs.YtnmfmoimjkoieaaGreatDoor.topPlain Go.Proofs.YtnmfmoimjkoieaaGreatDoor.topWalks Go.Proofs.YtnmfmoimjkoieaaGreatDoor.decPlain Go.Proofs.YtnmfmoimjkoieaaGreatDoor.rd

set_option maxHeartbeats 3200000 in
set_option maxRecDepth 100000 in
theorem db_connack (s : ByteArray) (p : Pkt) (w : World) (hk : p.kind = 2) (hfv : p.fv = .slice none 0 0) (hcv : p.cv = .slice none 0 0) :
    Calls Tryz.prog 69 #[.string s, .agg (pkCells p)] w (DbPost w (bodyS p s.data.toList)) := by
  have hB := body_connack p s.data.toList hk
  rw [← Lib.size_eq] at hB
  have HB := hide hB
  clear hB
  obtain ⟨kind, clean, will, keep, client, present, code, dup, qos, retain, topic, payload, id, fv, cv⟩ := p
  obtain rfl := hfv
  obtain rfl := hcv
  obtain rfl := hk
  by_cases hz : s.size = 2
  · have he : ((s.size : Int) != 2) = false := by rw [bne, show ((s.size : Int) == 2) = true from beq_iff_eq.2 (by omega)]; rfl
    have hl0 : 0 < s.size := by omega
    have hl1 : 1 < s.size := by omega
    obtain ⟨x, hx⟩ : ∃ x : UInt8, s[0]'hl0 = x := ⟨_, rfl⟩
    obtain ⟨y, hy⟩ : ∃ y : UInt8, s[1]'hl1 = y := ⟨_, rfl⟩
    have gx : s.data.toList.getD 0 0 = x := by rw [List.getD_eq_getElem?_getD, get_list s 0 hl0, hx]; rfl
    have gy : s.data.toList.getD 1 0 = y := by rw [List.getD_eq_getElem?_getD, get_list s 1 hl1, hy]; rfl
    rw [gx, gy] at HB
    have hxl := x.toNat_lt
    have hyl := y.toNat_lt
    clear gx gy
    by_cases h1 : x.toNat ≤ 1
    · by_cases h2 : y.toNat ≤ 5
      · have HR := hide (HB.out.trans (if_pos ⟨hz, h1, h2⟩))
        have e1 : ((x.toNat : Int) == 1) = decide (x.toNat = 1) := by by_cases h : x.toNat = 1 <;> simp [h] <;> omega
        clear hz HB
        generalize bodyS _ s.data.toList = R at *
        generalize decide (x.toNat = 1) = pr at *
        have c1 : ¬ (1 : Int) < (x.toNat : Int) := by omega
        have c2 : ¬ (5 : Int) < (y.toNat : Int) := by omega
        simp only [pkCells]
        go_enter Tryz.func69, Tryz.ntmps69
        go_wp2_with fail
        refine bodyPost_ret (results_db_new _ _ ⟨2, clean, will, keep, client, pr, (y.toNat : Int), dup, qos, retain, topic, payload, id, .slice none 0 0, .slice none 0 0⟩ (w.heap.size + 1) (by simp) rfl) rfl ?_
        exact DbPost.good HR.out (((Below.refl _ _).alloc (Nat.le_refl _) _).alloc (by simp) _) rfl rfl
      · have HR := hide (HB.out.trans (if_neg (fun h => h2 h.2.2)))
        clear hz HB
        generalize bodyS _ s.data.toList = R at *
        have c1 : ¬ (1 : Int) < (x.toNat : Int) := by omega
        have c2 : (5 : Int) < (y.toNat : Int) := by omega
        simp only [pkCells]
        go_enter Tryz.func69, Tryz.ntmps69
        go_wp2_with fail
        refine bodyPost_ret (results_db_new _ _ ⟨2, clean, will, keep, client, present, code, dup, qos, retain, topic, payload, id, .slice none 0 0, .slice none 0 0⟩ (w.heap.size + 1) (by simp) rfl) rfl ?_
        exact DbPost.bad HR.out (((Below.refl _ _).alloc (Nat.le_refl _) _).alloc (by simp) _) ⟨_, _, _, rfl⟩ ⟨_, _, _, rfl⟩
    · have HR := hide (HB.out.trans (if_neg (fun h => h1 h.2.1)))
      clear hz HB
      generalize bodyS _ s.data.toList = R at *
      have c1 : (1 : Int) < (x.toNat : Int) := by omega
      simp only [pkCells]
      go_enter Tryz.func69, Tryz.ntmps69
      go_wp2_with fail
      refine bodyPost_ret (results_db_new _ _ ⟨2, clean, will, keep, client, present, code, dup, qos, retain, topic, payload, id, .slice none 0 0, .slice none 0 0⟩ (w.heap.size + 1) (by simp) rfl) rfl ?_
      exact DbPost.bad HR.out (((Below.refl _ _).alloc (Nat.le_refl _) _).alloc (by simp) _) ⟨_, _, _, rfl⟩ ⟨_, _, _, rfl⟩
  · have he : ((s.size : Int) != 2) = true := by rw [bne, show ((s.size : Int) == 2) = false from beq_eq_false_iff_ne.2 (by omega)]; rfl
    have HR := hide (HB.out.trans (if_neg (fun h => hz h.1)))
    clear hz HB
    generalize bodyS _ s.data.toList = R at *
    simp only [pkCells]
    go_enter Tryz.func69, Tryz.ntmps69
    go_wp2_with fail
    refine bodyPost_ret (results_db_new _ _ ⟨2, clean, will, keep, client, present, code, dup, qos, retain, topic, payload, id, .slice none 0 0, .slice none 0 0⟩ (w.heap.size + 1) (by simp) rfl) rfl ?_
    exact DbPost.bad HR.out (((Below.refl _ _).alloc (Nat.le_refl _) _).alloc (by simp) _) ⟨_, _, _, rfl⟩ ⟨_, _, _, rfl⟩

end Go.Proofs.YtnmfmoimjkoieaaGreatDoor.rf
