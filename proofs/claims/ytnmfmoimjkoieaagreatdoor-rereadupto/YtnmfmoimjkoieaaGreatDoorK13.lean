import Derived.Test.YtnmfmoimjkoieaaGreatDoorJ22
/- Plain: what Decode tells of bytes that go on, of bytes that are cut short, and that what it tells is written as those very bytes. No program is named here. -/
namespace Go.Proofs.YtnmfmoimjkoieaaGreatDoor.encPlain
open Go Go.Proofs.YtnmfmoimjkoieaaGreatDoor.topPlain Go.Proofs.YtnmfmoimjkoieaaGreatDoor.decPlain Go.Proofs.YtnmfmoimjkoieaaGreatDoor.rd

theorem lenL_app {r a : List UInt8} {m k : Nat} (h : lenL r = some (some (m, k))) : lenL (r ++ a) = some (some (m, k)) := by
  match r, h with
  | [x], h =>
    simp only [lenL, List.cons_append, List.nil_append] at h ⊢
    split at h
    · rename_i hx; rw [if_pos hx]; exact h
    · cases h
  | x :: y :: r, h =>
    simp only [lenL, List.cons_append] at h ⊢
    exact h
theorem lenL_take {r : List UInt8} {m k j : Nat} (h : lenL r = some (some (m, k))) (hj : k ≤ j) : lenL (r.take j) = some (some (m, k)) := by
  match r, h with
  | [x], h =>
    have hk := lenL_le h
    rw [List.take_of_length_le (by simp; omega)]; exact h
  | x :: y :: r, h =>
    have hk := lenL_le h
    by_cases hx : x.toNat < 128
    · match j, hj with
      | 0, hj => omega
      | j + 1, _ => simp only [lenL, List.take_succ_cons, if_pos hx] at h ⊢; exact h
    · match j, hj with
      | 0, hj => omega
      | 1, hj =>
        simp only [lenL, if_neg hx] at h
        split at h
        · cases h
        · injection h with h; injection h with h; injection h with _ h; omega
      | j + 2, _ => simp only [lenL, List.take_succ_cons, if_neg hx] at h ⊢; exact h
theorem lenL_short {r : List UInt8} {m k j : Nat} (h : lenL r = some (some (m, k))) (hj : j < k) : lenL (r.take j) = none := by
  match r, h with
  | [x], h =>
    have hk := lenL_le h
    have : j = 0 := by simp at hk; omega
    subst this; rfl
  | x :: y :: r, h =>
    by_cases hx : x.toNat < 128
    · simp only [lenL, if_pos hx] at h
      injection h with h; injection h with h; injection h with _ h
      have : j = 0 := by omega
      subst this; rfl
    · have hk := lenL_le h
      have : j = 0 ∨ j = 1 := by omega
      rcases this with rfl | rfl
      · rfl
      · simp [lenL, hx]
/-- the parts of bytes that are a packet -/
theorem dec_parts {l : List UInt8} {q : Pkt × List (List UInt8 × Int) × List Int} {n : Nat} (h : decL l = .inr (q, n)) : ∃ x r p m k, l = x :: r ∧ firstL (x.toNat / 16) (x.toNat % 16) = some p ∧ lenL r = some (some (m, k)) ∧ k + m ≤ r.length ∧ bodyS p ((r.drop k).take m) = some q ∧ n = 1 + k + m := by
  unfold decL at h
  split at h
  · cases h
  · rename_i x r
    split at h
    · cases h
    · rename_i p hp
      split at h
      · cases h
      · cases h
      · rename_i m k hm
        split at h
        · cases h
        · rename_i hlen
          split at h
          · cases h
          · rename_i q' hq
            injection h with h
            injection h with h h'
            subst h h'
            exact ⟨x, r, p, m, k, rfl, hp, hm, by omega, hq, rfl⟩
theorem dec_join {x : UInt8} {r : List UInt8} {p : Pkt} {q : Pkt × List (List UInt8 × Int) × List Int} {m k : Nat} (h1 : firstL (x.toNat / 16) (x.toNat % 16) = some p) (h2 : lenL r = some (some (m, k))) (h3 : k + m ≤ r.length) (h4 : bodyS p ((r.drop k).take m) = some q) : decL (x :: r) = .inr (q, 1 + k + m) := by
  unfold decL
  simp only [h1, h2]
  rw [if_neg (by omega), h4]
theorem dec_len {l : List UInt8} {q : Pkt × List (List UInt8 × Int) × List Int} {n : Nat} (h : decL l = .inr (q, n)) : n ≤ l.length := by
  obtain ⟨x, r, p, m, k, rfl, h1, h2, h3, h4, rfl⟩ := dec_parts h
  simp; omega
theorem dec_app {l : List UInt8} (a : List UInt8) {q : Pkt × List (List UInt8 × Int) × List Int} {n : Nat} (h : decL l = .inr (q, n)) : decL (l ++ a) = .inr (q, n) := by
  obtain ⟨x, r, p, m, k, rfl, h1, h2, h3, h4, rfl⟩ := dec_parts h
  refine dec_join h1 (lenL_app h2) (by simp; omega) ?_
  show bodyS p (List.take m (List.drop k (r ++ a))) = some q
  rw [List.drop_append_of_le_length (by omega), List.take_append_of_le_length (by simp; omega)]
  exact h4
theorem dec_take {l : List UInt8} {q : Pkt × List (List UInt8 × Int) × List Int} {n : Nat} (h : decL l = .inr (q, n)) : decL (l.take n) = .inr (q, n) := by
  obtain ⟨x, r, p, m, k, rfl, h1, h2, h3, h4, rfl⟩ := dec_parts h
  rw [show 1 + k + m = (k + m) + 1 by omega, List.take_succ_cons]
  have := dec_join (r := r.take (k + m)) h1 (lenL_take h2 (by omega)) (by simp; omega) (by
    rw [List.drop_take, List.take_take, show min m (k + m - k) = m by omega]; exact h4)
  rw [this, show 1 + k + m = k + m + 1 by omega]
theorem dec_short {l : List UInt8} {q : Pkt × List (List UInt8 × Int) × List Int} {n j : Nat} (h : decL l = .inr (q, n)) (hj : j < n) : decL (l.take j) = .inl true := by
  obtain ⟨x, r, p, m, k, rfl, h1, h2, h3, h4, rfl⟩ := dec_parts h
  cases j with
  | zero => rfl
  | succ j =>
    rw [List.take_succ_cons]
    unfold decL
    simp only [h1]
    by_cases hk : j < k
    · rw [lenL_short h2 hk]
    · rw [lenL_take h2 (by omega)]
      simp only
      rw [if_pos (by simp; omega)]

theorem byt8_self (x : UInt8) : byt8 (x.toNat : Int) = x := by
  have h := x.toNat_lt
  unfold byt8
  rw [show ((x.toNat : Int) % 256).toNat = x.toNat by omega]
  simp
theorem wantS_inv {so : Bool} {st : Option (List UInt8)} {r : List UInt8} (h : wantS so st = some r) : so = true ∧ st = some r := by
  cases so
  · cases h
  · exact ⟨rfl, h⟩
theorem octS_inv {st : Option (List UInt8)} {r : List UInt8} (h : (octS st).2 = some r) : st = some (byt8 ((octS st).1 : Int) :: r) := by
  unfold octS at h ⊢
  split at h
  · rename_i x r'
    simp only at h ⊢
    rw [byt8_self]
    injection h with h
    rw [h]
  · cases h
theorem numS_inv {st : Option (List UInt8)} {r : List UInt8} (h : (numS st).2 = some r) : st = some (twoW ((numS st).1 : Int) ++ r) := by
  have h1 : (octS (octS st).2).2 = some r := h
  have h2 := octS_inv h1
  have h3 := octS_inv h2
  have a := octS_lt st
  have b := octS_lt (octS st).2
  have e : (numS st).1 = 256 * (octS st).1 + (octS (octS st).2).1 := rfl
  rw [e]
  generalize (octS (octS st).2).1 = y at *
  generalize (octS st).1 = x at *
  rw [h3]
  unfold twoW
  rw [show ((256 * x + y : Nat) : Int) / 256 = (x : Int) by omega]
  have : byt8 ((256 * x + y : Nat) : Int) = byt8 (y : Int) := by unfold byt8; rw [show ((256 * x + y : Nat) : Int) % 256 = (y : Int) % 256 by omega]
  rw [this]
  rfl
theorem bytS_inv {n : Nat} {st : Option (List UInt8)} {r : List UInt8} (h : (bytS n st).2 = some r) : st = some ((bytS n st).1 ++ r) ∧ (bytS n st).1.length = n := by
  unfold bytS at h ⊢
  split at h
  · rename_i l
    split at h
    · rename_i hn
      simp only [if_pos hn] at h ⊢
      injection h with h
      rw [← h]
      exact ⟨by rw [List.take_append_drop], by simp; omega⟩
    · cases h
  · cases h
theorem txtS_inv {st : Option (List UInt8)} {r : List UInt8} (h : (txtS st).2 = some r) : st = some (txtW (txtS st).1 ++ r) := by
  have h1 : (bytS (numS st).1 (numS st).2).2 = some r := h
  obtain ⟨h2, h3⟩ := bytS_inv h1
  have h4 := numS_inv h2
  have e : (txtS st).1 = (bytS (numS st).1 (numS st).2).1 := rfl
  rw [e]
  unfold txtW
  rw [h3, List.append_assoc]
  exact h4
theorem idS_inv {st : Option (List UInt8)} {r : List UInt8} (h : (idS st).2 = some r) : st = some (twoW ((idS st).1 : Int) ++ r) := numS_inv (wantS_inv h).2
theorem topS_inv {st : Option (List UInt8)} {r : List UInt8} (h : (topS st).2 = some r) : st = some (txtW (topS st).1 ++ r) := txtS_inv (wantS_inv h).2
theorem restS_inv {st : Option (List UInt8)} {r : List UInt8} (h : (restS st).2 = some r) : st = some ((restS st).1 ++ r) := (bytS_inv h).1
theorem filStep_inv {k8 : Bool} {st : Option (List UInt8)} {r : List UInt8} (h : (filStep k8 st).2 = some r) : st = some (filW k8 (filStep k8 st).1 ++ r) := by
  unfold filStep at h ⊢
  cases k8
  · simp only [Bool.false_eq_true, if_false] at h ⊢
    have := txtS_inv (wantS_inv h).2
    unfold filW
    simpa using this
  · simp only [if_true] at h ⊢
    have h1 := octS_inv (wantS_inv h).2
    have h2 := txtS_inv (wantS_inv h1).2
    unfold filW
    simp only [if_true]
    rw [List.append_assoc]
    exact h2
theorem filF_none (k8 : Bool) (n : Nat) (acc : List (List UInt8 × Int)) : (filF k8 n none acc).2 = none := by
  cases n <;> simp [filF, lenS]
theorem filF_inv (k8 : Bool) : ∀ (n : Nat) (st : Option (List UInt8)) (acc : List (List UInt8 × Int)), lenS st ≤ n → (filF k8 n st acc).2 = some [] → ∃ L, (filF k8 n st acc).1 = acc ++ L ∧ st = some (L.flatMap (filW k8))
  | 0, st, acc, _, h => ⟨[], by simp [filF], by simpa [filF] using h⟩
  | n + 1, st, acc, hn, h => by
    by_cases hz : lenS st = 0
    · rw [filF, if_pos hz] at h ⊢
      exact ⟨[], by simp, by simpa using h⟩
    · rw [filF, if_neg hz] at h ⊢
      have hlt := filStep_lt k8 st (by omega)
      obtain ⟨L, h1, h2⟩ := filF_inv k8 n _ _ (by omega) h
      refine ⟨(filStep k8 st).1 :: L, by rw [h1]; simp, ?_⟩
      have := filStep_inv h2
      rw [List.flatMap_cons]
      exact this
theorem codL_inv : ∀ (l : List UInt8) (acc : List Int) (r : List UInt8), (codL l acc).2 = some r → (codL l acc).1 = acc ++ l.map (fun x => (x.toNat : Int))
  | [], acc, r, _ => by simp [codL]
  | x :: l, acc, r, h => by
    rw [codL] at h ⊢
    split at h
    · rename_i hx
      rw [if_pos hx, codL_inv l _ r h]
      simp
    · cases h
theorem map_byt8 (l : List UInt8) : (l.map (fun x => (x.toNat : Int))).map byt8 = l := by
  rw [List.map_map]
  conv => rhs; rw [← List.map_id l]
  exact List.map_congr_left fun x _ => byt8_self x
theorem st_end {st : Option (List UInt8)} (h : lenS st = 0) (h' : st ≠ none) : st = some [] := by
  cases st with
  | none => exact absurd rfl h'
  | some l => cases l with
    | nil => rfl
    | cons x r => simp [lenS] at h
theorem bits_round : ∀ b : Fin 256, bitOk b.val = true → byt8 (bitI (decide (b.val / 2 % 2 = 1)) 2 + bitI (decide (b.val / 4 % 2 = 1)) 4 + 8 * ((b.val / 8 % 4 : Nat) : Int) + bitI (decide (b.val / 32 % 2 = 1)) 32) = byt8 ((b.val : Nat) : Int) := by decide +kernel
theorem first_round : ∀ x : Fin 256, (match firstL (x.val / 16) (x.val % 16) with | some p => byt8 (16 * p.kind + flagsR p) == byt8 ((x.val : Nat) : Int) | none => true) = true := by decide +kernel
theorem connect_round {p : Pkt} {l : List UInt8} (h : (connectS p (some l)).2 = some []) : l = txtW [77, 81, 84, 84] ++ [byt8 4] ++ [cbR (connectS p (some l)).1] ++ twoW (connectS p (some l)).1.keep ++ txtW (connectS p (some l)).1.client ++ (if (connectS p (some l)).1.will then txtW (connectS p (some l)).1.topic ++ txtW (connectS p (some l)).1.payload else []) := by
  have key : ∀ T, wantS (clientOk (txtS (numS (bitsS p (levelS (protoS (some l)))).2).2).1) (txtS (numS (bitsS p (levelS (protoS (some l)))).2).2).2 = some T → l = txtW [77, 81, 84, 84] ++ [byt8 4] ++ [cbR (bitP p (octS (levelS (protoS (some l)))).1)] ++ twoW ((numS (bitsS p (levelS (protoS (some l)))).2).1 : Int) ++ txtW (txtS (numS (bitsS p (levelS (protoS (some l)))).2).2).1 ++ T := fun T hT => by
    have h1 := txtS_inv (wantS_inv hT).2
    have h2 := numS_inv h1
    have h3 : wantS (bitOk (octS (levelS (protoS (some l)))).1) (octS (levelS (protoS (some l)))).2 = _ := h2
    obtain ⟨hok, h4⟩ := wantS_inv h3
    have h5 := octS_inv h4
    have h6 : wantS (decide ((octS (protoS (some l))).1 = 4)) (octS (protoS (some l))).2 = _ := h5
    obtain ⟨h4', h7⟩ := wantS_inv h6
    have h8 := octS_inv h7
    have h9 : wantS ((txtS (some l)).1 == [77, 81, 84, 84]) (txtS (some l)).2 = _ := h8
    obtain ⟨hm, h10⟩ := wantS_inv h9
    have h11 := txtS_inv h10
    have hcb : cbR (bitP p (octS (levelS (protoS (some l)))).1) = byt8 ((octS (levelS (protoS (some l)))).1 : Int) := bits_round ⟨_, octS_lt (levelS (protoS (some l)))⟩ hok
    rw [eq_of_beq hm, of_decide_eq_true h4'] at h11
    injection h11 with h11
    rw [hcb]
    simpa using h11
  unfold connectS at h ⊢
  simp only at h ⊢
  by_cases hw : (bitsS p (levelS (protoS (some l)))).1.will = true
  · rw [if_pos hw] at h ⊢
    simp only at h ⊢
    rw [if_pos hw]
    have h1 := txtS_inv h
    have h2 := topS_inv h1
    have := key _ h2
    rw [List.append_nil] at this
    exact this
  · rw [if_neg hw] at h ⊢
    simp only at h ⊢
    rw [if_neg hw]
    exact key _ h
theorem body_round {k f : Nat} {p q : Pkt} {l : List UInt8} {gs : List (List UInt8 × Int)} {ds : List Int} (h1 : firstL k f = some p) (h2 : bodyS p l = some (q, gs, ds)) : bodyW (cbR q) q gs ds = l ∧ q.kind = p.kind ∧ (p.kind = 3 → q.dup = p.dup ∧ q.qos = p.qos ∧ q.retain = p.retain) := by
  obtain ⟨⟨hk1, hk2⟩, _⟩ := firstL_shape h1
  unfold bodyS at h2
  split at h2
  · rename_i hc
    have hn := st_end hc.1 hc.2
    clear hc
    obtain ⟨rfl, rfl, rfl⟩ : (packetS p (some l)).1 = q ∧ (packetS p (some l)).2.1 = gs ∧ (packetS p (some l)).2.2.1 = ds := by
      injection h2 with h2
      injection h2 with h2 h3
      injection h3 with h3 h4
      exact ⟨h2, h3, h4⟩
    clear h2
    unfold packetS at hn ⊢
    by_cases e1 : p.kind = 1
    · rw [if_pos e1] at hn ⊢
      have hk : (connectS p (some l)).1.kind = p.kind := by unfold connectS bitsS bitP; simp only; split <;> rfl
      refine ⟨?_, hk, fun h => by omega⟩
      unfold bodyW
      simp only
      rw [if_pos (hk.trans e1)]
      exact (connect_round hn).symm
    · rw [if_neg e1] at hn ⊢
      by_cases e2 : p.kind = 2
      · rw [if_pos e2] at hn ⊢
        refine ⟨?_, rfl, fun h => by omega⟩
        unfold bodyW connackS
        simp only
        rw [if_neg e1, if_pos e2]
        have a := octS_inv (wantS_inv hn).2
        obtain ⟨a1, a2⟩ := wantS_inv a
        have b := octS_inv a2
        have hle : (octS (some l)).1 ≤ 1 := of_decide_eq_true a1
        have hb : byt8 (bitI (decide ((octS (some l)).1 = 1)) 1) = byt8 ((octS (some l)).1 : Int) := by
          have : (octS (some l)).1 = 0 ∨ (octS (some l)).1 = 1 := by omega
          rcases this with h | h <;> rw [h] <;> rfl
        rw [hb]
        injection b with b
        exact b.symm
      · rw [if_neg e2] at hn ⊢
        by_cases e3 : p.kind = 3
        · rw [if_pos e3] at hn ⊢
          unfold publishS at hn ⊢
          by_cases hq : 0 < p.qos
          · rw [if_pos hq] at hn ⊢
            refine ⟨?_, rfl, fun _ => ⟨rfl, rfl, rfl⟩⟩
            unfold bodyW
            simp only at hn ⊢
            rw [if_neg e1, if_neg e2, if_pos e3, if_pos hq]
            have a := restS_inv hn
            have b := idS_inv a
            have c := topS_inv b
            injection c with c
            rw [List.append_nil] at c
            rw [List.append_assoc]
            exact c.symm
          · rw [if_neg hq] at hn ⊢
            refine ⟨?_, rfl, fun _ => ⟨rfl, rfl, rfl⟩⟩
            unfold bodyW
            simp only at hn ⊢
            rw [if_neg e1, if_neg e2, if_pos e3, if_neg hq]
            have a := restS_inv hn
            have c := topS_inv a
            injection c with c
            rw [List.append_nil] at c ⊢
            exact c.symm
        · rw [if_neg e3] at hn ⊢
          by_cases e4 : p.kind = 4 ∨ p.kind = 5 ∨ p.kind = 6 ∨ p.kind = 7 ∨ p.kind = 11
          · rw [if_pos e4] at hn ⊢
            refine ⟨?_, rfl, fun h => absurd h e3⟩
            unfold bodyW
            simp only at hn ⊢
            rw [if_neg e1, if_neg e2, if_neg e3, if_pos e4]
            have a := idS_inv hn
            injection a with a
            rw [List.append_nil] at a
            exact a.symm
          · rw [if_neg e4] at hn ⊢
            by_cases e5 : p.kind = 8 ∨ p.kind = 10
            · rw [if_pos e5] at hn ⊢
              refine ⟨?_, rfl, fun h => absurd h e3⟩
              unfold bodyW
              simp only at hn ⊢
              rw [if_neg e1, if_neg e2, if_neg e3, if_neg e4, if_pos e5]
              have hn' : (filF (p.kind == 8) (lenS (wantS (decide (0 < lenS (idS (some l)).2)) (idS (some l)).2)) (wantS (decide (0 < lenS (idS (some l)).2)) (idS (some l)).2) []).2 = some [] := hn
              obtain ⟨L, h3, h4⟩ := filF_inv _ _ _ _ (Nat.le_refl _) hn'
              have h3' : (filtersS (p.kind == 8) (idS (some l)).2).1 = [] ++ L := h3
              rw [h3', List.nil_append]
              have a := idS_inv (wantS_inv h4).2
              injection a with a
              exact a.symm
            · rw [if_neg e5] at hn ⊢
              by_cases e6 : p.kind = 9
              · rw [if_pos e6] at hn ⊢
                refine ⟨?_, rfl, fun h => absurd h e3⟩
                unfold bodyW
                simp only at hn ⊢
                rw [if_neg e1, if_neg e2, if_neg e3, if_neg e4, if_neg e5, if_pos e6]
                unfold codesS at hn ⊢
                cases hst : wantS (decide (0 < lenS (idS (some l)).2)) (idS (some l)).2 with
                | none => rw [hst] at hn; cases hn
                | some t =>
                  rw [hst] at hn
                  have hc : (codL t []).2 = some [] := hn
                  have h3 := codL_inv t [] [] hc
                  have h3' : (codR (some t) []).1 = t.map (fun x => (x.toNat : Int)) := by rw [show (codR (some t) []).1 = (codL t []).1 from rfl, h3]; rfl
                  rw [h3', map_byt8]
                  have a := idS_inv (wantS_inv hst).2
                  injection a with a
                  exact a.symm
              · rw [if_neg e6] at hn ⊢
                refine ⟨?_, rfl, fun h => absurd h e3⟩
                unfold bodyW
                simp only at hn ⊢
                rw [if_neg e1, if_neg e2, if_neg e3, if_neg e4, if_neg e5, if_neg e6]
                injection hn with hn
                exact hn.symm
  · cases h2
theorem lenW_round {r : List UInt8} {m k : Nat} (h : lenL r = some (some (m, k))) : lenW m = r.take k := by
  match r, h with
  | [x], h =>
    simp only [lenL] at h
    split at h
    · rename_i hx
      injection h with h; injection h with h; injection h with h1 h2
      subst h1 h2
      unfold lenW
      rw [if_pos hx, byt8_self]
      rfl
    · cases h
  | x :: y :: r, h =>
    simp only [lenL] at h
    split at h
    · rename_i hx
      injection h with h; injection h with h; injection h with h1 h2
      subst h1 h2
      unfold lenW
      rw [if_pos hx, byt8_self]
      rfl
    · rename_i hx
      split at h
      · cases h
      · rename_i hy
        injection h with h; injection h with h; injection h with h1 h2
        subst h1 h2
        have hx2 := x.toNat_lt
        unfold lenW
        rw [if_neg (by omega), show (x.toNat - 128 + 128 * y.toNat) % 128 + 128 = x.toNat by omega, show (x.toNat - 128 + 128 * y.toNat) / 128 = y.toNat by omega, byt8_self, byt8_self]
        rfl
theorem sameP_refl (p : Pkt) : sameP p p := ⟨rfl, rfl, rfl, rfl, rfl, rfl, rfl, rfl, rfl, rfl, rfl, rfl, rfl⟩
/-- what was read is written as it was -/
theorem enc_dec {l : List UInt8} {q : Pkt × List (List UInt8 × Int) × List Int} {n : Nat} (fw cb : UInt8) (hf : rangeB q.1 → fw = firstR q.1) (hc : rangeB q.1 → cb = cbR q.1) (h : decL l = .inr (q, n)) : encL fw cb q.1 q.2.1 q.2.2 = some (l.take n) := by
  have hS := (dec_inr h).1
  have hT := dec_take h
  obtain ⟨x, r, p, m, k, rfl, h1, h2, h3, h4, rfl⟩ := dec_parts h
  obtain ⟨b1, b2, b3⟩ := body_round h1 h4
  have hx : firstR q.1 = x := by
    have := first_round ⟨x.toNat, x.toNat_lt⟩
    simp only [h1, beq_iff_eq] at this
    rw [byt8_self] at this
    rw [← this]
    unfold firstR flagsR
    rw [b2]
    by_cases e3 : p.kind = 3
    · rw [if_pos e3, if_pos e3, (b3 e3).1, (b3 e3).2.1, (b3 e3).2.2]
    · rw [if_neg e3, if_neg e3]
  have hm := (lenL_le h2).1
  have hB : bodyW cb q.1 q.2.1 q.2.2 = (r.drop k).take m := by rw [hc hS.rng]; exact b1
  have hL : ((r.drop k).take m).length = m := by simp; omega
  have hW : fw :: (lenW (bodyW cb q.1 q.2.1 q.2.2).length ++ bodyW cb q.1 q.2.1 q.2.2) = (x :: r).take (1 + k + m) := by
    rw [hB, hL, hf hS.rng, hx, lenW_round h2, show 1 + k + m = (k + m) + 1 by omega, List.take_succ_cons, List.take_add]
  unfold encL
  rw [hW, hT, if_neg (by rw [hB, hL]; omega)]
  simp only
  rw [if_pos ⟨sameP_refl _, by simp⟩]
/-- what is written is read, whatever follows -/
theorem dec_enc {fw cb : UInt8} {p : Pkt} {fs : List (List UInt8 × Int)} {cs : List Int} {b : List UInt8} (h : encL fw cb p fs cs = some b) : ∃ q, decL b = .inr (q, b.length) ∧ sameP p q.1 ∧ fs = q.2.1 ∧ cs = q.2.2 := by
  unfold encL at h
  split at h
  · cases h
  · rename_i hlen
    split at h
    · cases h
    · rename_i q n hd
      split at h
      · rename_i hs
        injection h with h
        rw [← h]
        refine ⟨q, ?_, hs.1, hs.2.1, hs.2.2⟩
        obtain ⟨x, r, p', m, k, hxr, h1, h2, h3, h4, hn⟩ := dec_parts hd
        injection hxr with _ hxr
        have := lenL_lenW (m := (bodyW cb p fs cs).length) (by omega) (bodyW cb p fs cs)
        rw [hxr, h2] at this
        injection this with this; injection this with this; injection this with e1 e2
        rw [hd]
        simp only [List.length_cons, List.length_append]
        rw [hn, e1, e2]
        congr 2
        omega
      · cases h
end Go.Proofs.YtnmfmoimjkoieaaGreatDoor.encPlain
