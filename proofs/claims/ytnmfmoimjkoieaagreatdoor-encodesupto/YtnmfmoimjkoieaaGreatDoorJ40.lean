import Derived.Test.YtnmfmoimjkoieaaGreatDoorJ37
import Derived.Test.YtnmfmoimjkoieaaGreatDoorJ38
import Derived.Test.YtnmfmoimjkoieaaGreatDoorJ39
import Derived.Test.YtnmfmoimjkoieaaGreatDoorJ36
import Derived.Test.YtnmfmoimjkoieaaGreatDoorJ11
import Derived.Test.YtnmfmoimjkoieaaGreatDoorJ01
import Derived.Test.YtnmfmoimjkoieaaGreatDoorJ15
/- courantref.body: CONNECT; all kinds. Plain: the document's first byte and length, and that they come to what package packets reads. No program is named here. courantref.Decode: plain words on its branches, the way out. What courantref.Decode's walk through a body needs. courantref.Decode's code, cut: what stands behind the body's reading. courantref.Decode's code, cut: its first half, by the kind. -/
namespace Go.Proofs.YtnmfmoimjkoieaaGreatDoor.rf
open Go.RowKit Go.Proofs.YtnmfmoimjkoieaaGreatDoor.topPlain Go.Proofs.YtnmfmoimjkoieaaGreatDoor.topWalks Go.Proofs.YtnmfmoimjkoieaaGreatDoor.decPlain Go.Proofs.YtnmfmoimjkoieaaGreatDoor.rd

set_option maxHeartbeats 3200000 in
set_option maxRecDepth 100000 in
theorem db_connect (s : ByteArray) (p : Pkt) (w : World) (hs : s.size ≤ 300) (hk : p.kind = 1) (hI : topWalks.Inv w) (hN : 5 ≤ w.heap.size) (hfv : p.fv = .slice none 0 0) (hcv : p.cv = .slice none 0 0) :
    Calls Tryz.prog 69 #[.string s, .agg (pkCells p)] w (DbPost w (bodyS p s.data.toList)) := by
  have hB := body_connect p s.data.toList hk
  have cC := hide fun w' (hI : topWalks.Inv w') (hN : 5 ≤ w'.heap.size) => dconnect_any s p w' hs hI hN hfv hcv
  have H0 := hide fun p => Dc.begin w p hI hN
  have HB := hide hB
  clear hB hI
  obtain ⟨kind, clean, will, keep, client, present, code, dup, qos, retain, topic, payload, id, fv, cv⟩ := p
  obtain rfl := hfv
  obtain rfl := hcv
  obtain rfl := hk
  generalize bodyS _ s.data.toList = R at *
  generalize docConnect s.data.toList _ = D at *
  simp only [pkCells] at cC ⊢
  go_enter Tryz.func69, Tryz.ntmps69
  go_wp2_with fail
  have hD := H0.out ⟨1, clean, will, keep, client, present, code, dup, qos, retain, topic, payload, id, .slice none 0 0, .slice none 0 0⟩
  refine (unhide cC _ hD.inv (Nat.le_trans hN hD.bel.size)).mono ?_
  rintro e w3 ⟨q, ok, ⟨rfl, hb3⟩, hf, hc, hm⟩
  have H3 := hide (hD.belStep hb3)
  obtain ⟨kq, clq, wq, keq, ciq, prq, coq, duq, qoq, req, toq, paq, idq, fq, cq⟩ := q
  simp only at hf hc
  subst hf hc
  have HM := hide hm
  clear hm hb3 hD H0 cC
  simp only [pkCells]
  have hD := H3.out
  have p0 := hD.pk.c0; have p1 := hD.pk.c1; have p2 := hD.pk.c2; have p3 := hD.pk.c3; have p4 := hD.pk.c4; have p5 := hD.pk.c5; have p6 := hD.pk.c6; have p7 := hD.pk.c7; have p8 := hD.pk.c8; have p9 := hD.pk.c9; have p10 := hD.pk.c10; have p11 := hD.pk.c11; have p12 := hD.pk.c12; have p13 := hD.pk.c13; have p14 := hD.pk.c14
  obtain ⟨y0, y1, y2, y3, y4, y5, y6, y7, y8, y9, y10, y11, y12, y13, y14⟩ := zero_thawed hD.res
  obtain ⟨z0, z1, z2, z3, z4, z5, z6, z7, z8, z9, z10, z11, z12, z13, z14⟩ := zero_cells hD.res
  have l4 := hD.lt
  have f4 := hD.pk.fz 4
  have f10 := hD.pk.fz 10
  have f11 := hD.pk.fz 11
  clear hD
  simp only at p0 p1 p2 p3 p4 p5 p6 p7 p8 p9 p10 p11 p12 p13 p14
  have hR : R = if ok then some ((⟨kq, clq, wq, keq, ciq, prq, coq, duq, qoq, req, toq, paq, idq, .slice none 0 0, .slice none 0 0⟩ : Pkt), [], []) else none := by
    rw [HB.out]
    have h := HM.out
    cases D with
    | none => simp only at h; subst h; rfl
    | some r => simp only at h; obtain ⟨rfl, rfl⟩ := h; rfl
  have HR0 := hide hR
  clear hR HB HM
  cases ok
  · have HR : Hid (R = none) := hide HR0.out
    clear HR0
    have HZ := hide (World.cell?_setCells_in (w.heap.size + 1) [.int .i64 kq, .bool clq, .bool wq, .int .i64 keq, .string (bs ciq), .bool prq, .int .i64 coq, .bool duq, .int .i64 qoq, .bool req, .string (bs toq), .string (bs paq), .int .i64 idq, .slice none 0 0, .slice none 0 0] 0 (w3) (fun j hj => zero_some2 H3.out.res j hj))
    have hfin : ∀ wF, (w3).grownBy wF (some (w.heap.size + 1)) → Below w.heap.size w wF := fun wF hg => H3.out.bel.trans (below_grown hg (by omega) (by have := H3.out.lt; omega))
    have HF := hide hfin
    clear hfin
    go_wp2_with fail
    refine bodyPost_ret (results_db _ _ (w.heap.size + 1) _ _ _ _ _ _ _ _ _ _ _ _ _ _ _ rfl (HZ.out 0 (show 0 < 15 by decide)) (HZ.out 1 (show 1 < 15 by decide)) (HZ.out 2 (show 2 < 15 by decide)) (HZ.out 3 (show 3 < 15 by decide)) (HZ.out 4 (show 4 < 15 by decide)) (HZ.out 5 (show 5 < 15 by decide)) (HZ.out 6 (show 6 < 15 by decide)) (HZ.out 7 (show 7 < 15 by decide)) (HZ.out 8 (show 8 < 15 by decide)) (HZ.out 9 (show 9 < 15 by decide)) (HZ.out 10 (show 10 < 15 by decide)) (HZ.out 11 (show 11 < 15 by decide)) (HZ.out 12 (show 12 < 15 by decide)) (HZ.out 13 (show 13 < 15 by decide)) (HZ.out 14 (show 14 < 15 by decide))) rfl ?_
    refine DbPost.bad (q := ⟨kq, clq, wq, keq, ciq, prq, coq, duq, qoq, req, toq, paq, idq, .slice none 0 0, .slice none 0 0⟩) HR.out (HF.out _ ?_) ⟨_, _, _, rfl⟩ ⟨_, _, _, rfl⟩
    repeat refine grown_trans ?_ (grown_set _ _ _ _)
    exact grown_refl _ _
  · have HR : Hid (R = some (⟨kq, clq, wq, keq, ciq, prq, coq, duq, qoq, req, toq, paq, idq, .slice none 0 0, .slice none 0 0⟩, [], [])) := hide HR0.out
    clear HR0
    have HZ := hide (World.cell?_setCells_in (w.heap.size + 1) [.int .i64 kq, .bool clq, .bool wq, .int .i64 keq, .string (bs ciq), .bool prq, .int .i64 coq, .bool duq, .int .i64 qoq, .bool req, .string (bs toq), .string (bs paq), .int .i64 idq, .slice none 0 0, .slice none 0 0] 0 (w3) (fun j hj => zero_some2 H3.out.res j hj))
    have hfin : ∀ wF, (w3).grownBy wF (some (w.heap.size + 1)) → Below w.heap.size w wF := fun wF hg => H3.out.bel.trans (below_grown hg (by omega) (by have := H3.out.lt; omega))
    have HF := hide hfin
    clear hfin
    go_wp2_with fail
    refine bodyPost_ret (results_db _ _ (w.heap.size + 1) _ _ _ _ _ _ _ _ _ _ _ _ _ _ _ rfl (HZ.out 0 (show 0 < 15 by decide)) (HZ.out 1 (show 1 < 15 by decide)) (HZ.out 2 (show 2 < 15 by decide)) (HZ.out 3 (show 3 < 15 by decide)) (HZ.out 4 (show 4 < 15 by decide)) (HZ.out 5 (show 5 < 15 by decide)) (HZ.out 6 (show 6 < 15 by decide)) (HZ.out 7 (show 7 < 15 by decide)) (HZ.out 8 (show 8 < 15 by decide)) (HZ.out 9 (show 9 < 15 by decide)) (HZ.out 10 (show 10 < 15 by decide)) (HZ.out 11 (show 11 < 15 by decide)) (HZ.out 12 (show 12 < 15 by decide)) (HZ.out 13 (show 13 < 15 by decide)) (HZ.out 14 (show 14 < 15 by decide))) rfl ?_
    refine DbPost.good (q := ⟨kq, clq, wq, keq, ciq, prq, coq, duq, qoq, req, toq, paq, idq, .slice none 0 0, .slice none 0 0⟩) HR.out (HF.out _ ?_) rfl rfl
    repeat refine grown_trans ?_ (grown_set _ _ _ _)
    exact grown_refl _ _

theorem dbody_any (s : ByteArray) (p : Pkt) (w : World) (hs : s.size ≤ 300) (hk1 : 1 ≤ p.kind) (hk2 : p.kind ≤ 14) (hI : topWalks.Inv w) (hN : 5 ≤ w.heap.size) (hfv : p.fv = .slice none 0 0) (hcv : p.cv = .slice none 0 0) :
    Calls Tryz.prog 69 #[.string s, .agg (pkCells p)] w (DbPost w (bodyS p s.data.toList)) := by
  have hk : p.kind = 1 ∨ p.kind = 2 ∨ p.kind = 3 ∨ (p.kind = 4 ∨ p.kind = 5 ∨ p.kind = 6 ∨ p.kind = 7 ∨ p.kind = 11) ∨ (p.kind = 8 ∨ p.kind = 10) ∨ p.kind = 9 ∨ (p.kind = 12 ∨ p.kind = 13 ∨ p.kind = 14) := by omega
  rcases hk with h | h | h | h | h | h | h
  · exact db_connect s p w hs h hI hN hfv hcv
  · exact db_connack s p w h hfv hcv
  · exact db_publish s p w hs h hI hN hfv hcv
  · exact db_id s p w hs h hI hN hfv hcv
  · exact db_filters s p w hs h hI hN hfv hcv
  · exact db_codes s p w hs h hI hN hfv hcv
  · exact db_empty s p w h hfv hcv
end Go.Proofs.YtnmfmoimjkoieaaGreatDoor.rf

namespace Go.Proofs.YtnmfmoimjkoieaaGreatDoor.rf
open Go Go.Proofs.YtnmfmoimjkoieaaGreatDoor.topPlain Go.Proofs.YtnmfmoimjkoieaaGreatDoor.decPlain Go.Proofs.YtnmfmoimjkoieaaGreatDoor.rd

def wantF (k f : Nat) : Nat := if k = 3 then f else if k = 6 ∨ k = 8 ∨ k = 10 then 2 else 0
/-- the document's packet behind its first byte -/
def docP (k f : Nat) : Pkt := if k = 3 then { zeroP with kind := 3, dup := decide (f / 8 = 1), qos := ((f / 2 % 4 : Nat) : Int), retain := decide (f % 2 = 1) } else { zeroP with kind := (k : Int) }
def docBad (k f : Nat) : Bool := decide (k < 1) || decide (14 < k) || decide (f ≠ wantF k f) || (decide (k = 3) && (decide (f / 2 % 4 = 3) || decide (f / 8 = 1) && decide (f / 2 % 4 = 0)))
def firstBad (k f : Nat) : Bool := if k = 0 ∨ 15 ≤ k then true else if k ≠ 3 then !decide ((f : Int) = fixedF k) else (decide (2 < f / 2 % 4) || (decide (f / 8 = 1) && decide (f / 2 % 4 = 0)))
theorem firstL_bad (k f : Nat) : firstL k f = if firstBad k f then none else some (docP k f) := by
  unfold firstL firstBad docP
  by_cases h1 : k = 0 ∨ 15 ≤ k
  · simp [h1]
  · rw [if_neg h1, if_neg h1]
    by_cases h2 : k = 3
    · subst h2
      simp only [ne_eq, not_true, if_false, if_true]
      by_cases h3 : 2 < f / 2 % 4
      · simp [h3]
      · by_cases h4 : f / 8 = 1
        · by_cases h5 : f / 2 % 4 = 0 <;> simp [h3, h4, h5]
        · simp [h3, h4]
    · rw [if_pos h2, if_pos h2, if_neg h2]
      by_cases h3 : (f : Int) = fixedF k <;> simp [h3]
theorem bad_same : ∀ b : Fin 256, firstBad (b.val / 16) (b.val % 16) = docBad (b.val / 16) (b.val % 16) := by decide +kernel
theorem firstL_doc (b : Nat) (h : b < 256) : firstL (b / 16) (b % 16) = if docBad (b / 16) (b % 16) then none else some (docP (b / 16) (b % 16)) := by
  rw [firstL_bad, bad_same ⟨b, h⟩]
end Go.Proofs.YtnmfmoimjkoieaaGreatDoor.rf

namespace Go.Proofs.YtnmfmoimjkoieaaGreatDoor.rf
open Go.RowKit Go.Proofs.YtnmfmoimjkoieaaGreatDoor.topPlain Go.Proofs.YtnmfmoimjkoieaaGreatDoor.topWalks Go.Proofs.YtnmfmoimjkoieaaGreatDoor.decPlain Go.Proofs.YtnmfmoimjkoieaaGreatDoor.rd

/-- behind the first byte -/
def decR (p : Pkt) (r : List UInt8) : Bool ⊕ ((Pkt × List (List UInt8 × Int) × List Int) × Nat) := match lenL r with
  | none => .inl true
  | some none => .inl false
  | some (some (n, k)) => if r.length < k + n then .inl true else match bodyS p ((r.drop k).take n) with
    | none => .inl false
    | some q => .inr (q, 1 + k + n)
theorem decL_bad (x : UInt8) (r : List UInt8) (h : docBad (x.toNat / 16) (x.toNat % 16) = true) : decL (x :: r) = .inl false := by
  unfold decL
  simp only
  rw [firstL_doc _ x.toNat_lt, if_pos h]
theorem decL_cons (x : UInt8) (r : List UInt8) (h : docBad (x.toNat / 16) (x.toNat % 16) = false) : decL (x :: r) = decR (docP (x.toNat / 16) (x.toNat % 16)) r := by
  unfold decL
  simp only
  rw [firstL_doc _ x.toNat_lt, if_neg (by rw [h]; simp)]
  rfl
theorem decR_1 (p : Pkt) (y : UInt8) (r : List UInt8) (h : y.toNat < 128) : decR p (y :: r) = if r.length < y.toNat then .inl true else match bodyS p (r.take y.toNat) with | none => .inl false | some q => .inr (q, 2 + y.toNat) := by
  unfold decR
  have hl : lenL (y :: r) = some (some (y.toNat, 1)) := by unfold lenL; simp only; rw [if_pos h]
  rw [hl]
  simp only [List.length_cons, List.drop_succ_cons, List.drop_zero]
  by_cases hn : r.length < y.toNat
  · rw [if_pos hn, if_pos (by omega)]
  · rw [if_neg hn, if_neg (by omega)]
theorem decR_half (p : Pkt) (y : UInt8) (h : ¬y.toNat < 128) : decR p [y] = .inl true := by
  unfold decR
  have hl : lenL [y] = none := by unfold lenL; simp only; rw [if_neg h]
  rw [hl]
theorem decR_long (p : Pkt) (y z : UInt8) (r : List UInt8) (h : ¬y.toNat < 128) (hz : z.toNat = 0 ∨ 127 < z.toNat ∨ 300 < y.toNat - 128 + 128 * z.toNat) : decR p (y :: z :: r) = .inl false := by
  unfold decR
  have hl : lenL (y :: z :: r) = some none := by unfold lenL; simp only; rw [if_neg h, if_pos hz]
  rw [hl]
theorem decR_2 (p : Pkt) (y z : UInt8) (r : List UInt8) (h : ¬y.toNat < 128) (hz : ¬(z.toNat = 0 ∨ 127 < z.toNat ∨ 300 < y.toNat - 128 + 128 * z.toNat)) : decR p (y :: z :: r) = if r.length < y.toNat - 128 + 128 * z.toNat then .inl true else match bodyS p (r.take (y.toNat - 128 + 128 * z.toNat)) with | none => .inl false | some q => .inr (q, 3 + (y.toNat - 128 + 128 * z.toNat)) := by
  unfold decR
  have hl : lenL (y :: z :: r) = some (some (y.toNat - 128 + 128 * z.toNat, 2)) := by unfold lenL; simp only; rw [if_neg h, if_neg hz]
  rw [hl]
  simp only [List.length_cons, List.drop_succ_cons, List.drop_zero]
  by_cases hn : r.length < y.toNat - 128 + 128 * z.toNat
  · rw [if_pos hn, if_pos (by omega)]
  · rw [if_neg hn, if_neg (by omega)]
theorem list_cons (s : ByteArray) (h : 0 < s.size) : s.data.toList = s[0]'h :: s.data.toList.drop 1 := by
  have e : s.data.toList[0]? = some (s[0]'h) := get_list s 0 h
  cases hl : s.data.toList with
  | nil => rw [hl] at e; simp at e
  | cons a t => rw [hl] at e; simp at e; rw [e]; rfl
theorem list_at (s : ByteArray) (n : Nat) (h : n < s.size) : s.data.toList.drop n = s[n]'h :: s.data.toList.drop (n + 1) := by
  have e : s.data.toList[n]? = some (s[n]'h) := get_list s n h
  have hl : n < s.data.toList.length := by rw [← Lib.size_eq]; exact h
  rw [List.getElem?_eq_getElem hl] at e
  rw [List.drop_eq_getElem_cons hl, Option.some.inj e]

set_option maxHeartbeats 800000 in
theorem results_dd (X : World) (tmps : Array Value) (N : Nat) (v0 v1 v2 v3 v4 v5 v6 v7 v8 v9 v10 v11 v12 v13 v14 : Value) (ht : tmps[2]?.getD undef = .pointer (some ⟨N, 0, none⟩)) (h0 : X.cell? ⟨N, 0, none⟩ = some v0) (h1 : X.cell? ⟨N, 1, none⟩ = some v1) (h2 : X.cell? ⟨N, 2, none⟩ = some v2) (h3 : X.cell? ⟨N, 3, none⟩ = some v3) (h4 : X.cell? ⟨N, 4, none⟩ = some v4) (h5 : X.cell? ⟨N, 5, none⟩ = some v5) (h6 : X.cell? ⟨N, 6, none⟩ = some v6) (h7 : X.cell? ⟨N, 7, none⟩ = some v7) (h8 : X.cell? ⟨N, 8, none⟩ = some v8) (h9 : X.cell? ⟨N, 9, none⟩ = some v9) (h10 : X.cell? ⟨N, 10, none⟩ = some v10) (h11 : X.cell? ⟨N, 11, none⟩ = some v11) (h12 : X.cell? ⟨N, 12, none⟩ = some v12) (h13 : X.cell? ⟨N, 13, none⟩ = some v13) (h14 : X.cell? ⟨N, 14, none⟩ = some v14) :
    (results Tryz.f33 tmps).run Tryz.prog X = .ok (.tuple #[.agg #[v0, v1, v2, v3, v4, v5, v6, v7, v8, v9, v10, v11, v12, v13, v14], tmps.getD 3 undef, tmps.getD 4 undef]) X := by
  simp [results, Tryz.results33, go_sem, ht, h0, h1, h2, h3, h4, h5, h6, h7, h8, h9, h10, h11, h12, h13, h14]

theorem results_dd_zero (X : World) (tmps : Array Value) (N : Nat) (ht : tmps[2]?.getD undef = .pointer (some ⟨N, 0, none⟩)) (hz : X.heap[N]? = some (.cells (pkCells zeroP) 36)) :
    (results Tryz.f33 tmps).run Tryz.prog X = .ok (.tuple #[.agg (pkCells zeroP), tmps.getD 3 undef, tmps.getD 4 undef]) X := by
  have h := pkIs_heap hz
  exact results_dd _ _ _ _ _ _ _ _ _ _ _ _ _ _ _ _ _ _ ht h.c0 h.c1 h.c2 h.c3 h.c4 h.c5 h.c6 h.c7 h.c8 h.c9 h.c10 h.c11 h.c12 h.c13 h.c14
theorem heap_two (w : World) (o1 o2 : Obj) : ((w.alloc o1).alloc o2).heap[w.heap.size]? = some o1 := by
  rw [Below.heap_alloc _ _ _ (by simp)]; exact heap1 _ _
theorem heap_three (w : World) (o1 o2 o3 : Obj) : (((w.alloc o1).alloc o2).alloc o3).heap[w.heap.size]? = some o1 := by
  rw [Below.heap_alloc _ _ _ (by simp; omega)]; exact heap_two _ _ _

set_option maxHeartbeats 1600000 in
set_option maxRecDepth 100000 in
theorem dd_nil (s : ByteArray) (w : World) (h : s.size = 0) : Calls Tryz.prog 33 #[.string s] w (CdPost w (decL s.data.toList)) := by
  have hn : s.data.toList = [] := List.eq_nil_of_length_eq_zero (by rw [← Lib.size_eq]; exact h)
  rw [hn]
  have he : ((s.size : Int) == 0) = true := beq_iff_eq.2 (by omega)
  clear hn h
  go_enter Tryz.func33, Tryz.ntmps33
  go_wp2_with fail
  refine bodyPost_ret (results_dd_zero _ _ w.heap.size rfl (heap_two _ _ _)) rfl ?_
  refine ⟨?_, rfl⟩
  exact ((Below.refl _ _).alloc (Nat.le_refl _) _).alloc (by simp) _
end Go.Proofs.YtnmfmoimjkoieaaGreatDoor.rf

namespace Go.Proofs.YtnmfmoimjkoieaaGreatDoor.rf
open Go.RowKit Go.Proofs.YtnmfmoimjkoieaaGreatDoor.topPlain Go.Proofs.YtnmfmoimjkoieaaGreatDoor.topWalks Go.Proofs.YtnmfmoimjkoieaaGreatDoor.decPlain Go.Proofs.YtnmfmoimjkoieaaGreatDoor.rd

theorem heap_mid (w : World) (o1 o2 o3 : Obj) : (((w.alloc o1).alloc o2).alloc o3).heap[w.heap.size + 1]? = some o2 := by
  rw [Below.heap_alloc _ _ _ (by simp)]
  show ((w.heap.push o1).push o2)[w.heap.size + 1]? = some o2
  rw [Array.getElem?_push, if_pos (by simp)]
theorem heap_four (w : World) (o1 o2 o3 o4 : Obj) : ((((w.alloc o1).alloc o2).alloc o3).alloc o4).heap[w.heap.size]? = some o1 := by
  rw [Below.heap_alloc _ _ _ (by simp; omega)]; exact heap_three _ _ _ _
theorem heap_mid4 (w : World) (o1 o2 o3 o4 : Obj) : ((((w.alloc o1).alloc o2).alloc o3).alloc o4).heap[w.heap.size + 1]? = some o2 := by
  rw [Below.heap_alloc _ _ _ (by simp)]; exact heap_mid _ _ _ _
end Go.Proofs.YtnmfmoimjkoieaaGreatDoor.rf

namespace Go.Proofs.YtnmfmoimjkoieaaGreatDoor.rf
open Go.RowKit Go.Proofs.YtnmfmoimjkoieaaGreatDoor.topPlain Go.Proofs.YtnmfmoimjkoieaaGreatDoor.topWalks Go.Proofs.YtnmfmoimjkoieaaGreatDoor.decPlain Go.Proofs.YtnmfmoimjkoieaaGreatDoor.rd

def dropSeq : Nat → Code → Code
  | 0, c => c
  | n + 1, .seq _ c => dropSeq n c
  | _, c => c

theorem heap_last4 (w : World) (o1 o2 o3 o4 : Obj) : ((((w.alloc o1).alloc o2).alloc o3).alloc o4).heap[w.heap.size + 1 + 1 + 1]? = some o4 := by
  show ((((w.heap.push o1).push o2).push o3).push o4)[w.heap.size + 1 + 1 + 1]? = some o4
  rw [Array.getElem?_push, if_pos (by simp)]
theorem pkIs_setCells {w : World} {b : Nat} {p q : Pkt} (h : w.heap[b]? = some (.cells (pkCells p) 36)) : PkIs (w.setCells b 0 (pkCells q).toList) b q := by
  have hp := pkIs_heap h
  have hs : ∀ j, j < (pkCells q).toList.length → (w.cell? ⟨b, 0 + j, none⟩).isSome = true := fun j hj => by
    have hj : j < 15 := hj
    rcases (by omega : j = 0 ∨ j = 1 ∨ j = 2 ∨ j = 3 ∨ j = 4 ∨ j = 5 ∨ j = 6 ∨ j = 7 ∨ j = 8 ∨ j = 9 ∨ j = 10 ∨ j = 11 ∨ j = 12 ∨ j = 13 ∨ j = 14) with rfl | rfl | rfl | rfl | rfl | rfl | rfl | rfl | rfl | rfl | rfl | rfl | rfl | rfl | rfl
    · simp [hp.c0]
    · simp [hp.c1]
    · simp [hp.c2]
    · simp [hp.c3]
    · simp [hp.c4]
    · simp [hp.c5]
    · simp [hp.c6]
    · simp [hp.c7]
    · simp [hp.c8]
    · simp [hp.c9]
    · simp [hp.c10]
    · simp [hp.c11]
    · simp [hp.c12]
    · simp [hp.c13]
    · simp [hp.c14]
  have hc := World.cell?_setCells_in b (pkCells q).toList 0 w hs
  exact ⟨fun i => (World.frozen?_setCells b _ 0 w _).trans (hp.fz i), hc 0 (show 0 < 15 by decide), hc 1 (show 1 < 15 by decide), hc 2 (show 2 < 15 by decide), hc 3 (show 3 < 15 by decide), hc 4 (show 4 < 15 by decide), hc 5 (show 5 < 15 by decide), hc 6 (show 6 < 15 by decide), hc 7 (show 7 < 15 by decide), hc 8 (show 8 < 15 by decide), hc 9 (show 9 < 15 by decide), hc 10 (show 10 < 15 by decide), hc 11 (show 11 < 15 by decide), hc 12 (show 12 < 15 by decide), hc 13 (show 13 < 15 by decide), hc 14 (show 14 < 15 by decide)⟩
theorem pkIs_set15 {w : World} {b : Nat} {p : Pkt} (kq : Int) (clq wq : Bool) (keq : Int) (ciq : List UInt8) (prq : Bool) (coq : Int) (duq : Bool) (qoq : Int) (req : Bool) (toq paq : List UInt8) (idq : Int) (pf pc : Option Addr) (nf cf nc cc : Nat) (h : w.heap[b]? = some (.cells (pkCells p) 36)) : PkIs (((((((((((((((w.setCell ⟨b, 0, none⟩ (.int .i64 kq)).setCell ⟨b, 1, none⟩ (.bool clq)).setCell ⟨b, 2, none⟩ (.bool wq)).setCell ⟨b, 3, none⟩ (.int .i64 keq)).setCell ⟨b, 4, none⟩ (.string (bs ciq))).setCell ⟨b, 5, none⟩ (.bool prq)).setCell ⟨b, 6, none⟩ (.int .i64 coq)).setCell ⟨b, 7, none⟩ (.bool duq)).setCell ⟨b, 8, none⟩ (.int .i64 qoq)).setCell ⟨b, 9, none⟩ (.bool req)).setCell ⟨b, 10, none⟩ (.string (bs toq))).setCell ⟨b, 11, none⟩ (.string (bs paq))).setCell ⟨b, 12, none⟩ (.int .i64 idq)).setCell ⟨b, 13, none⟩ (.slice pf nf cf)).setCell ⟨b, 14, none⟩ (.slice pc nc cc)) b ⟨kq, clq, wq, keq, ciq, prq, coq, duq, qoq, req, toq, paq, idq, .slice pf nf cf, .slice pc nc cc⟩ := by
  have hs := pkIs_setCells (q := ⟨kq, clq, wq, keq, ciq, prq, coq, duq, qoq, req, toq, paq, idq, .slice pf nf cf, .slice pc nc cc⟩) h
  simpa only [pkCells, World.setCells, Nat.zero_add, Nat.reduceAdd] using hs
theorem gen_end {P : World → Prop} {w w' : World} {o : Option Nat} {bq C : Nat} {pf pc : Option Addr} {nf cf nc cc : Nat} {fs : List (List UInt8 × Int)} {cs : List Int} {q : Pkt} (h : w.grownBy w' o) (h1 : w'.ownsRow C 95 2 (.slice pf nf cf) fs.length (filC fs)) (h2 : w'.ownsRow C 3 1 (.slice pc nc cc) cs.length (ints cs)) (h3 : PkIs w' bq q)
    (k : ∀ w6, w.grownBy w6 o → w6.ownsRow C 95 2 (.slice pf nf cf) fs.length (filC fs) → w6.ownsRow C 3 1 (.slice pc nc cc) cs.length (ints cs) → PkIs w6 bq q → P w6) : P w' := k _ h h1 h2 h3

set_option maxHeartbeats 3200000 in
set_option maxRecDepth 100000 in
theorem dd_end_n (w w6 : World) (R : Bool ⊕ ((Pkt × List (List UInt8 × Int) × List Int) × Nat)) (hR : R = .inl false) (hB : Below w.heap.size w w6) (hz : w6.heap[w.heap.size]? = some (.cells (pkCells zeroP) 36)) (hn : w6.heap[w.heap.size + 1]? = some (.cells (pkCells zeroP) 36)) (u0 u1 u3 u4 u6 u7 u8 u9 u10 u11 u13 u14 u15 u16 u17 u18 u19 u20 u21 u22 u23 u24 u25 u26 u27 u28 u29 u30 u31 u32 u33 u34 u35 u36 u37 u38 u39 u40 u41 u42 u43 u44 u45 u46 u47 u48 u49 u50 u51 u52 u53 u54 u55 u56 u57 u58 u59 u60 u61 u62 u63 u64 u65 u66 u67 u68 u69 u70 u71 u72 u73 u74 u75 u76 u77 u78 u79 u80 u81 u82 u83 u84 u85 u86 u87 u88 u89 u90 u91 u92 u93 u94 u95 u96 u97 u98 u99 u100 u101 u102 u103 u104 u105 u106 u107 u108 u109 u110 u111 u112 u113 u114 u115 u116 u117 u118 u119 u120 u121 u122 u123 u124 u125 u126 u127 u128 u129 u130 u131 u132 u133 u134 u135 u136 u137 u138 u139 u140 u141 : Value) :
    Code.wp Tryz.prog (dropSeq 15 (Tryz.f33.body.getD .skip)) (bodyPost Tryz.prog Tryz.f33 (CdPost w R)) ⟨#[u0, u1, .pointer (some ⟨w.heap.size, 0, none⟩), u3, u4, .pointer (some ⟨w.heap.size + 1, 0, none⟩), u6, u7, u8, u9, u10, u11, .bool false, u13, u14, u15, u16, u17, u18, u19, u20, u21, u22, u23, u24, u25, u26, u27, u28, u29, u30, u31, u32, u33, u34, u35, u36, u37, u38, u39, u40, u41, u42, u43, u44, u45, u46, u47, u48, u49, u50, u51, u52, u53, u54, u55, u56, u57, u58, u59, u60, u61, u62, u63, u64, u65, u66, u67, u68, u69, u70, u71, u72, u73, u74, u75, u76, u77, u78, u79, u80, u81, u82, u83, u84, u85, u86, u87, u88, u89, u90, u91, u92, u93, u94, u95, u96, u97, u98, u99, u100, u101, u102, u103, u104, u105, u106, u107, u108, u109, u110, u111, u112, u113, u114, u115, u116, u117, u118, u119, u120, u121, u122, u123, u124, u125, u126, u127, u128, u129, u130, u131, u132, u133, u134, u135, u136, u137, u138, u139, u140, u141], []⟩ w6 := by
  have HR := hide hR
  have HB := hide hB
  have hlt : w.heap.size < w6.heap.size := (Array.getElem?_eq_some_iff.1 hz).1
  obtain ⟨z0, z1, z2, z3, z4, z5, z6, z7, z8, z9, z10, z11, z12, z13, z14⟩ := zero_cells hz
  obtain ⟨y0, y1, y2, y3, y4, y5, y6, y7, y8, y9, y10, y11, y12, y13, y14⟩ := zero_thawed hz
  obtain ⟨x0, x1, x2, x3, x4, x5, x6, x7, x8, x9, x10, x11, x12, x13, x14⟩ := zero_cells hn
  have HZ := hide (World.cell?_setCells_in w.heap.size [.int .i64 0, .bool false, .bool false, .int .i64 0, .string ⟨#[]⟩, .bool false, .int .i64 0, .bool false, .int .i64 0, .bool false, .string ⟨#[]⟩, .string ⟨#[]⟩, .int .i64 0, .slice none 0 0, .slice none 0 0] 0 w6 (fun j hj => zero_some2 hz j hj))
  clear hR hB hz hn
  conv => arg 2; whnf
  go_wp2_with fail
  refine bodyPost_ret (results_dd _ _ w.heap.size _ _ _ _ _ _ _ _ _ _ _ _ _ _ _ rfl (HZ.out 0 (show 0 < 15 by decide)) (HZ.out 1 (show 1 < 15 by decide)) (HZ.out 2 (show 2 < 15 by decide)) (HZ.out 3 (show 3 < 15 by decide)) (HZ.out 4 (show 4 < 15 by decide)) (HZ.out 5 (show 5 < 15 by decide)) (HZ.out 6 (show 6 < 15 by decide)) (HZ.out 7 (show 7 < 15 by decide)) (HZ.out 8 (show 8 < 15 by decide)) (HZ.out 9 (show 9 < 15 by decide)) (HZ.out 10 (show 10 < 15 by decide)) (HZ.out 11 (show 11 < 15 by decide)) (HZ.out 12 (show 12 < 15 by decide)) (HZ.out 13 (show 13 < 15 by decide)) (HZ.out 14 (show 14 < 15 by decide))) rfl ?_
  rw [HR.out]
  refine ⟨HB.out.trans (below_grown (br := w.heap.size) ?_ (Nat.le_refl _) (by omega)), rfl⟩
  repeat with_reducible refine grown_trans ?_ (grown_set _ _ _ _)
  exact grown_refl _ _

set_option maxHeartbeats 3200000 in
set_option maxRecDepth 100000 in
theorem dd_end_s (w w6 : World) (R : Bool ⊕ ((Pkt × List (List UInt8 × Int) × List Int) × Nat)) (A M bq C : Nat) (hA : A ≤ 3) (hM : M ≤ 300) (kq : Int) (clq wq : Bool) (keq : Int) (ciq : List UInt8) (prq : Bool) (coq : Int) (duq : Bool) (qoq : Int) (req : Bool) (toq paq : List UInt8) (idq : Int) (fq cq : Value) (pf pc : Option Addr) (nf cf nc cc : Nat) (fs : List (List UInt8 × Int)) (cs : List Int)
    (hR : R = .inr ((⟨kq, clq, wq, keq, ciq, prq, coq, duq, qoq, req, toq, paq, idq, fq, cq⟩, fs, cs), A + M)) (hB : Below w.heap.size w w6) (hz : w6.heap[w.heap.size]? = some (.cells (pkCells zeroP) 36)) (hC : w.heap.size < C) (hO1 : w6.ownsRow C 95 2 (.slice pf nf cf) fs.length (filC fs)) (hO2 : w6.ownsRow C 3 1 (.slice pc nc cc) cs.length (ints cs))
    (hQ : PkIs w6 bq ⟨kq, clq, wq, keq, ciq, prq, coq, duq, qoq, req, toq, paq, idq, .slice pf nf cf, .slice pc nc cc⟩) (hbq : bq ≠ w.heap.size) (u0 u1 u3 u4 u5 u6 u7 u8 u13 u14 u15 u16 u17 u18 u19 u20 u21 u22 u23 u24 u25 u26 u27 u28 u29 u30 u31 u32 u33 u34 u35 u36 u37 u38 u39 u40 u41 u42 u43 u44 u45 u46 u47 u48 u49 u50 u51 u52 u53 u54 u55 u56 u57 u58 u59 u60 u61 u62 u63 u64 u65 u66 u67 u68 u69 u70 u71 u72 u73 u74 u75 u76 u77 u78 u79 u80 u81 u82 u83 u84 u85 u86 u87 u88 u89 u90 u91 u92 u93 u94 u95 u96 u97 u98 u99 u100 u101 u102 u103 u104 u105 u106 u107 u108 u109 u110 u111 u112 u113 u114 u115 u116 u117 u118 u119 u120 u121 u122 u123 u124 u125 u126 u127 u128 u129 u130 u131 u132 u133 u134 u135 u136 u137 u138 u139 u140 u141 : Value) :
    Code.wp Tryz.prog (dropSeq 15 (Tryz.f33.body.getD .skip)) (bodyPost Tryz.prog Tryz.f33 (CdPost w R)) ⟨#[u0, u1, .pointer (some ⟨w.heap.size, 0, none⟩), u3, u4, u5, u6, u7, u8, .int .i64 (M : Int), .int .i64 (A : Int), .pointer (some ⟨bq, 0, none⟩), .bool true, u13, u14, u15, u16, u17, u18, u19, u20, u21, u22, u23, u24, u25, u26, u27, u28, u29, u30, u31, u32, u33, u34, u35, u36, u37, u38, u39, u40, u41, u42, u43, u44, u45, u46, u47, u48, u49, u50, u51, u52, u53, u54, u55, u56, u57, u58, u59, u60, u61, u62, u63, u64, u65, u66, u67, u68, u69, u70, u71, u72, u73, u74, u75, u76, u77, u78, u79, u80, u81, u82, u83, u84, u85, u86, u87, u88, u89, u90, u91, u92, u93, u94, u95, u96, u97, u98, u99, u100, u101, u102, u103, u104, u105, u106, u107, u108, u109, u110, u111, u112, u113, u114, u115, u116, u117, u118, u119, u120, u121, u122, u123, u124, u125, u126, u127, u128, u129, u130, u131, u132, u133, u134, u135, u136, u137, u138, u139, u140, u141], []⟩ w6 := by
  have _ := hbq
  have HR := hide hR
  have HFI := hide (show ∀ wF, w6.grownBy wF (some w.heap.size) → CdPost w (.inr ((⟨kq, clq, wq, keq, ciq, prq, coq, duq, qoq, req, toq, paq, idq, fq, cq⟩, fs, cs), A + M)) (.returned (.tuple #[.agg (pkCells ⟨kq, clq, wq, keq, ciq, prq, coq, duq, qoq, req, toq, paq, idq, .slice pf nf cf, .slice pc nc cc⟩), .int .i64 ((A : Int) + (M : Int)), .int .i64 0])) wF from fun wF hg =>
    ⟨hB.trans (below_grown hg (Nat.le_refl _) (Nat.le_of_lt (Array.getElem?_eq_some_iff.1 hz).1)), _, _, (by rw [show (((A + M : Nat)) : Int) = A + M by omega]), own_less (own_keep hO1 hC hg) (by omega), own_less (own_keep hO2 hC hg) (by omega)⟩)
  have hlt : w.heap.size < w6.heap.size := (Array.getElem?_eq_some_iff.1 hz).1
  obtain ⟨z0, z1, z2, z3, z4, z5, z6, z7, z8, z9, z10, z11, z12, z13, z14⟩ := zero_cells hz
  obtain ⟨y0, y1, y2, y3, y4, y5, y6, y7, y8, y9, y10, y11, y12, y13, y14⟩ := zero_thawed hz
  have p0 := hQ.c0; have p1 := hQ.c1; have p2 := hQ.c2; have p3 := hQ.c3; have p4 := hQ.c4; have p5 := hQ.c5; have p6 := hQ.c6; have p7 := hQ.c7; have p8 := hQ.c8; have p9 := hQ.c9; have p10 := hQ.c10; have p11 := hQ.c11; have p12 := hQ.c12; have p13 := hQ.c13; have p14 := hQ.c14
  simp only at p0 p1 p2 p3 p4 p5 p6 p7 p8 p9 p10 p11 p12 p13 p14
  have HZ := hide (World.cell?_setCells_in w.heap.size [.int .i64 kq, .bool clq, .bool wq, .int .i64 keq, .string (bs ciq), .bool prq, .int .i64 coq, .bool duq, .int .i64 qoq, .bool req, .string (bs toq), .string (bs paq), .int .i64 idq, .slice pf nf cf, .slice pc nc cc] 0 w6 (fun j hj => zero_some2 hz j hj))
  clear hR hB hz hO1 hO2 hQ hC
  conv => arg 2; whnf
  go_wp2_with fail
  refine bodyPost_ret (results_dd _ _ w.heap.size _ _ _ _ _ _ _ _ _ _ _ _ _ _ _ rfl (HZ.out 0 (show 0 < 15 by decide)) (HZ.out 1 (show 1 < 15 by decide)) (HZ.out 2 (show 2 < 15 by decide)) (HZ.out 3 (show 3 < 15 by decide)) (HZ.out 4 (show 4 < 15 by decide)) (HZ.out 5 (show 5 < 15 by decide)) (HZ.out 6 (show 6 < 15 by decide)) (HZ.out 7 (show 7 < 15 by decide)) (HZ.out 8 (show 8 < 15 by decide)) (HZ.out 9 (show 9 < 15 by decide)) (HZ.out 10 (show 10 < 15 by decide)) (HZ.out 11 (show 11 < 15 by decide)) (HZ.out 12 (show 12 < 15 by decide)) (HZ.out 13 (show 13 < 15 by decide)) (HZ.out 14 (show 14 < 15 by decide))) rfl ?_
  rw [HR.out]
  refine HFI.out _ ?_
  repeat with_reducible refine grown_trans ?_ (grown_set _ _ _ _)
  exact grown_refl _ _
end Go.Proofs.YtnmfmoimjkoieaaGreatDoor.rf

namespace Go.Proofs.YtnmfmoimjkoieaaGreatDoor.rf
open Go.RowKit Go.Proofs.YtnmfmoimjkoieaaGreatDoor.topPlain Go.Proofs.YtnmfmoimjkoieaaGreatDoor.topWalks Go.Proofs.YtnmfmoimjkoieaaGreatDoor.decPlain Go.Proofs.YtnmfmoimjkoieaaGreatDoor.rd

def cutSeq : Nat → Code → Code
  | 0, c => c
  | n + 1, .seq a c => .seq a (cutSeq n c)
  | _, c => c
theorem cutSeq_eq : ∀ (n : Nat) (c : Code), cutSeq n c = c
  | 0, _ => by simp [cutSeq]
  | n + 1, c => by
    cases c with
    | seq a b => rw [cutSeq, cutSeq_eq n b]
    | _ => simp [cutSeq]
theorem cut_body {P : Program} {Q : Exit → Act → World → Prop} {a : Act} {w : World} (n : Nat) (c : Code) (h : Code.wp P (cutSeq n c) Q a w) : Code.wp P c Q a w := by
  rw [cutSeq_eq] at h
  exact h
end Go.Proofs.YtnmfmoimjkoieaaGreatDoor.rf
