import Derived.Test.YtnmfmoimjkoieaaGreatDoorJ21
import Derived.Test.YtnmfmoimjkoieaaGreatDoorJ09
import Derived.StillTailTactics
/- The writer of package packets: codes, filters, PUBLISH, CONNECT, the body of any packet. -/
namespace Go.Proofs.YtnmfmoimjkoieaaGreatDoor.ew
open Go.RowKit Go.Proofs.YtnmfmoimjkoieaaGreatDoor.topPlain Go.Proofs.YtnmfmoimjkoieaaGreatDoor.topWalks Go.Proofs.YtnmfmoimjkoieaaGreatDoor.decPlain Go.Proofs.YtnmfmoimjkoieaaGreatDoor.encPlain
open Go.Proofs.YtnmfmoimjkoieaaGreatDoor.rd (pkCells)

/-- filters, and numbers, as they lie in memory, below block B -/
def FilB (B : Nat) (w : World) (v : Value) (fs : List (List UInt8 × Int)) : Prop := ∃ q cap, v = .slice q fs.length cap ∧ fs.length ≤ maxLen ∧ ∀ (j : Nat) f, fs[j]? = some f → ∃ g, q = some ⟨g, 0, none⟩ ∧ g < B ∧ w.cell? ⟨g, j * 2, none⟩ = some (.string (bs f.1)) ∧ w.cell? ⟨g, j * 2 + 1, none⟩ = some (.int .i64 f.2)
def IntB (B : Nat) (w : World) (v : Value) (cs : List Int) : Prop := ∃ q cap, v = .slice q cs.length cap ∧ cs.length ≤ maxLen ∧ ∀ (j : Nat) c, cs[j]? = some c → ∃ g, q = some ⟨g, 0, none⟩ ∧ g < B ∧ w.cell? ⟨g, j, none⟩ = some (.int .i64 c)
theorem Ws.lt {bw C : Nat} {w : World} {st : Option (List UInt8)} (h : Ws bw C w st) : bw < C ∧ C ≤ w.heap.size := by
  cases st with
  | none => obtain ⟨v, l, h⟩ := h; exact ⟨h.lt, h.sz⟩
  | some l => obtain ⟨v, h⟩ := h; exact ⟨h.lt, h.sz⟩
theorem Ws.cell {bw C : Nat} {w w' : World} {st : Option (List UInt8)} (h : Ws bw C w st) (k : Kp bw w w') {g : Nat} (hg : g < bw) (i : Nat) : w'.cell? ⟨g, i, none⟩ = w.cell? ⟨g, i, none⟩ := by
  have hl := h.lt
  exact World.cell?_of_block (w := w) (k.keep g (by omega) (by omega) (h.row_lt (Or.inl (by omega)))).2

/-- a packet in a block of its own beside the writer -/
theorem Ws.beside {bw C : Nat} {w : World} {st : Option (List UInt8)} (h : Ws bw C w st) (o : Obj) : Ws bw C (w.alloc o) st ∧ Kp bw w (w.alloc o) ∧ rowOf bw (w.alloc o) ≠ some w.heap.size := by
  have hg := h.grow ((Below.refl _ _).alloc (Nat.le_refl _) o)
  refine ⟨hg.1, hg.2, ?_⟩
  have hlt := h.lt
  have : rowOf bw (w.alloc o) = rowOf bw w := by
    unfold rowOf
    rw [(show Below w.heap.size w (w.alloc o) from (Below.refl _ _).alloc (Nat.le_refl _) o).cell (show (⟨bw, 0, none⟩ : Addr).block < w.heap.size by simp; omega)]
  rw [this]
  exact h.row_lt (Or.inr (Nat.le_refl _))
theorem Kp.pk {bw np : Nat} {w w' : World} (k : Kp bw w w') (h1 : np ≠ bw) (h2 : np < w.heap.size) (h3 : rowOf bw w ≠ some np) : rowOf bw w' ≠ some np ∧ (∀ i, w'.cell? ⟨np, i, none⟩ = w.cell? ⟨np, i, none⟩) :=
  ⟨(k.keep np h1 h2 h3).1, fun _ => World.cell?_of_block (w := w) (k.keep np h1 h2 h3).2⟩
theorem map_take {cs : List Int} {k : Nat} {c : Int} (h : cs[k]? = some c) : (cs.take (k + 1)).map byt8 = (cs.take k).map byt8 ++ [byt8 c] := by
  rw [List.take_add_one, h]; simp
set_option maxHeartbeats 1600000 in
set_option maxRecDepth 100000 in
theorem codes_any (bw C : Nat) (p : Pkt) (cs : List Int) (w : World) (st : Option (List UInt8)) (h : Ws bw C w st) (hc : IntB bw w p.cv cs) :
    Calls Tryz.prog 118 #[.pointer (some ⟨bw, 0, none⟩), .agg (pkCells p)] w fun e w' => e = .returned (.tuple #[]) ∧ Ws bw C w' (wr (twoW p.id ++ cs.map byt8) st) ∧ Kp bw w w' := by
  obtain ⟨q, cap, hcv, hlen, hcell⟩ := hc
  have HC := hide hcell
  have HS0 := hide h
  have c1 := hide fun w h => number_any bw C p.id w st h
  have c2 := hide fun n w st h => octet_any bw C n w st h
  unfold maxLen at hlen
  obtain ⟨kind, clean, will, keep, client, present, code, dup, qos, retain, topic, payload, id, fv, cv⟩ := p
  simp only at hcv c1 ⊢
  subst hcv
  simp only [pkCells]
  have HB := hide (fun o => h.beside o)
  have hlt := h.lt
  clear h hcell
  go_enter Tryz.func118, Tryz.ntmps118
  go_wp2_with fail
  refine (unhide c1 _ (HB.out _).1).mono ?_
  rintro e w1 ⟨rfl, hS, hK⟩
  have HS := hide hS
  have HK := hide ((HB.out _).2.1.trans hK)
  have hcp := hK.pk (np := w.heap.size) (by omega) (by simp) (HB.out _).2.2
  have k14 := hcp.2 14
  simp [go_sem] at k14
  clear hS hK hcp
  go_wp2_with fail
  go_loopw [13] (fun i wx => ∃ (k : Nat), k ≤ cs.length ∧ i = .int .i64 k ∧ Ws bw C wx (wr (twoW id ++ (cs.take k).map byt8) st) ∧ Kp bw w wx) (fun i _ => cs.length - (intOf i).toNat)
  case atStart => exact ⟨0, Nat.zero_le _, rfl, by simpa using HS.out, HK.out⟩
  case round =>
    obtain ⟨k, hk, rfl, hS, hK⟩ := hrel
    have HSk := hide hS
    have HKk := hide hK
    clear hS hK
    by_cases hltk : k < cs.length
    · obtain ⟨c, hcc⟩ : ∃ c, cs[k]? = some c := ⟨_, List.getElem?_eq_getElem hltk⟩
      obtain ⟨g, rfl, hg1, hg2⟩ := HC.out k c hcc
      have hg3 : wr.cell? ⟨g, k, none⟩ = some (.int .i64 c) := by rw [HS0.out.cell HKk.out hg1]; exact hg2
      have HCC := hide hcc
      clear hcc
      go_wp2_with fail
      refine (unhide c2 _ _ _ HSk.out).mono ?_
      rintro e w2 ⟨rfl, hS, hK⟩
      have HS2 := hide hS
      have HK2 := hide (HKk.out.trans hK)
      clear hS hK
      go_wp2
      go_roundw
      case rel => exact ⟨k + 1, by omega, by go_num, by rw [map_take HCC.out, ← List.append_assoc, ← ew.wr_wr]; exact HS2.out, HK2.out⟩
      case measure => simp [intOf]; omega
    · go_wp2
      go_end0
      have : cs.take k = cs := List.take_of_length_le (by omega)
      exact ⟨rfl, by have h := HSk.out; rw [this] at h; exact h, HKk.out⟩

theorem flat_take {k8 : Bool} {fs : List (List UInt8 × Int)} {k : Nat} {f : List UInt8 × Int} (h : fs[k]? = some f) : (fs.take (k + 1)).flatMap (filW k8) = (fs.take k).flatMap (filW k8) ++ filW k8 f := by
  rw [List.take_add_one, h]; simp
set_option maxHeartbeats 1600000 in
set_option maxRecDepth 100000 in
theorem filters_any (bw C : Nat) (p : Pkt) (fs : List (List UInt8 × Int)) (w : World) (st : Option (List UInt8)) (h : Ws bw C w st) (hc : FilB bw w p.fv fs) :
    Calls Tryz.prog 117 #[.pointer (some ⟨bw, 0, none⟩), .agg (pkCells p)] w fun e w' => e = .returned (.tuple #[]) ∧ Ws bw C w' (ew.wr (twoW p.id ++ fs.flatMap (filW (p.kind == 8))) st) ∧ Kp bw w w' := by
  obtain ⟨q, cap, hcv, hlen, hcell⟩ := hc
  have HC := hide hcell
  have HS0 := hide h
  have c1 := hide fun w h => number_any bw C p.id w st h
  have c2 := hide fun n w st h => octet_any bw C n w st h
  have c3 := hide fun n w st h => text_any bw C n w st h
  unfold maxLen at hlen
  obtain ⟨kind, clean, will, keep, client, present, code, dup, qos, retain, topic, payload, id, fv, cv⟩ := p
  simp only at hcv c1 ⊢
  subst hcv
  simp only [pkCells]
  have HB := hide (fun o => h.beside o)
  have hlt := h.lt
  clear h hcell
  go_enter Tryz.func117, Tryz.ntmps117
  go_wp2_with fail
  refine (unhide c1 _ (HB.out _).1).mono ?_
  rintro e w1 ⟨rfl, hS, hK⟩
  have HS := hide hS
  have HK := hide ((HB.out _).2.1.trans hK)
  have hcp := hK.pk (np := w.heap.size) (by omega) (by simp) (HB.out _).2.2
  have hrow := hide hcp.1
  have k13 := hcp.2 13
  have k0 := hcp.2 0
  simp [go_sem] at k13 k0
  clear hcp
  have hsz1 := hK.size
  have HK1 := hide (Kp.refl bw w1)
  clear hS hK
  go_wp2_with fail
  go_loopw [13] (fun i wx => ∃ (k : Nat), k ≤ fs.length ∧ i = .int .i64 k ∧ Ws bw C wx (ew.wr (twoW id ++ (fs.take k).flatMap (filW (kind == 8))) st) ∧ Kp bw w wx ∧ Kp bw w1 wx) (fun i _ => fs.length - (intOf i).toNat)
  case atStart => exact ⟨0, Nat.zero_le _, rfl, by simpa using HS.out, HK.out, HK1.out⟩
  case round =>
    obtain ⟨k, hk, rfl, hS, hK, hK1⟩ := hrel
    have HSk := hide hS
    have HKk := hide hK
    have HK1k := hide hK1
    have hk0 : wr.cell? ⟨w.heap.size, 0, none⟩ = some (.int .i64 kind) := by rw [(hK1.pk (by omega) (by simp at hsz1; omega) hrow.out).2 0]; exact k0
    have HRk := hide ((hK1.pk (by omega) (by simp at hsz1; omega) hrow.out).1)
    have hszk := hK1.size
    clear hS hK hK1
    by_cases hltk : k < fs.length
    · obtain ⟨c, hcc⟩ : ∃ c, fs[k]? = some c := ⟨_, List.getElem?_eq_getElem hltk⟩
      obtain ⟨g, rfl, hg1, hg2, hg4⟩ := HC.out k c hcc
      have hg3 : wr.cell? ⟨g, k * 2, none⟩ = some (.string (bs c.1)) := by rw [HS0.out.cell HKk.out hg1]; exact hg2
      have hg5 : wr.cell? ⟨g, k * 2 + 1, none⟩ = some (.int .i64 c.2) := by rw [HS0.out.cell HKk.out hg1]; exact hg4
      have HCC := hide hcc
      clear hcc hg2 hg4
      have HBk := hide (fun o => HSk.out.beside o)
      have HA : Hid (Below wr.heap.size wr (wr.alloc (.cells #[.string (bs c.1), .int .i64 c.2] 95))) := (Below.refl _ _).alloc (Nat.le_refl _) _
      by_cases h8 : kind = 8
      · have h8b : (kind == 8) = true := beq_iff_eq.2 h8
        clear h8
        go_wp2_with fail
        refine (unhide c3 _ _ _ (HBk.out _).1).mono ?_
        rintro e w2 ⟨rfl, hS, hK⟩
        have hf := hK.pk (np := wr.heap.size) (by have := HSk.out.lt; omega) (by simp) (HBk.out _).2.2
        have k1 := hf.2 1
        simp [go_sem] at k1
        have HS2 := hide hS
        have HK2 := hide (HKk.out.trans ((HBk.out _).2.1.trans hK))
        have HK12 := hide (HK1k.out.trans ((HBk.out _).2.1.trans hK))
        have hk02 : w2.cell? ⟨w.heap.size, 0, none⟩ = some (.int .i64 kind) := by rw [(HK12.out.pk (by omega) (by simp at hsz1; omega) hrow.out).2 0]; exact k0
        clear hS hK hf
        go_wp2_with fail
        refine (unhide c2 _ _ _ HS2.out).mono ?_
        rintro e w3 ⟨rfl, hS, hK⟩
        have HS3 := hide hS
        have HK3 := hide (HK2.out.trans hK)
        have HK13 := hide (HK12.out.trans hK)
        clear hS hK
        go_wp2
        go_roundw
        case rel =>
          refine ⟨k + 1, by omega, by go_num, ?_, HK3.out, HK13.out⟩
          rw [flat_take HCC.out, ← List.append_assoc, ← ew.wr_wr]
          have h := HS3.out
          rw [ew.wr_wr] at h
          rw [h8b] at h ⊢
          exact h
        case measure => simp [intOf]; omega
      · have h8b : (kind == 8) = false := beq_eq_false_iff_ne.2 h8
        go_wp2_with fail
        refine (unhide c3 _ _ _ (HBk.out _).1).mono ?_
        rintro e w2 ⟨rfl, hS, hK⟩
        have HS2 := hide hS
        have HK2 := hide (HKk.out.trans ((HBk.out _).2.1.trans hK))
        have HK12 := hide (HK1k.out.trans ((HBk.out _).2.1.trans hK))
        have hk02 : w2.cell? ⟨w.heap.size, 0, none⟩ = some (.int .i64 kind) := by rw [(HK12.out.pk (by omega) (by simp at hsz1; omega) hrow.out).2 0]; exact k0
        clear hS hK
        go_wp2
        go_roundw
        case rel =>
          refine ⟨k + 1, by omega, by go_num, ?_, HK2.out, HK12.out⟩
          rw [flat_take HCC.out, ← List.append_assoc, ← ew.wr_wr]
          have h := HS2.out
          rw [h8b] at h ⊢
          simpa [filW, data_bs] using h
        case measure => simp [intOf]; omega
    · go_wp2
      go_end0
      have : fs.take k = fs := List.take_of_length_le (by omega)
      exact ⟨rfl, by have h := HSk.out; rw [this] at h; exact h, HKk.out⟩

set_option maxHeartbeats 1600000 in
set_option maxRecDepth 100000 in
theorem publish_any (bw C : Nat) (p : Pkt) (w : World) (st : Option (List UInt8)) (h : Ws bw C w st) :
    Calls Tryz.prog 115 #[.pointer (some ⟨bw, 0, none⟩), .agg (pkCells p)] w fun e w' => e = .returned (.tuple #[]) ∧ Ws bw C w' (ew.wr (txtW p.topic ++ (if 0 < p.qos then twoW p.id else []) ++ p.payload) st) ∧ Kp bw w w' := by
  have c1 := hide fun w st h => number_any bw C p.id w st h
  have c2 := hide fun w st h => bytes_any bw C (bs p.payload) w st h
  have c3 := hide fun w st h => text_any bw C (bs p.topic) w st h
  obtain ⟨kind, clean, will, keep, client, present, code, dup, qos, retain, topic, payload, id, fv, cv⟩ := p
  simp only [data_bs] at c1 c2 c3 ⊢
  simp only [pkCells]
  have HB := hide (fun o => h.beside o)
  have hlt := h.lt
  clear h
  by_cases hq : 0 < qos
  · rw [if_pos hq, ← ew.wr_wr, ← ew.wr_wr]
    go_enter Tryz.func115, Tryz.ntmps115
    go_wp2_with fail
    refine (unhide c3 _ _ (HB.out _).1).mono ?_
    rintro e w1 ⟨rfl, hS, hK⟩
    have HS := hide hS
    have hcp := hK.pk (np := w.heap.size) (by omega) (by simp) (HB.out _).2.2
    have HK := hide hK
    have hsz1 := hK.size
    have hrow := hide hcp.1
    have k8 := hcp.2 8
    have k12 := hcp.2 12
    have k11 := hcp.2 11
    simp [go_sem] at k8 k12 k11
    clear hcp hS hK
    go_wp2_with fail
    refine (unhide c1 _ _ HS.out).mono ?_
    rintro e w2 ⟨rfl, hS, hK⟩
    have HS2 := hide hS
    have HK2 := hide (HK.out.trans hK)
    have hcp := hK.pk (np := w.heap.size) (by omega) (by simp at hsz1; omega) hrow.out
    have j11 := hcp.2 11
    rw [k11] at j11
    clear hcp hS hK k8 k12 k11
    go_wp2_with fail
    refine (unhide c2 _ _ HS2.out).mono ?_
    rintro e w3 ⟨rfl, hS, hK⟩
    have HS3 := hide hS
    have HK3 := hide ((HB.out _).2.1.trans (HK2.out.trans hK))
    clear hS hK
    go_wp2
    go_end0
    exact ⟨rfl, HS3.out, HK3.out⟩
  · rw [if_neg hq, List.append_nil, ← ew.wr_wr]
    go_enter Tryz.func115, Tryz.ntmps115
    go_wp2_with fail
    refine (unhide c3 _ _ (HB.out _).1).mono ?_
    rintro e w1 ⟨rfl, hS, hK⟩
    have HS := hide hS
    have hcp := hK.pk (np := w.heap.size) (by omega) (by simp) (HB.out _).2.2
    have HK := hide hK
    have k8 := hcp.2 8
    have k11 := hcp.2 11
    simp [go_sem] at k8 k11
    clear hcp hS hK
    go_wp2_with fail
    refine (unhide c2 _ _ HS.out).mono ?_
    rintro e w3 ⟨rfl, hS, hK⟩
    have HS3 := hide hS
    have HK3 := hide ((HB.out _).2.1.trans (HK.out.trans hK))
    clear hS hK
    go_wp2
    go_end0
    exact ⟨rfl, HS3.out, HK3.out⟩
end Go.Proofs.YtnmfmoimjkoieaaGreatDoor.ew

/- The writer of package packets: CONNECT. -/
namespace Go.Proofs.YtnmfmoimjkoieaaGreatDoor.ew
open Go.RowKit Go.Proofs.YtnmfmoimjkoieaaGreatDoor.topPlain Go.Proofs.YtnmfmoimjkoieaaGreatDoor.topWalks Go.Proofs.YtnmfmoimjkoieaaGreatDoor.decPlain Go.Proofs.YtnmfmoimjkoieaaGreatDoor.encPlain
open Go.Proofs.YtnmfmoimjkoieaaGreatDoor.rd (pkCells)

theorem wp_region_tail {P : Program} {id : Nat} {Q : Exit → Act → World → Prop} {a : Act} {w : World} {l : List Oper} (n : Nat) (hm : P.follows .mixedOrders = true) (hB : Region.lexTailB .any l.toArray n = true)
    (h : wpStill P l.toArray w.drew (fun a' => wpList P l.toArray Q (l.drop n) a' w.drew) (l.take n) a) : (Code.region id l.toArray true).wp P Q a w := wp_region_still_tail n hm hB h

/-- the byte of bits as the program makes it -/
def cbI (p : Pkt) : Int := bits .or .i64 (bits .or .i64 (bits .or .i64 (wrap64 (p.qos * 8)) (bitI p.clean 2)) (bitI p.will 4)) (bitI p.retain 32)
def cbW (p : Pkt) : UInt8 := byt8 (cbI p)
theorem cb_all : ∀ (q : Fin 3) (c w r : Bool), byt8 (bits .or .i64 (bits .or .i64 (bits .or .i64 (wrap64 ((q.val : Int) * 8)) (bitI c 2)) (bitI w 4)) (bitI r 32)) = byt8 (bitI c 2 + bitI w 4 + 8 * (q.val : Int) + bitI r 32) := by decide +kernel
theorem cb_same {p : Pkt} (h : rangeB p) : cbW p = cbR p := by
  obtain ⟨_, _, h1, h2, _⟩ := h
  obtain ⟨n, hn⟩ := Int.eq_ofNat_of_zero_le h1
  have := cb_all ⟨n, by omega⟩ p.clean p.will p.retain
  unfold cbW cbI cbR
  rw [hn]
  exact this

set_option maxHeartbeats 1600000 in
set_option maxRecDepth 100000 in
theorem connect_any (bw C : Nat) (p : Pkt) (w : World) (st : Option (List UInt8)) (h : Ws bw C w st) :
    Calls Tryz.prog 112 #[.pointer (some ⟨bw, 0, none⟩), .agg (pkCells p)] w fun e w' => e = .returned (.tuple #[]) ∧ Ws bw C w' (wr (txtW [77, 81, 84, 84] ++ [byt8 4] ++ [cbW p] ++ twoW p.keep ++ txtW p.client ++ (if p.will then txtW p.topic ++ txtW p.payload else [])) st) ∧ Kp bw w w' := by
  have c0 := hide fun b n w => bit_any b n w
  have c1 := hide fun w st h => number_any bw C p.keep w st h
  have c2 := hide fun n w st h => octet_any bw C n w st h
  have c3 := hide fun s w st h => text_any bw C s w st h
  obtain ⟨kind, clean, will, keep, client, present, code, dup, qos, retain, topic, payload, id, fv, cv⟩ := p
  simp only [cbW, cbI] at c1 ⊢
  simp only [pkCells]
  have HB := hide (fun o => h.beside o)
  have hlt := h.lt
  clear h
  go_enter Tryz.func112, Tryz.ntmps112
  go_wp2_with fail
  refine (unhide c3 _ _ _ (HB.out _).1).mono ?_
  rintro e w1 ⟨rfl, hS, hK⟩
  have HS := hide hS
  have HK := hide hK
  clear hS hK
  go_wp2_with fail
  refine (unhide c2 _ _ _ HS.out).mono ?_
  rintro e w2 ⟨rfl, hS, hK⟩
  have HS2 := hide hS
  have HK2 := hide (HK.out.trans hK)
  have hcp := HK2.out.pk (np := w.heap.size) (by omega) (by simp) (HB.out _).2.2
  have k8 := hcp.2 8
  have k1 := hcp.2 1
  have k2 := hcp.2 2
  have k9 := hcp.2 9
  simp [go_sem] at k8 k1 k2 k9
  clear hS hK hcp
  go_wp2_with fail
  refine wp_region_tail 16 (by kernel_rfl) (by kernel_rfl) ?_
  simp only [List.take_succ_cons, List.take_zero, List.drop_succ_cons, List.drop_zero]
  repeat (first | still_step | still_call (unhide c0 _ _ _))
  refine wpStill_nil ?_
  have hG := HS2.out.grow (below_drewN (Below.refl _ _) 1)
  have HGS := hide hG.1
  have HGK := hide hG.2
  clear hG
  go_wp2_with fail
  refine (unhide c2 _ _ _ HGS.out).mono ?_
  rintro e w3 ⟨rfl, hS, hK⟩
  have HS3 := hide hS
  have HK3 := hide (HK2.out.trans (HGK.out.trans hK))
  have hcp := HK3.out.pk (np := w.heap.size) (by omega) (by simp) (HB.out _).2.2
  have j3 := hcp.2 3
  simp [go_sem] at j3
  clear hS hK hcp k8 k1 k2 k9
  go_wp2_with fail
  refine (unhide c1 _ _ HS3.out).mono ?_
  rintro e w4 ⟨rfl, hS, hK⟩
  have HS4 := hide hS
  have HK4 := hide (HK3.out.trans hK)
  have hcp := HK4.out.pk (np := w.heap.size) (by omega) (by simp) (HB.out _).2.2
  have j4 := hcp.2 4
  simp [go_sem] at j4
  clear hS hK hcp j3
  go_wp2_with fail
  refine (unhide c3 _ _ _ HS4.out).mono ?_
  rintro e w5 ⟨rfl, hS, hK⟩
  have HS5 := hide hS
  have HK5 := hide (HK4.out.trans hK)
  have hcp := HK5.out.pk (np := w.heap.size) (by omega) (by simp) (HB.out _).2.2
  have j2 := hcp.2 2
  have j10 := hcp.2 10
  simp [go_sem] at j2 j10
  clear hS hK hcp j4
  cases will with
  | false =>
    go_wp2
    go_end0
    refine ⟨rfl, ?_, (HB.out _).2.1.trans HK5.out⟩
    have h := HS5.out
    simp only [ew.wr_wr, data_bs] at h
    simpa using h
  | true =>
    go_wp2_with fail
    refine (unhide c3 _ _ _ HS5.out).mono ?_
    rintro e w6 ⟨rfl, hS, hK⟩
    have HS6 := hide hS
    have HK6 := hide (HK5.out.trans hK)
    have hcp := HK6.out.pk (np := w.heap.size) (by omega) (by simp) (HB.out _).2.2
    have j11 := hcp.2 11
    simp [go_sem] at j11
    clear hS hK hcp j2 j10
    go_wp2_with fail
    refine (unhide c3 _ _ _ HS6.out).mono ?_
    rintro e w7 ⟨rfl, hS, hK⟩
    have HS7 := hide hS
    have HK7 := hide (HK6.out.trans hK)
    clear hS hK j11
    go_wp2
    go_end0
    refine ⟨rfl, ?_, (HB.out _).2.1.trans HK7.out⟩
    have h := HS7.out
    simp only [ew.wr_wr, data_bs] at h
    simpa using h
end Go.Proofs.YtnmfmoimjkoieaaGreatDoor.ew

/- The writer of package packets: the body of any packet. -/
namespace Go.Proofs.YtnmfmoimjkoieaaGreatDoor.ew
open Go.RowKit Go.Proofs.YtnmfmoimjkoieaaGreatDoor.topPlain Go.Proofs.YtnmfmoimjkoieaaGreatDoor.topWalks Go.Proofs.YtnmfmoimjkoieaaGreatDoor.decPlain Go.Proofs.YtnmfmoimjkoieaaGreatDoor.encPlain
open Go.Proofs.YtnmfmoimjkoieaaGreatDoor.rd (pkCells)

theorem FilB.keep {B : Nat} {w w' : World} {v : Value} {fs : List (List UInt8 × Int)} (h : FilB B w v fs) (hc : ∀ g i, g < B → w'.cell? ⟨g, i, none⟩ = w.cell? ⟨g, i, none⟩) : FilB B w' v fs := by
  obtain ⟨q, cap, h1, h2, h3⟩ := h
  refine ⟨q, cap, h1, h2, fun j f hf => ?_⟩
  obtain ⟨g, e, hg, a, b⟩ := h3 j f hf
  exact ⟨g, e, hg, by rw [hc g _ hg]; exact a, by rw [hc g _ hg]; exact b⟩
theorem IntB.keep {B : Nat} {w w' : World} {v : Value} {cs : List Int} (h : IntB B w v cs) (hc : ∀ g i, g < B → w'.cell? ⟨g, i, none⟩ = w.cell? ⟨g, i, none⟩) : IntB B w' v cs := by
  obtain ⟨q, cap, h1, h2, h3⟩ := h
  refine ⟨q, cap, h1, h2, fun j f hf => ?_⟩
  obtain ⟨g, e, hg, a⟩ := h3 j f hf
  exact ⟨g, e, hg, by rw [hc g _ hg]; exact a⟩
theorem Ws.wr_nil {bw C : Nat} {w : World} {st : Option (List UInt8)} (h : Ws bw C w st) : wr [] st = st := by
  cases st with
  | none => rfl
  | some l =>
    obtain ⟨v, h⟩ := h
    have := h.le
    simp [wr, this]

set_option maxHeartbeats 1600000 in
set_option maxRecDepth 100000 in
theorem packet_any (bw C : Nat) (p : Pkt) (fs : List (List UInt8 × Int)) (cs : List Int) (w : World) (st : Option (List UInt8)) (h : Ws bw C w st) (hf : FilB bw w p.fv fs) (hc : IntB bw w p.cv cs) :
    Calls Tryz.prog 80 #[.pointer (some ⟨bw, 0, none⟩), .agg (pkCells p)] w fun e w' => e = .returned (.tuple #[]) ∧ Ws bw C w' (wr (bodyW (cbW p) p fs cs) st) ∧ Kp bw w w' := by
  have hN := h.wr_nil
  have HN := hide hN
  have hcell : ∀ o g i, g < bw → (w.alloc o).cell? ⟨g, i, none⟩ = w.cell? ⟨g, i, none⟩ := fun o g i hg => ((Below.refl _ _).alloc (Nat.le_refl _) o).cell (by have := h.lt; simp; omega)
  have HF := hide (fun o => hf.keep (fun g i hg => hcell o g i hg))
  have HC := hide (fun o => hc.keep (fun g i hg => hcell o g i hg))
  have c0 := hide fun b n w => bit_any b n w
  have c1 := hide fun w st h => number_any bw C p.id w st h
  have c2 := hide fun n w st h => octet_any bw C n w st h
  have c3 := hide fun w st h => connect_any bw C p w st h
  have c4 := hide fun w st h => publish_any bw C p w st h
  have c5 := hide fun w st h hf => filters_any bw C p fs w st h hf
  have c6 := hide fun w st h hc => codes_any bw C p cs w st h hc
  have HB := hide (fun o => h.beside o)
  have HH := hide h
  have hlt := h.lt
  clear h hf hc hN hcell
  by_cases e1 : p.kind = 1
  · have hb : bodyW (cbW p) p fs cs = txtW [77, 81, 84, 84] ++ [byt8 4] ++ [cbW p] ++ twoW p.keep ++ txtW p.client ++ (if p.will then txtW p.topic ++ txtW p.payload else []) := by unfold bodyW; rw [if_pos e1]
    rw [hb]
    clear hb
    generalize txtW [77, 81, 84, 84] ++ [byt8 4] ++ [cbW p] ++ twoW p.keep ++ txtW p.client ++ (if p.will then txtW p.topic ++ txtW p.payload else []) = X at c3 ⊢
    clear c0 c1 c2 c4 c5 c6 HF HC HN HH
    obtain ⟨kind, clean, will, keep, client, present, code, dup, qos, retain, topic, payload, id, fv, cv⟩ := p
    simp only at e1 c3 ⊢
    subst e1
    simp only [pkCells] at c3 ⊢
    go_enter Tryz.func80, Tryz.ntmps80
    go_wp2_with fail
    refine (unhide c3 _ _ (HB.out _).1).mono ?_
    rintro e w1 ⟨rfl, hS, hK⟩
    have HS := hide hS
    have HK := hide ((HB.out _).2.1.trans hK)
    clear hS hK
    go_wp2
    go_end0
    exact ⟨rfl, HS.out, HK.out⟩
  by_cases e2 : p.kind = 2
  · have hb : bodyW (cbW p) p fs cs = [byt8 (bitI p.present 1)] ++ [byt8 p.code] := by unfold bodyW; rw [if_neg e1, if_pos e2]
    rw [hb, ← ew.wr_wr]
    clear hb e1
    clear c1 c3 c4 c5 c6 HF HC HN HH
    obtain ⟨kind, clean, will, keep, client, present, code, dup, qos, retain, topic, payload, id, fv, cv⟩ := p
    simp only at e2  ⊢
    subst e2
    simp only [pkCells]
    go_enter Tryz.func80, Tryz.ntmps80
    go_wp2_with fail
    refine (unhide c0 _ _ _).mono ?_
    rintro e w0 ⟨rfl, rfl⟩
    go_wp2_with fail
    refine (unhide c2 _ _ _ (HB.out _).1).mono ?_
    rintro e w1 ⟨rfl, hS, hK⟩
    have HS := hide hS
    have hcp := hK.pk (np := w.heap.size) (by omega) (by simp) (HB.out _).2.2
    have HK := hide ((HB.out _).2.1.trans hK)
    have k6 := hcp.2 6
    simp [go_sem] at k6
    clear hS hK hcp
    go_wp2_with fail
    refine (unhide c2 _ _ _ HS.out).mono ?_
    rintro e w2 ⟨rfl, hS, hK⟩
    have HS2 := hide hS
    have HK2 := hide (HK.out.trans hK)
    clear hS hK k6
    go_wp2
    go_end0
    exact ⟨rfl, HS2.out, HK2.out⟩
  by_cases e3 : p.kind = 3
  · have hb : bodyW (cbW p) p fs cs = txtW p.topic ++ (if 0 < p.qos then twoW p.id else []) ++ p.payload := by unfold bodyW; rw [if_neg e1, if_neg e2, if_pos e3]
    rw [hb]
    clear hb e1 e2
    generalize txtW p.topic ++ (if 0 < p.qos then twoW p.id else []) ++ p.payload = X at c4 ⊢
    clear c0 c1 c2 c3 c5 c6 HF HC HN HH
    obtain ⟨kind, clean, will, keep, client, present, code, dup, qos, retain, topic, payload, id, fv, cv⟩ := p
    simp only at e3 c4 ⊢
    subst e3
    simp only [pkCells] at c4 ⊢
    go_enter Tryz.func80, Tryz.ntmps80
    go_wp2_with fail
    refine (unhide c4 _ _ (HB.out _).1).mono ?_
    rintro e w1 ⟨rfl, hS, hK⟩
    have HS := hide hS
    have HK := hide ((HB.out _).2.1.trans hK)
    clear hS hK
    go_wp2
    go_end0
    exact ⟨rfl, HS.out, HK.out⟩
  by_cases e4 : p.kind = 4 ∨ p.kind = 5 ∨ p.kind = 6 ∨ p.kind = 7 ∨ p.kind = 11
  · have hb : bodyW (cbW p) p fs cs = twoW p.id := by unfold bodyW; rw [if_neg e1, if_neg e2, if_neg e3, if_pos e4]
    rw [hb]
    clear hb e1 e2 e3
    clear c0 c2 c3 c4 c5 c6 HF HC HN HH
    obtain ⟨kind, clean, will, keep, client, present, code, dup, qos, retain, topic, payload, id, fv, cv⟩ := p
    simp only at e4 c1 ⊢
    rcases e4 with rfl | rfl | rfl | rfl | rfl
    · simp only [pkCells]
      go_enter Tryz.func80, Tryz.ntmps80
      go_wp2_with fail
      refine (unhide c1 _ _ (HB.out _).1).mono ?_
      rintro e w1 ⟨rfl, hS, hK⟩
      have HS := hide hS
      have HK := hide ((HB.out _).2.1.trans hK)
      clear hS hK
      go_wp2
      go_end0
      exact ⟨rfl, HS.out, HK.out⟩
    · simp only [pkCells]
      go_enter Tryz.func80, Tryz.ntmps80
      go_wp2_with fail
      refine (unhide c1 _ _ (HB.out _).1).mono ?_
      rintro e w1 ⟨rfl, hS, hK⟩
      have HS := hide hS
      have HK := hide ((HB.out _).2.1.trans hK)
      clear hS hK
      go_wp2
      go_end0
      exact ⟨rfl, HS.out, HK.out⟩
    · simp only [pkCells]
      go_enter Tryz.func80, Tryz.ntmps80
      go_wp2_with fail
      refine (unhide c1 _ _ (HB.out _).1).mono ?_
      rintro e w1 ⟨rfl, hS, hK⟩
      have HS := hide hS
      have HK := hide ((HB.out _).2.1.trans hK)
      clear hS hK
      go_wp2
      go_end0
      exact ⟨rfl, HS.out, HK.out⟩
    · simp only [pkCells]
      go_enter Tryz.func80, Tryz.ntmps80
      go_wp2_with fail
      refine (unhide c1 _ _ (HB.out _).1).mono ?_
      rintro e w1 ⟨rfl, hS, hK⟩
      have HS := hide hS
      have HK := hide ((HB.out _).2.1.trans hK)
      clear hS hK
      go_wp2
      go_end0
      exact ⟨rfl, HS.out, HK.out⟩
    · simp only [pkCells]
      go_enter Tryz.func80, Tryz.ntmps80
      go_wp2_with fail
      refine (unhide c1 _ _ (HB.out _).1).mono ?_
      rintro e w1 ⟨rfl, hS, hK⟩
      have HS := hide hS
      have HK := hide ((HB.out _).2.1.trans hK)
      clear hS hK
      go_wp2
      go_end0
      exact ⟨rfl, HS.out, HK.out⟩
  by_cases e5 : p.kind = 8 ∨ p.kind = 10
  · have hb : bodyW (cbW p) p fs cs = twoW p.id ++ fs.flatMap (filW (p.kind == 8)) := by unfold bodyW; rw [if_neg e1, if_neg e2, if_neg e3, if_neg e4, if_pos e5]
    rw [hb]
    clear hb e1 e2 e3 e4
    generalize twoW p.id ++ fs.flatMap (filW (p.kind == 8)) = X at c5 ⊢
    clear c0 c1 c2 c3 c4 c6 HC HN HH
    obtain ⟨kind, clean, will, keep, client, present, code, dup, qos, retain, topic, payload, id, fv, cv⟩ := p
    simp only at e5 c5 HF ⊢
    rcases e5 with rfl | rfl
    · simp only [pkCells] at c5 ⊢
      go_enter Tryz.func80, Tryz.ntmps80
      go_wp2_with fail
      refine (unhide c5 _ _ (HB.out _).1 (HF.out _)).mono ?_
      rintro e w1 ⟨rfl, hS, hK⟩
      have HS := hide hS
      have HK := hide ((HB.out _).2.1.trans hK)
      clear hS hK
      go_wp2
      go_end0
      exact ⟨rfl, HS.out, HK.out⟩
    · simp only [pkCells] at c5 ⊢
      go_enter Tryz.func80, Tryz.ntmps80
      go_wp2_with fail
      refine (unhide c5 _ _ (HB.out _).1 (HF.out _)).mono ?_
      rintro e w1 ⟨rfl, hS, hK⟩
      have HS := hide hS
      have HK := hide ((HB.out _).2.1.trans hK)
      clear hS hK
      go_wp2
      go_end0
      exact ⟨rfl, HS.out, HK.out⟩
  by_cases e6 : p.kind = 9
  · have hb : bodyW (cbW p) p fs cs = twoW p.id ++ cs.map byt8 := by unfold bodyW; rw [if_neg e1, if_neg e2, if_neg e3, if_neg e4, if_neg e5, if_pos e6]
    rw [hb]
    clear hb e1 e2 e3 e4 e5
    clear c0 c1 c2 c3 c4 c5 HF HN HH
    obtain ⟨kind, clean, will, keep, client, present, code, dup, qos, retain, topic, payload, id, fv, cv⟩ := p
    simp only at e6 c6 HC ⊢
    subst e6
    simp only [pkCells] at c6 ⊢
    go_enter Tryz.func80, Tryz.ntmps80
    go_wp2_with fail
    refine (unhide c6 _ _ (HB.out _).1 (HC.out _)).mono ?_
    rintro e w1 ⟨rfl, hS, hK⟩
    have HS := hide hS
    have HK := hide ((HB.out _).2.1.trans hK)
    clear hS hK
    go_wp2
    go_end0
    exact ⟨rfl, HS.out, HK.out⟩
  have hb : bodyW (cbW p) p fs cs = [] := by unfold bodyW; rw [if_neg e1, if_neg e2, if_neg e3, if_neg e4, if_neg e5, if_neg e6]
  rw [hb, HN.out]
  clear hb c0 c1 c2 c3 c4 c5 c6 HF HC HN
  obtain ⟨kind, clean, will, keep, client, present, code, dup, qos, retain, topic, payload, id, fv, cv⟩ := p
  simp only at e1 e2 e3 e4 e5 e6 ⊢
  have g1 : (kind == 1) = false := beq_eq_false_iff_ne.2 (by omega)
  have g2 : (kind == 2) = false := beq_eq_false_iff_ne.2 (by omega)
  have g3 : (kind == 3) = false := beq_eq_false_iff_ne.2 (by omega)
  have g4 : (kind == 4) = false := beq_eq_false_iff_ne.2 (by omega)
  have g5 : (kind == 5) = false := beq_eq_false_iff_ne.2 (by omega)
  have g6 : (kind == 6) = false := beq_eq_false_iff_ne.2 (by omega)
  have g7 : (kind == 7) = false := beq_eq_false_iff_ne.2 (by omega)
  have g8 : (kind == 8) = false := beq_eq_false_iff_ne.2 (by omega)
  have g9 : (kind == 9) = false := beq_eq_false_iff_ne.2 (by omega)
  have g10 : (kind == 10) = false := beq_eq_false_iff_ne.2 (by omega)
  have g11 : (kind == 11) = false := beq_eq_false_iff_ne.2 (by omega)
  clear e1 e2 e3 e4 e5 e6
  simp only [pkCells]
  go_enter Tryz.func80, Tryz.ntmps80
  go_wp2
  go_end0
  exact ⟨rfl, (HB.out _).1, (HB.out _).2.1⟩
end Go.Proofs.YtnmfmoimjkoieaaGreatDoor.ew
