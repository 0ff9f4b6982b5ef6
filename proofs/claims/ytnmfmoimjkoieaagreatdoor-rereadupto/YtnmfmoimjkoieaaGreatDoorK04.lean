import Derived.Test.YtnmfmoimjkoieaaGreatDoorJ21
import Derived.Test.YtnmfmoimjkoieaaGreatDoorJ09
import Derived.StillTailTactics
import Derived.WalkMore
import Derived.Test.YtnmfmoimjkoieaaGreatDoorJ22
/- The writer of package packets: codes, filters, PUBLISH, CONNECT, the body of any packet. -/
namespace Go.Proofs.YtnmfmoimjkoieaaGreatDoor.ew
open Go.RowKit Go.Proofs.YtnmfmoimjkoieaaGreatDoor.topPlain Go.Proofs.YtnmfmoimjkoieaaGreatDoor.topWalks Go.Proofs.YtnmfmoimjkoieaaGreatDoor.decPlain Go.Proofs.YtnmfmoimjkoieaaGreatDoor.encPlain
open Go.Proofs.YtnmfmoimjkoieaaGreatDoor.rd (pkCells)

/-- filters, and numbers, as they lie in memory, below block B -/
def FilB (B : Nat) (w : World) (v : Value) (fs : List (List UInt8 × Int)) : Prop := ∃ q cap, v = .slice q fs.length cap ∧ fs.length ≤ maxLen ∧ ∀ (j : Nat) f, fs[j]? = some f → ∃ g o, q = some ⟨g, o, none⟩ ∧ g < B ∧ w.cell? ⟨g, o + j * 2, none⟩ = some (.string (bs f.1)) ∧ w.cell? ⟨g, o + j * 2 + 1, none⟩ = some (.int .i64 f.2)
def IntB (B : Nat) (w : World) (v : Value) (cs : List Int) : Prop := ∃ q cap, v = .slice q cs.length cap ∧ cs.length ≤ maxLen ∧ ∀ (j : Nat) c, cs[j]? = some c → ∃ g o, q = some ⟨g, o, none⟩ ∧ g < B ∧ w.cell? ⟨g, o + j, none⟩ = some (.int .i64 c)
theorem Ws.lt {bw C : Nat} {w : World} {st : Option (List UInt8)} (h : Ws bw C w st) : bw < C ∧ C ≤ w.heap.size := by
  cases st with
  | none => obtain ⟨v, l, h⟩ := h; exact ⟨h.lt, h.sz⟩
  | some l => obtain ⟨v, h⟩ := h; exact ⟨h.lt, h.sz⟩
theorem Ws.cell {bw C : Nat} {w w' : World} {st : Option (List UInt8)} (h : Ws bw C w st) (k : Kp bw w w') {g : Nat} (hg : g < bw) (i : Nat) : w'.cell? ⟨g, i, none⟩ = w.cell? ⟨g, i, none⟩ := by
  have hl := h.lt
  exact World.cell?_of_block (w := w) (k.keep g (by omega) (by omega) (h.row_lt (Or.inl (by omega)))).2

/-- a packet in a block of its own beside the writer -/
theorem Ws.beside {bw C : Nat} {w : World} {st : Option (List UInt8)} (h : Ws bw C w st) (o : Obj) : Ws bw C (w.alloc o) st ∧ Kp bw w (w.alloc o) ∧ rowOf bw (w.alloc o) ≠ some w.heap.size := by
  have hg := h.grow ((Below.refl _ _).alloc (Nat.le_refl _) o)
  refine ⟨hg.1, hg.2, ?_⟩
  have hlt := h.lt
  have : rowOf bw (w.alloc o) = rowOf bw w := by
    unfold rowOf
    rw [(show Below w.heap.size w (w.alloc o) from (Below.refl _ _).alloc (Nat.le_refl _) o).cell (show (⟨bw, 0, none⟩ : Addr).block < w.heap.size by simp; omega)]
  rw [this]
  exact h.row_lt (Or.inr (Nat.le_refl _))
theorem Kp.pk {bw np : Nat} {w w' : World} (k : Kp bw w w') (h1 : np ≠ bw) (h2 : np < w.heap.size) (h3 : rowOf bw w ≠ some np) : rowOf bw w' ≠ some np ∧ (∀ i, w'.cell? ⟨np, i, none⟩ = w.cell? ⟨np, i, none⟩) :=
  ⟨(k.keep np h1 h2 h3).1, fun _ => World.cell?_of_block (w := w) (k.keep np h1 h2 h3).2⟩
theorem map_take {cs : List Int} {k : Nat} {c : Int} (h : cs[k]? = some c) : (cs.take (k + 1)).map byt8 = (cs.take k).map byt8 ++ [byt8 c] := by
  rw [List.take_add_one, h]; simp
set_option maxHeartbeats 1600000 in
set_option maxRecDepth 100000 in
theorem codes_any (bw C : Nat) (p : Pkt) (cs : List Int) (w : World) (st : Option (List UInt8)) (h : Ws bw C w st) (hc : IntB bw w p.cv cs) :
    Calls Tryz.prog 118 #[.pointer (some ⟨bw, 0, none⟩), .agg (pkCells p)] w fun e w' => e = .returned (.tuple #[]) ∧ Ws bw C w' (wr (twoW p.id ++ cs.map byt8) st) ∧ Kp bw w w' := by
  obtain ⟨q, cap, hcv, hlen, hcell⟩ := hc
  have HC := hide hcell
  have HS0 := hide h
  have c1 := hide fun w h => number_any bw C p.id w st h
  have c2 := hide fun n w st h => octet_any bw C n w st h
  unfold maxLen at hlen
  obtain ⟨kind, clean, will, keep, client, present, code, dup, qos, retain, topic, payload, id, fv, cv⟩ := p
  simp only at hcv c1 ⊢
  subst hcv
  simp only [pkCells]
  have HB := hide (fun o => h.beside o)
  have hlt := h.lt
  clear h hcell
  go_enter Tryz.func118, Tryz.ntmps118
  go_wp2_with fail
  refine (unhide c1 _ (HB.out _).1).mono ?_
  rintro e w1 ⟨rfl, hS, hK⟩
  have HS := hide hS
  have HK := hide ((HB.out _).2.1.trans hK)
  have hcp := hK.pk (np := w.heap.size) (by omega) (by simp) (HB.out _).2.2
  have k14 := hcp.2 14
  simp [go_sem] at k14
  clear hS hK hcp
  go_wp2_with fail
  go_loopw [13] (fun i wx => ∃ (k : Nat), k ≤ cs.length ∧ i = .int .i64 k ∧ Ws bw C wx (wr (twoW id ++ (cs.take k).map byt8) st) ∧ Kp bw w wx) (fun i _ => cs.length - (intOf i).toNat)
  case atStart => exact ⟨0, Nat.zero_le _, rfl, by simpa using HS.out, HK.out⟩
  case round =>
    obtain ⟨k, hk, rfl, hS, hK⟩ := hrel
    have HSk := hide hS
    have HKk := hide hK
    clear hS hK
    by_cases hltk : k < cs.length
    · obtain ⟨c, hcc⟩ : ∃ c, cs[k]? = some c := ⟨_, List.getElem?_eq_getElem hltk⟩
      obtain ⟨g, o, rfl, hg1, hg2⟩ := HC.out k c hcc
      have hg3 : wr.cell? ⟨g, o + k, none⟩ = some (.int .i64 c) := by rw [HS0.out.cell HKk.out hg1]; exact hg2
      have HCC := hide hcc
      clear hcc
      go_wp2_with fail
      refine (unhide c2 _ _ _ HSk.out).mono ?_
      rintro e w2 ⟨rfl, hS, hK⟩
      have HS2 := hide hS
      have HK2 := hide (HKk.out.trans hK)
      clear hS hK
      go_wp2
      go_roundw
      case rel => exact ⟨k + 1, by omega, by go_num, by rw [map_take HCC.out, ← List.append_assoc, ← ew.wr_wr]; exact HS2.out, HK2.out⟩
      case measure => simp [intOf]; omega
    · go_wp2
      go_end0
      have : cs.take k = cs := List.take_of_length_le (by omega)
      exact ⟨rfl, by have h := HSk.out; rw [this] at h; exact h, HKk.out⟩

theorem flat_take {k8 : Bool} {fs : List (List UInt8 × Int)} {k : Nat} {f : List UInt8 × Int} (h : fs[k]? = some f) : (fs.take (k + 1)).flatMap (filW k8) = (fs.take k).flatMap (filW k8) ++ filW k8 f := by
  rw [List.take_add_one, h]; simp
set_option maxHeartbeats 1600000 in
set_option maxRecDepth 100000 in
theorem filters_any (bw C : Nat) (p : Pkt) (fs : List (List UInt8 × Int)) (w : World) (st : Option (List UInt8)) (h : Ws bw C w st) (hc : FilB bw w p.fv fs) :
    Calls Tryz.prog 117 #[.pointer (some ⟨bw, 0, none⟩), .agg (pkCells p)] w fun e w' => e = .returned (.tuple #[]) ∧ Ws bw C w' (ew.wr (twoW p.id ++ fs.flatMap (filW (p.kind == 8))) st) ∧ Kp bw w w' := by
  obtain ⟨q, cap, hcv, hlen, hcell⟩ := hc
  have HC := hide hcell
  have HS0 := hide h
  have c1 := hide fun w h => number_any bw C p.id w st h
  have c2 := hide fun n w st h => octet_any bw C n w st h
  have c3 := hide fun n w st h => text_any bw C n w st h
  unfold maxLen at hlen
  obtain ⟨kind, clean, will, keep, client, present, code, dup, qos, retain, topic, payload, id, fv, cv⟩ := p
  simp only at hcv c1 ⊢
  subst hcv
  simp only [pkCells]
  have HB := hide (fun o => h.beside o)
  have hlt := h.lt
  clear h hcell
  go_enter Tryz.func117, Tryz.ntmps117
  go_wp2_with fail
  refine (unhide c1 _ (HB.out _).1).mono ?_
  rintro e w1 ⟨rfl, hS, hK⟩
  have HS := hide hS
  have HK := hide ((HB.out _).2.1.trans hK)
  have hcp := hK.pk (np := w.heap.size) (by omega) (by simp) (HB.out _).2.2
  have hrow := hide hcp.1
  have k13 := hcp.2 13
  have k0 := hcp.2 0
  simp [go_sem] at k13 k0
  clear hcp
  have hsz1 := hK.size
  have HK1 := hide (Kp.refl bw w1)
  clear hS hK
  go_wp2_with fail
  go_loopw [13] (fun i wx => ∃ (k : Nat), k ≤ fs.length ∧ i = .int .i64 k ∧ Ws bw C wx (ew.wr (twoW id ++ (fs.take k).flatMap (filW (kind == 8))) st) ∧ Kp bw w wx ∧ Kp bw w1 wx) (fun i _ => fs.length - (intOf i).toNat)
  case atStart => exact ⟨0, Nat.zero_le _, rfl, by simpa using HS.out, HK.out, HK1.out⟩
  case round =>
    obtain ⟨k, hk, rfl, hS, hK, hK1⟩ := hrel
    have HSk := hide hS
    have HKk := hide hK
    have HK1k := hide hK1
    have hk0 : wr.cell? ⟨w.heap.size, 0, none⟩ = some (.int .i64 kind) := by rw [(hK1.pk (by omega) (by simp at hsz1; omega) hrow.out).2 0]; exact k0
    have HRk := hide ((hK1.pk (by omega) (by simp at hsz1; omega) hrow.out).1)
    have hszk := hK1.size
    clear hS hK hK1
    by_cases hltk : k < fs.length
    · obtain ⟨c, hcc⟩ : ∃ c, fs[k]? = some c := ⟨_, List.getElem?_eq_getElem hltk⟩
      obtain ⟨g, o, rfl, hg1, hg2, hg4⟩ := HC.out k c hcc
      have hg3 : wr.cell? ⟨g, o + k * 2, none⟩ = some (.string (bs c.1)) := by rw [HS0.out.cell HKk.out hg1]; exact hg2
      have hg5 : wr.cell? ⟨g, o + k * 2 + 1, none⟩ = some (.int .i64 c.2) := by rw [HS0.out.cell HKk.out hg1]; exact hg4
      have HCC := hide hcc
      clear hcc hg2 hg4
      have HBk := hide (fun o => HSk.out.beside o)
      have HA : Hid (Below wr.heap.size wr (wr.alloc (.cells #[.string (bs c.1), .int .i64 c.2] 95))) := (Below.refl _ _).alloc (Nat.le_refl _) _
      by_cases h8 : kind = 8
      · have h8b : (kind == 8) = true := beq_iff_eq.2 h8
        clear h8
        go_wp2_with fail
        refine (unhide c3 _ _ _ (HBk.out _).1).mono ?_
        rintro e w2 ⟨rfl, hS, hK⟩
        have hf := hK.pk (np := wr.heap.size) (by have := HSk.out.lt; omega) (by simp) (HBk.out _).2.2
        have k1 := hf.2 1
        simp [go_sem] at k1
        have HS2 := hide hS
        have HK2 := hide (HKk.out.trans ((HBk.out _).2.1.trans hK))
        have HK12 := hide (HK1k.out.trans ((HBk.out _).2.1.trans hK))
        have hk02 : w2.cell? ⟨w.heap.size, 0, none⟩ = some (.int .i64 kind) := by rw [(HK12.out.pk (by omega) (by simp at hsz1; omega) hrow.out).2 0]; exact k0
        clear hS hK hf
        go_wp2_with fail
        refine (unhide c2 _ _ _ HS2.out).mono ?_
        rintro e w3 ⟨rfl, hS, hK⟩
        have HS3 := hide hS
        have HK3 := hide (HK2.out.trans hK)
        have HK13 := hide (HK12.out.trans hK)
        clear hS hK
        go_wp2
        go_roundw
        case rel =>
          refine ⟨k + 1, by omega, by go_num, ?_, HK3.out, HK13.out⟩
          rw [flat_take HCC.out, ← List.append_assoc, ← ew.wr_wr]
          have h := HS3.out
          rw [ew.wr_wr] at h
          rw [h8b] at h ⊢
          exact h
        case measure => simp [intOf]; omega
      · have h8b : (kind == 8) = false := beq_eq_false_iff_ne.2 h8
        go_wp2_with fail
        refine (unhide c3 _ _ _ (HBk.out _).1).mono ?_
        rintro e w2 ⟨rfl, hS, hK⟩
        have HS2 := hide hS
        have HK2 := hide (HKk.out.trans ((HBk.out _).2.1.trans hK))
        have HK12 := hide (HK1k.out.trans ((HBk.out _).2.1.trans hK))
        have hk02 : w2.cell? ⟨w.heap.size, 0, none⟩ = some (.int .i64 kind) := by rw [(HK12.out.pk (by omega) (by simp at hsz1; omega) hrow.out).2 0]; exact k0
        clear hS hK
        go_wp2
        go_roundw
        case rel =>
          refine ⟨k + 1, by omega, by go_num, ?_, HK2.out, HK12.out⟩
          rw [flat_take HCC.out, ← List.append_assoc, ← ew.wr_wr]
          have h := HS2.out
          rw [h8b] at h ⊢
          simpa [filW, data_bs] using h
        case measure => simp [intOf]; omega
    · go_wp2
      go_end0
      have : fs.take k = fs := List.take_of_length_le (by omega)
      exact ⟨rfl, by have h := HSk.out; rw [this] at h; exact h, HKk.out⟩

set_option maxHeartbeats 1600000 in
set_option maxRecDepth 100000 in
theorem publish_any (bw C : Nat) (p : Pkt) (w : World) (st : Option (List UInt8)) (h : Ws bw C w st) :
    Calls Tryz.prog 115 #[.pointer (some ⟨bw, 0, none⟩), .agg (pkCells p)] w fun e w' => e = .returned (.tuple #[]) ∧ Ws bw C w' (ew.wr (txtW p.topic ++ (if 0 < p.qos then twoW p.id else []) ++ p.payload) st) ∧ Kp bw w w' := by
  have c1 := hide fun w st h => number_any bw C p.id w st h
  have c2 := hide fun w st h => bytes_any bw C (bs p.payload) w st h
  have c3 := hide fun w st h => text_any bw C (bs p.topic) w st h
  obtain ⟨kind, clean, will, keep, client, present, code, dup, qos, retain, topic, payload, id, fv, cv⟩ := p
  simp only [data_bs] at c1 c2 c3 ⊢
  simp only [pkCells]
  have HB := hide (fun o => h.beside o)
  have hlt := h.lt
  clear h
  by_cases hq : 0 < qos
  · rw [if_pos hq, ← ew.wr_wr, ← ew.wr_wr]
    go_enter Tryz.func115, Tryz.ntmps115
    go_wp2_with fail
    refine (unhide c3 _ _ (HB.out _).1).mono ?_
    rintro e w1 ⟨rfl, hS, hK⟩
    have HS := hide hS
    have hcp := hK.pk (np := w.heap.size) (by omega) (by simp) (HB.out _).2.2
    have HK := hide hK
    have hsz1 := hK.size
    have hrow := hide hcp.1
    have k8 := hcp.2 8
    have k12 := hcp.2 12
    have k11 := hcp.2 11
    simp [go_sem] at k8 k12 k11
    clear hcp hS hK
    go_wp2_with fail
    refine (unhide c1 _ _ HS.out).mono ?_
    rintro e w2 ⟨rfl, hS, hK⟩
    have HS2 := hide hS
    have HK2 := hide (HK.out.trans hK)
    have hcp := hK.pk (np := w.heap.size) (by omega) (by simp at hsz1; omega) hrow.out
    have j11 := hcp.2 11
    rw [k11] at j11
    clear hcp hS hK k8 k12 k11
    go_wp2_with fail
    refine (unhide c2 _ _ HS2.out).mono ?_
    rintro e w3 ⟨rfl, hS, hK⟩
    have HS3 := hide hS
    have HK3 := hide ((HB.out _).2.1.trans (HK2.out.trans hK))
    clear hS hK
    go_wp2
    go_end0
    exact ⟨rfl, HS3.out, HK3.out⟩
  · rw [if_neg hq, List.append_nil, ← ew.wr_wr]
    go_enter Tryz.func115, Tryz.ntmps115
    go_wp2_with fail
    refine (unhide c3 _ _ (HB.out _).1).mono ?_
    rintro e w1 ⟨rfl, hS, hK⟩
    have HS := hide hS
    have hcp := hK.pk (np := w.heap.size) (by omega) (by simp) (HB.out _).2.2
    have HK := hide hK
    have k8 := hcp.2 8
    have k11 := hcp.2 11
    simp [go_sem] at k8 k11
    clear hcp hS hK
    go_wp2_with fail
    refine (unhide c2 _ _ HS.out).mono ?_
    rintro e w3 ⟨rfl, hS, hK⟩
    have HS3 := hide hS
    have HK3 := hide ((HB.out _).2.1.trans (HK.out.trans hK))
    clear hS hK
    go_wp2
    go_end0
    exact ⟨rfl, HS3.out, HK3.out⟩
end Go.Proofs.YtnmfmoimjkoieaaGreatDoor.ew

/- The writer of package packets: CONNECT. -/
namespace Go.Proofs.YtnmfmoimjkoieaaGreatDoor.ew
open Go.RowKit Go.Proofs.YtnmfmoimjkoieaaGreatDoor.topPlain Go.Proofs.YtnmfmoimjkoieaaGreatDoor.topWalks Go.Proofs.YtnmfmoimjkoieaaGreatDoor.decPlain Go.Proofs.YtnmfmoimjkoieaaGreatDoor.encPlain
open Go.Proofs.YtnmfmoimjkoieaaGreatDoor.rd (pkCells)

theorem wp_region_tail {P : Program} {id : Nat} {Q : Exit → Act → World → Prop} {a : Act} {w : World} {l : List Oper} (n : Nat) (hm : P.follows .mixedOrders = true) (hB : Region.lexTailB .any l.toArray n = true)
    (h : wpStill P l.toArray w.drew (fun a' => wpList P l.toArray Q (l.drop n) a' w.drew) (l.take n) a) : (Code.region id l.toArray true).wp P Q a w := wp_region_still_tail n hm hB h

/-- the byte of bits as the program makes it -/
def cbI (p : Pkt) : Int := bits .or .i64 (bits .or .i64 (bits .or .i64 (wrap64 (p.qos * 8)) (bitI p.clean 2)) (bitI p.will 4)) (bitI p.retain 32)
def cbW (p : Pkt) : UInt8 := byt8 (cbI p)
theorem cb_all : ∀ (q : Fin 3) (c w r : Bool), byt8 (bits .or .i64 (bits .or .i64 (bits .or .i64 (wrap64 ((q.val : Int) * 8)) (bitI c 2)) (bitI w 4)) (bitI r 32)) = byt8 (bitI c 2 + bitI w 4 + 8 * (q.val : Int) + bitI r 32) := by decide +kernel
theorem cb_same {p : Pkt} (h : rangeB p) : cbW p = cbR p := by
  obtain ⟨_, _, h1, h2, _⟩ := h
  obtain ⟨n, hn⟩ := Int.eq_ofNat_of_zero_le h1
  have := cb_all ⟨n, by omega⟩ p.clean p.will p.retain
  unfold cbW cbI cbR
  rw [hn]
  exact this

set_option maxHeartbeats 1600000 in
set_option maxRecDepth 100000 in
theorem connect_any (bw C : Nat) (p : Pkt) (w : World) (st : Option (List UInt8)) (h : Ws bw C w st) :
    Calls Tryz.prog 112 #[.pointer (some ⟨bw, 0, none⟩), .agg (pkCells p)] w fun e w' => e = .returned (.tuple #[]) ∧ Ws bw C w' (wr (txtW [77, 81, 84, 84] ++ [byt8 4] ++ [cbW p] ++ twoW p.keep ++ txtW p.client ++ (if p.will then txtW p.topic ++ txtW p.payload else [])) st) ∧ Kp bw w w' := by
  have c0 := hide fun b n w => bit_any b n w
  have c1 := hide fun w st h => number_any bw C p.keep w st h
  have c2 := hide fun n w st h => octet_any bw C n w st h
  have c3 := hide fun s w st h => text_any bw C s w st h
  obtain ⟨kind, clean, will, keep, client, present, code, dup, qos, retain, topic, payload, id, fv, cv⟩ := p
  simp only [cbW, cbI] at c1 ⊢
  simp only [pkCells]
  have HB := hide (fun o => h.beside o)
  have hlt := h.lt
  clear h
  go_enter Tryz.func112, Tryz.ntmps112
  go_wp2_with fail
  refine (unhide c3 _ _ _ (HB.out _).1).mono ?_
  rintro e w1 ⟨rfl, hS, hK⟩
  have HS := hide hS
  have HK := hide hK
  clear hS hK
  go_wp2_with fail
  refine (unhide c2 _ _ _ HS.out).mono ?_
  rintro e w2 ⟨rfl, hS, hK⟩
  have HS2 := hide hS
  have HK2 := hide (HK.out.trans hK)
  have hcp := HK2.out.pk (np := w.heap.size) (by omega) (by simp) (HB.out _).2.2
  have k8 := hcp.2 8
  have k1 := hcp.2 1
  have k2 := hcp.2 2
  have k9 := hcp.2 9
  simp [go_sem] at k8 k1 k2 k9
  clear hS hK hcp
  go_wp2_with fail
  refine wp_region_tail 16 (by kernel_rfl) (by kernel_rfl) ?_
  simp only [List.take_succ_cons, List.take_zero, List.drop_succ_cons, List.drop_zero]
  repeat (first | still_step | still_call (unhide c0 _ _ _))
  refine wpStill_nil ?_
  have hG := HS2.out.grow (below_drewN (Below.refl _ _) 1)
  have HGS := hide hG.1
  have HGK := hide hG.2
  clear hG
  go_wp2_with fail
  refine (unhide c2 _ _ _ HGS.out).mono ?_
  rintro e w3 ⟨rfl, hS, hK⟩
  have HS3 := hide hS
  have HK3 := hide (HK2.out.trans (HGK.out.trans hK))
  have hcp := HK3.out.pk (np := w.heap.size) (by omega) (by simp) (HB.out _).2.2
  have j3 := hcp.2 3
  simp [go_sem] at j3
  clear hS hK hcp k8 k1 k2 k9
  go_wp2_with fail
  refine (unhide c1 _ _ HS3.out).mono ?_
  rintro e w4 ⟨rfl, hS, hK⟩
  have HS4 := hide hS
  have HK4 := hide (HK3.out.trans hK)
  have hcp := HK4.out.pk (np := w.heap.size) (by omega) (by simp) (HB.out _).2.2
  have j4 := hcp.2 4
  simp [go_sem] at j4
  clear hS hK hcp j3
  go_wp2_with fail
  refine (unhide c3 _ _ _ HS4.out).mono ?_
  rintro e w5 ⟨rfl, hS, hK⟩
  have HS5 := hide hS
  have HK5 := hide (HK4.out.trans hK)
  have hcp := HK5.out.pk (np := w.heap.size) (by omega) (by simp) (HB.out _).2.2
  have j2 := hcp.2 2
  have j10 := hcp.2 10
  simp [go_sem] at j2 j10
  clear hS hK hcp j4
  cases will with
  | false =>
    go_wp2
    go_end0
    refine ⟨rfl, ?_, (HB.out _).2.1.trans HK5.out⟩
    have h := HS5.out
    simp only [ew.wr_wr, data_bs] at h
    simpa using h
  | true =>
    go_wp2_with fail
    refine (unhide c3 _ _ _ HS5.out).mono ?_
    rintro e w6 ⟨rfl, hS, hK⟩
    have HS6 := hide hS
    have HK6 := hide (HK5.out.trans hK)
    have hcp := HK6.out.pk (np := w.heap.size) (by omega) (by simp) (HB.out _).2.2
    have j11 := hcp.2 11
    simp [go_sem] at j11
    clear hS hK hcp j2 j10
    go_wp2_with fail
    refine (unhide c3 _ _ _ HS6.out).mono ?_
    rintro e w7 ⟨rfl, hS, hK⟩
    have HS7 := hide hS
    have HK7 := hide (HK6.out.trans hK)
    clear hS hK j11
    go_wp2
    go_end0
    refine ⟨rfl, ?_, (HB.out _).2.1.trans HK7.out⟩
    have h := HS7.out
    simp only [ew.wr_wr, data_bs] at h
    simpa using h
end Go.Proofs.YtnmfmoimjkoieaaGreatDoor.ew

/- packets.lengthBytes: the bytes of a length, in new memory. -/
namespace Go.Proofs.YtnmfmoimjkoieaaGreatDoor.ew
open Go.RowKit Go.Proofs.YtnmfmoimjkoieaaGreatDoor.topPlain Go.Proofs.YtnmfmoimjkoieaaGreatDoor.topWalks Go.Proofs.YtnmfmoimjkoieaaGreatDoor.decPlain Go.Proofs.YtnmfmoimjkoieaaGreatDoor.encPlain

theorem or128 : ∀ x : Fin 301, bits .or .u8 (((byt8 (x.val : Int)).toNat : Nat) : Int) 128 = (((byt8 ((x.val % 128 + 128 : Nat) : Int)).toNat : Nat) : Int) := by decide +kernel

set_option maxHeartbeats 1600000 in
set_option maxRecDepth 100000 in
theorem length_any (n : Nat) (w : World) (hn : n ≤ 300) :
    Calls Tryz.prog 82 #[.int .i64 (n : Int)] w fun e w' => ∃ v, e = .returned v ∧ w'.ownsRow w.heap.size 5 1 v (lenW n).length (u8s (lenW n)) ∧ Below w.heap.size w w' := by
  obtain ⟨i0, hi, hz0, hz1, hz2⟩ := info_parts infoB
  have hnil := World.ownsRow_nil w w.heap.size 5 1
  by_cases h : n < 128
  · have hd : ¬ ((128 : Int) ≤ (n : Int)) := by omega
    have hw8 := u8_wrap (n : Int)
    rw [show lenW n = [byt8 n] by unfold lenW; rw [if_pos h]]
    go_enter Tryz.func82, Tryz.ntmps82
    go_wp2_with fail
    refine wp_loop_rounds 1 ?_
    rw [rounds_succ]
    go_wp2_with (first
      | (at_builtin; refine wpList_append_own_at _ rfl _ _ 45 rfl w.heap.size 5 i0 (.int .u8 0) 1 1 Tryz.underlying45 hi hz0 hz1 hz2 rfl (by decide) _ _ _ rfl (hnil.alloc _) ⟨w.heap.size, 0, none⟩ 1 1 [.int .u8 ((byt8 n).toNat : Int)] rfl rfl (cell_one_new _ _ _) ?c2 ?c3 ?c4 ?c5 ?_))
    case c2 => intro u hu; simp only [List.mem_singleton] at hu; subst hu; rfl
    case c3 => unfold maxLen; omega
    case c4 => omega
    case c5 => simp
    intro v' w2 hown' hgrow _ _
    have HO := hide hown'
    have HB : Hid (Below w.heap.size w w2) := ((Below.refl _ _).alloc (Nat.le_refl _) _).trans ⟨hgrow.os, hgrow.tape, hgrow.output, hgrow.size, fun k hk => hgrow.block k (by simp; omega) (by simp [Value.ownBlock])⟩
    obtain ⟨q', cap', rfl⟩ := own_slice hown'
    clear hown' hgrow
    go_wp2
    go_ret
    exact ⟨_, rfl, HO.out, HB.out⟩
  · have hd : ((128 : Int) ≤ (n : Int)) := by omega
    have hd2 : ((n : Int) / 128 < 128) := by omega
    have hw8 := u8_wrap (n : Int)
    have ho := or128 ⟨n, by omega⟩
    simp only at ho
    have hw9 : IntKind.u8.wrap ((n : Int) / 128) = ((byt8 ((n / 128 : Nat) : Int)).toNat : Int) := by rw [u8_wrap, show (n : Int) / 128 = ((n / 128 : Nat) : Int) by omega]
    rw [show lenW n = [byt8 (n % 128 + 128 : Nat), byt8 (n / 128 : Nat)] by unfold lenW; rw [if_neg h]]
    generalize byt8 ((n % 128 + 128 : Nat) : Int) = x at *
    generalize byt8 ((n / 128 : Nat) : Int) = y at *
    go_enter Tryz.func82, Tryz.ntmps82
    go_wp2_with fail
    refine wp_loop_rounds 2 ?_
    rw [rounds_succ]
    go_wp2_with (first
      | (at_builtin; refine wpList_append_own_at _ rfl _ _ 45 rfl w.heap.size 5 i0 (.int .u8 0) 1 1 Tryz.underlying45 hi hz0 hz1 hz2 rfl (by decide) _ _ _ rfl (hnil.alloc _) ⟨w.heap.size, 0, none⟩ 1 1 [.int .u8 (x.toNat : Int)] rfl rfl (cell_one_new _ _ _) ?c2 ?c3 ?c4 ?c5 ?_))
    case c2 => intro u hu; simp only [List.mem_singleton] at hu; subst hu; rfl
    case c3 => unfold maxLen; omega
    case c4 => omega
    case c5 => simp
    intro v' w2 hown' hgrow _ _
    have hown := hown'
    have HB : Hid (Below w.heap.size w w2) := ((Below.refl _ _).alloc (Nat.le_refl _) _).trans ⟨hgrow.os, hgrow.tape, hgrow.output, hgrow.size, fun k hk => hgrow.block k (by simp; omega) (by simp [Value.ownBlock])⟩
    obtain ⟨q', cap', rfl⟩ := own_slice hown'
    clear hown' hgrow
    go_wp2_with fail
    rw [rounds_succ]
    have hsz := HB.out.size
    go_wp2_with (first
      | (at_builtin; refine wpList_append_own_at _ rfl _ _ 45 rfl w.heap.size 5 i0 (.int .u8 0) 1 1 Tryz.underlying45 hi hz0 hz1 hz2 rfl (by decide) _ _ _ rfl (hown.alloc _) ⟨w2.heap.size, 0, none⟩ 1 1 [.int .u8 (y.toNat : Int)] rfl rfl (cell_one_new _ _ _) ?c2 ?c3 ?c4 ?c5 ?_))
    case c2 => intro u hu; simp only [List.mem_singleton] at hu; subst hu; rfl
    case c3 => unfold maxLen; omega
    case c4 => omega
    case c5 => simp; omega
    intro v' w3 hown' hgrow _ _
    have HO := hide hown'
    have HB2 : Hid (Below w.heap.size w w3) := (HB.out.trans (((Below.refl _ _).alloc (Nat.le_refl _) _).mono hsz)).trans ⟨hgrow.os, hgrow.tape, hgrow.output, hgrow.size, fun k hk => hgrow.block k (by simp; omega) (fun e => by have := (hown.lt k e.symm).1; omega)⟩
    obtain ⟨q'', cap'', rfl⟩ := own_slice hown'
    clear hown' hgrow hown
    go_wp2
    go_ret
    exact ⟨_, rfl, HO.out, HB2.out⟩
end Go.Proofs.YtnmfmoimjkoieaaGreatDoor.ew

/- packets.firstByte: the first byte of any packet. -/
namespace Go.Proofs.YtnmfmoimjkoieaaGreatDoor.ew
open Go.RowKit Go.Proofs.YtnmfmoimjkoieaaGreatDoor.topPlain Go.Proofs.YtnmfmoimjkoieaaGreatDoor.topWalks Go.Proofs.YtnmfmoimjkoieaaGreatDoor.decPlain Go.Proofs.YtnmfmoimjkoieaaGreatDoor.encPlain Go.Proofs.YtnmfmoimjkoieaaGreatDoor.rd

/-- the first byte as the program makes it -/
def fwI (p : Pkt) : Int := if p.kind = 3 then bits .or .i64 48 (bits .or .i64 (bits .or .i64 (wrap64 (p.qos * 2)) (bitI p.dup 8)) (bitI p.retain 1)) else bits .or .i64 (wrap64 (p.kind * 16)) (fixedF p.kind)
def fwW (p : Pkt) : UInt8 := byt8 (fwI p)
theorem fw_three : ∀ (q : Fin 3) (d r : Bool), byt8 (bits .or .i64 48 (bits .or .i64 (bits .or .i64 (wrap64 ((q.val : Int) * 2)) (bitI d 8)) (bitI r 1))) = byt8 (16 * 3 + (bitI d 8 + 2 * (q.val : Int) + bitI r 1)) := by decide +kernel
theorem fw_other : ∀ k : Fin 15, byt8 (bits .or .i64 (wrap64 ((k.val : Int) * 16)) (fixedF (k.val : Int))) = byt8 (16 * (k.val : Int) + fixedF (k.val : Int)) := by decide +kernel
theorem fw_same {p : Pkt} (h : rangeB p) : fwW p = firstR p := by
  obtain ⟨k1, k2, h1, h2, _⟩ := h
  unfold fwW fwI firstR flagsR
  by_cases h3 : p.kind = 3
  · obtain ⟨n, hn⟩ := Int.eq_ofNat_of_zero_le h1
    rw [if_pos h3, if_pos h3, h3, hn]
    exact fw_three ⟨n, by omega⟩ p.dup p.retain
  · obtain ⟨n, hn⟩ := Int.eq_ofNat_of_zero_le (show 0 ≤ p.kind by omega)
    rw [if_neg h3, if_neg h3, hn]
    exact fw_other ⟨n, by omega⟩

set_option maxHeartbeats 1600000 in
set_option maxRecDepth 100000 in
theorem first_any (p : Pkt) (w : World) :
    Calls Tryz.prog 81 #[.agg (pkCells p)] w fun e w' => e = .returned (.int .u8 ((fwW p).toNat : Int)) ∧ Below w.heap.size w w' := by
  have c0 := hide fun b n w => bit_any b n w
  have c1 := hide fun k w => fixedFlags_any k w
  have HA := hide (fun o => (Below.refl w.heap.size w).alloc (Nat.le_refl _) o)
  by_cases h3 : p.kind = 3
  · have hF : fwW p = byt8 (bits .or .i64 48 (bits .or .i64 (bits .or .i64 (wrap64 (p.qos * 2)) (bitI p.dup 8)) (bitI p.retain 1))) := by unfold fwW fwI; rw [if_pos h3]
    have hw8 := u8_wrap (bits .or .i64 48 (bits .or .i64 (bits .or .i64 (wrap64 (p.qos * 2)) (bitI p.dup 8)) (bitI p.retain 1)))
    rw [hF]
    clear hF
    obtain ⟨kind, clean, will, keep, client, present, code, dup, qos, retain, topic, payload, id, fv, cv⟩ := p
    simp only at h3 hw8 ⊢
    subst h3
    simp only [pkCells]
    have HW8 := hide hw8
    clear hw8
    go_enter Tryz.func81, Tryz.ntmps81
    go_wp2_with fail
    refine (unhide c1 _ _).mono ?_
    rintro e w1 ⟨rfl, rfl⟩
    go_wp2_with fail
    refine wp_region_tail 11 (by kernel_rfl) (by kernel_rfl) ?_
    simp only [List.take_succ_cons, List.take_zero, List.drop_succ_cons, List.drop_zero]
    repeat (first | still_step | still_call (unhide c0 _ _ _))
    refine wpStill_nil ?_
    go_wp2
    go_ret
    exact ⟨ret_int HW8.out, below_drewN (HA.out _) 1⟩
  · have hF : fwW p = byt8 (bits .or .i64 (wrap64 (p.kind * 16)) (fixedF p.kind)) := by unfold fwW fwI; rw [if_neg h3]
    have hw8 := u8_wrap (bits .or .i64 (wrap64 (p.kind * 16)) (fixedF p.kind))
    rw [hF]
    clear hF
    obtain ⟨kind, clean, will, keep, client, present, code, dup, qos, retain, topic, payload, id, fv, cv⟩ := p
    simp only at h3 hw8 ⊢
    have h3b : (kind == 3) = false := beq_eq_false_iff_ne.2 h3
    clear h3
    simp only [pkCells]
    have HW8 := hide hw8
    clear hw8
    go_enter Tryz.func81, Tryz.ntmps81
    go_wp2_with fail
    refine (unhide c1 _ _).mono ?_
    rintro e w1 ⟨rfl, rfl⟩
    go_wp2
    go_ret
    exact ⟨ret_int HW8.out, HA.out _⟩
end Go.Proofs.YtnmfmoimjkoieaaGreatDoor.ew
