import Derived.Test.YtnmfmoimjkoieaaGreatDoorJ40
/- courantref.Decode's code, cut: where a body is there. -/
namespace Go.Proofs.YtnmfmoimjkoieaaGreatDoor.rf
open Go.RowKit Go.Proofs.YtnmfmoimjkoieaaGreatDoor.topPlain Go.Proofs.YtnmfmoimjkoieaaGreatDoor.topWalks Go.Proofs.YtnmfmoimjkoieaaGreatDoor.decPlain Go.Proofs.YtnmfmoimjkoieaaGreatDoor.rd

set_option maxHeartbeats 3200000 in
set_option maxRecDepth 100000 in
theorem mid_s2 (s : ByteArray) (w : World) (p : Pkt) (hfv : p.fv = .slice none 0 0) (hcv : p.cv = .slice none 0 0) (h0 : 0 < s.size) (y : UInt8) (h1 : 1 < s.size) (hy : s[1]'h1 = y) (z : UInt8) (h2 : 2 < s.size) (hz : s[2]'h2 = z) (M : Nat) (hM : (y.toNat : Int) - 128 + 128 * (z.toNat : Int) = (M : Int)) (hn : (127 : Int) < (y.toNat : Int)) (hz0 : ((z.toNat : Int) == 0) = false) (hz1 : ¬ (127 : Int) < (z.toNat : Int)) (hM3 : ¬ (300 : Int) < (M : Int)) (hsh : ¬ (s.size : Int) < 3 + (M : Int)) (u : ByteArray) (hu : s.extract 3 (3 + M) = u) (hus : u.size ≤ 300) (hI : topWalks.Inv w) (hN : 5 ≤ w.heap.size) (hk1 : 1 ≤ p.kind) (hk2 : p.kind ≤ 14) (kq : Int) (clq wq : Bool) (keq : Int) (ciq : List UInt8) (prq : Bool) (coq : Int) (duq : Bool) (qoq : Int) (req : Bool) (toq paq : List UInt8) (idq : Int) (fq cq : Value) (fs : List (List UInt8 × Int)) (cs : List Int) (hBD : bodyS p u.data.toList = some (⟨kq, clq, wq, keq, ciq, prq, coq, duq, qoq, req, toq, paq, idq, fq, cq⟩, fs, cs)) (R : Bool ⊕ ((Pkt × List (List UInt8 × Int) × List Int) × Nat)) (hR : R = .inr ((⟨kq, clq, wq, keq, ciq, prq, coq, duq, qoq, req, toq, paq, idq, fq, cq⟩, fs, cs), 3 + M)) (u1 u3 u4 u7 u8 u9 u10 u11 u12 u13 u14 u15 u16 u17 u18 u19 u20 u21 u22 u23 u24 u25 u26 u27 u28 u29 u30 u31 u32 u33 u34 u35 u36 u37 u38 u39 u40 u41 u42 u43 u44 u45 u46 u47 u48 u49 u50 u51 u52 u53 u54 u55 u56 u57 u58 u59 u60 u61 u62 u63 u64 u65 u66 u67 u68 u69 u70 u71 u72 u73 u74 u75 u76 u77 u78 u79 u80 u81 u82 u83 u84 u85 u86 u87 u88 u89 u90 u91 u92 u93 u94 u95 u96 u97 u98 u99 u100 u101 u102 u103 u104 u105 u106 u107 u108 u109 u110 u111 u112 u113 u114 u115 u116 u117 u118 u119 u120 u121 u122 u123 u124 u125 u126 u127 u128 u129 u130 u131 u132 u133 u134 u135 u136 u137 u138 u139 u140 u141 : Value) :
    Code.wp Tryz.prog (dropSeq 9 (Tryz.f33.body.getD .skip)) (bodyPost Tryz.prog Tryz.f33 (CdPost w R)) ⟨#[.string s, u1, .pointer (some ⟨w.heap.size, 0, none⟩), u3, u4, .pointer (some ⟨w.heap.size + 1, 0, none⟩), .pointer (some ⟨w.heap.size + 1 + 1, 0, none⟩), u7, u8, u9, u10, u11, u12, u13, u14, u15, u16, u17, u18, u19, u20, u21, u22, u23, u24, u25, u26, u27, u28, u29, u30, u31, u32, u33, u34, u35, u36, u37, u38, u39, u40, u41, u42, u43, u44, u45, u46, u47, u48, u49, u50, u51, u52, u53, u54, u55, u56, u57, u58, u59, u60, u61, u62, u63, u64, u65, u66, u67, u68, u69, u70, u71, u72, u73, u74, u75, u76, u77, u78, u79, u80, u81, u82, u83, u84, u85, u86, u87, u88, u89, u90, u91, u92, u93, u94, u95, u96, u97, u98, u99, u100, u101, u102, u103, u104, u105, u106, u107, u108, u109, u110, u111, u112, u113, u114, u115, u116, u117, u118, u119, u120, u121, u122, u123, u124, u125, u126, u127, u128, u129, u130, u131, u132, u133, u134, u135, u136, u137, u138, u139, u140, u141], []⟩ (((w.alloc (.cells (pkCells zeroP) 36)).alloc (.cells (pkCells zeroP) 36)).alloc (.cells (pkCells p) 36)) := by
  have _ := h0
  have HR := hide hR
  clear hR
  have hs1 : ((s.size : Int) == 1) = false := beq_eq_false_iff_ne.2 (by omega)
  have hyl := y.toNat_lt
  have hs2 : ((s.size : Int) == 2) = false := beq_eq_false_iff_ne.2 (by omega)
  have hzl := z.toNat_lt
  have hle : (3 : Int) + (M : Int) ≤ (s.size : Int) := by omega
  have hle2 : (3 : Int) ≤ 3 + (M : Int) := by omega
  have htn : ((3 : Int) + (M : Int)).toNat = 3 + M := by omega
  have hwr : IntKind.i64.wrap ((3 : Int) + (M : Int)) = (3 : Int) + (M : Int) := wraps_i64 _ (by omega) (by omega)
  have cB : Hid (∀ W, Below w.heap.size w W → Calls Tryz.prog 69 #[.string u, .agg (pkCells p)] W (DbPost W (some (⟨kq, clq, wq, keq, ciq, prq, coq, duq, qoq, req, toq, paq, idq, fq, cq⟩, fs, cs)))) := hide fun W hb => by
    rw [← hBD]
    exact dbody_any u p W hus hk1 hk2 (inv_grown (br := w.heap.size) hI hN (grown_since hb rfl)) (Nat.le_trans hN hb.size) hfv hcv
  clear hI hus hBD hN hk1 hk2
  obtain ⟨kind, clean, will, keep, client, present, code, dup, qos, retain, topic, payload, id, fv, cv⟩ := p
  obtain rfl := hfv
  obtain rfl := hcv
  simp only [pkCells, zeroP] at cB ⊢
  conv => arg 2; whnf
  go_wp2_with fail
  go_region_with (
    refine (unhide cB _ ?b1).mono ?_
    case b1 =>
      repeat first | refine Below.drew ?_ | refine Below.alloc ?_ (by simp; first | done | omega) _
      exact Below.refl _ _
    rintro e w5 ⟨hb5, fv, cv, rfl, hO1, hO2⟩
    have HO1 := hide hO1
    have HO2 := hide hO2
    obtain ⟨pf, nf, cf, rfl⟩ := own_slice hO1
    obtain ⟨pc, nc, cc, rfl⟩ := own_slice hO2
    simp only [pkCells]
    have hz5 : w5.heap[w.heap.size]? = some (.cells (pkCells zeroP) 36) := by
      rw [hb5.block _ (by simp [World.drew]; first | done | omega)]
      first
        | exact heap_three _ _ _ _
        | exact heap_four _ _ _ _ _
    have hn5 : w5.heap[w.heap.size + 1]? = some (.cells (pkCells zeroP) 36) := by
      rw [hb5.block _ (by simp [World.drew]; first | done | omega)]
      first
        | exact heap_mid _ _ _ _
        | exact heap_mid4 _ _ _ _ _
    have hs5 : w.heap.size + 3 ≤ w5.heap.size := Nat.le_trans (by simp [World.drew]; first | done | omega) hb5.size
    have HB5 := hide (Below.trans (b := _) (show Below w.heap.size w _ by
      repeat first | refine Below.drew ?_ | refine Below.alloc ?_ (by simp; first | done | omega) _
      exact Below.refl _ _) (hb5.mono (by simp [World.drew]; first | done | omega)))
    have HZ5 := hide hz5
    have HN5 := hide hn5
    have kW : ∀ a : Addr, a.block < _ → w5.cell? a = _ := fun a h => hb5.cell h
    have fW : ∀ a : Addr, a.block < _ → w5.frozen? a = _ := fun a h => hb5.frozen h
    first
      | (have hq5 : w5.heap[w.heap.size + 1 + 1 + 1]? = some (.cells (pkCells zeroP) 36) := by
           rw [hb5.block _ (by simp [World.drew]; done)]
           exact heap_last4 _ _ _ _ _)
      | skip
    clear hb5 hz5 hn5 hO1 hO2)
  all_goals
    clear kW fW cB
    first
      | (refine gen_end (w := w5) (o := some (w.heap.size + 1 + 1 + 1)) (bq := w.heap.size + 1 + 1 + 1) (C := w.heap.size + 3) (pf := pf) (nf := nf) (cf := cf) (pc := pc) (nc := nc) (cc := cc) (fs := fs) (cs := cs) (q := ⟨kq, clq, wq, keq, ciq, prq, coq, duq, qoq, req, toq, paq, idq, .slice pf nf cf, .slice pc nc cc⟩) (P := Exit.then _ _ _ _) ?g1 ?g2 ?g3 ?g4 ?_
         case g1 =>
           repeat with_reducible refine grown_trans ?_ (grown_set _ _ _ _)
           with_reducible exact grown_refl _ _
         case g4 => with_reducible exact pkIs_set15 kq clq wq keq ciq prq coq duq qoq req toq paq idq pf pc nf cf nc cc hq5
         case g2 => exact own_less (own_keep (b := w.heap.size + 1 + 1 + 1) HO1.out (by simp [World.drew]; first | done | omega) (by
           repeat with_reducible refine grown_trans ?_ (grown_set _ _ _ _)
           with_reducible exact grown_refl _ _)) (by simp [World.drew]; first | done | omega)
         case g3 => exact own_less (own_keep (b := w.heap.size + 1 + 1 + 1) HO2.out (by simp [World.drew]; first | done | omega) (by
           repeat with_reducible refine grown_trans ?_ (grown_set _ _ _ _)
           with_reducible exact grown_refl _ _)) (by simp [World.drew]; first | done | omega))
      | (refine gen_end (w := w5) (o := some (w.heap.size + 1 + 1 + 1)) (bq := w5.heap.size) (C := w.heap.size + 3) (pf := pf) (nf := nf) (cf := cf) (pc := pc) (nc := nc) (cc := cc) (fs := fs) (cs := cs) (q := ⟨kq, clq, wq, keq, ciq, prq, coq, duq, qoq, req, toq, paq, idq, .slice pf nf cf, .slice pc nc cc⟩) (P := Exit.then _ _ _ _) ?g1 ?g2 ?g3 ?g4 ?_
         case g1 => with_reducible exact World.grownBy_alloc _ _ _
         case g4 => exact pkIs_heap (heap1 _ _)
         case g2 => exact own_less (HO1.out.alloc _) (by simp [World.drew]; first | done | omega)
         case g3 => exact own_less (HO2.out.alloc _) (by simp [World.drew]; first | done | omega))
    intro w6 hg6 hO1 hO2 hQ
    have hz6 : w6.heap[w.heap.size]? = some (.cells (pkCells zeroP) 36) := by rw [hg6.block _ (by omega) (fun e => by have := Option.some.inj e; omega)]; exact HZ5.out
    have hB6 := HB5.out.trans (below_grown hg6 (by omega) (by omega))
    rename_i aK
    refine aK _ _ ?_
    refine dd_end_s w w6 R 3 M _ (w.heap.size + 3) (by omega) (by omega) kq clq wq keq ciq prq coq duq qoq req toq paq idq fq cq pf pc nf cf nc cc fs cs HR.out hB6 hz6 (by omega) hO1 hO2 hQ (by omega) _ _ _ _ _ _ _ _ _ _ _ _ _ _ _ _ _ _ _ _ _ _ _ _ _ _ _ _ _ _ _ _ _ _ _ _ _ _ _ _ _ _ _ _ _ _ _ _ _ _ _ _ _ _ _ _ _ _ _ _ _ _ _ _ _ _ _ _ _ _ _ _ _ _ _ _ _ _ _ _ _ _ _ _ _ _ _ _ _ _ _ _ _ _ _ _ _ _ _ _ _ _ _ _ _ _ _ _ _ _ _ _ _ _ _ _ _ _ _ _ _ _ _ _ _ _ _ _ _ _ _ _ _ _ _ _ _
end Go.Proofs.YtnmfmoimjkoieaaGreatDoor.rf

/- courantref.Decode, a first byte of kind other than 3, 6, 8, 10. -/
namespace Go.Proofs.YtnmfmoimjkoieaaGreatDoor.rf
open Go.RowKit Go.Proofs.YtnmfmoimjkoieaaGreatDoor.topPlain Go.Proofs.YtnmfmoimjkoieaaGreatDoor.topWalks Go.Proofs.YtnmfmoimjkoieaaGreatDoor.decPlain Go.Proofs.YtnmfmoimjkoieaaGreatDoor.rd

set_option maxHeartbeats 3200000 in
set_option maxRecDepth 100000 in
theorem ddpo_bada (s : ByteArray) (w : World) (x : UInt8) (h0 : 0 < s.size) (hx : s[0]'h0 = x) (K F : Nat) (hKi : (x.toNat : Int) / 16 = (K : Int)) (hFi : (x.toNat : Int) % 16 = (F : Int)) (hK : K < 16) (hF : F < 16) (k3 : ((K : Int) == 3) = false) (k6 : ((K : Int) == 6) = false) (k8 : ((K : Int) == 8) = false) (k10 : ((K : Int) == 10) = false) (g1 : (K : Int) < 1) (R : Bool ⊕ ((Pkt × List (List UInt8 × Int) × List Int) × Nat)) (hR : R = .inl false) :
    Calls Tryz.prog 33 #[.string s] w (CdPost w R) := by
  have _ := hF
  have hxl := x.toNat_lt
  have hs0 : ((s.size : Int) == 0) = false := beq_eq_false_iff_ne.2 (by omega)
  have HR := hide hR
  clear hR
  go_enter Tryz.func33, Tryz.ntmps33
  go_wp2_with fail
  refine bodyPost_ret (results_dd_zero _ _ w.heap.size rfl (heap_three _ _ _ _)) rfl ?_
  rw [HR.out]
  refine ⟨?_, rfl⟩
  exact (((Below.refl _ _).alloc (Nat.le_refl _) _).alloc (by simp) _).alloc (by simp; omega) _

set_option maxHeartbeats 3200000 in
set_option maxRecDepth 100000 in
theorem ddpo_badb (s : ByteArray) (w : World) (x : UInt8) (h0 : 0 < s.size) (hx : s[0]'h0 = x) (K F : Nat) (hKi : (x.toNat : Int) / 16 = (K : Int)) (hFi : (x.toNat : Int) % 16 = (F : Int)) (hK : K < 16) (hF : F < 16) (k3 : ((K : Int) == 3) = false) (k6 : ((K : Int) == 6) = false) (k8 : ((K : Int) == 8) = false) (k10 : ((K : Int) == 10) = false) (g1 : ¬ (K : Int) < 1) (g14 : (14 : Int) < (K : Int)) (R : Bool ⊕ ((Pkt × List (List UInt8 × Int) × List Int) × Nat)) (hR : R = .inl false) :
    Calls Tryz.prog 33 #[.string s] w (CdPost w R) := by
  have _ := hF
  have hxl := x.toNat_lt
  have hs0 : ((s.size : Int) == 0) = false := beq_eq_false_iff_ne.2 (by omega)
  have HR := hide hR
  clear hR
  go_enter Tryz.func33, Tryz.ntmps33
  go_wp2_with fail
  refine bodyPost_ret (results_dd_zero _ _ w.heap.size rfl (heap_three _ _ _ _)) rfl ?_
  rw [HR.out]
  refine ⟨?_, rfl⟩
  exact (((Below.refl _ _).alloc (Nat.le_refl _) _).alloc (by simp) _).alloc (by simp; omega) _

set_option maxHeartbeats 3200000 in
set_option maxRecDepth 100000 in
theorem ddpo_badc (s : ByteArray) (w : World) (x : UInt8) (h0 : 0 < s.size) (hx : s[0]'h0 = x) (K F : Nat) (hKi : (x.toNat : Int) / 16 = (K : Int)) (hFi : (x.toNat : Int) % 16 = (F : Int)) (hK : K < 16) (hF : F < 16) (k3 : ((K : Int) == 3) = false) (k6 : ((K : Int) == 6) = false) (k8 : ((K : Int) == 8) = false) (k10 : ((K : Int) == 10) = false) (g1 : ¬ (K : Int) < 1) (g14 : ¬ (14 : Int) < (K : Int)) (gF : ((F : Int) != 0) = true) (R : Bool ⊕ ((Pkt × List (List UInt8 × Int) × List Int) × Nat)) (hR : R = .inl false) :
    Calls Tryz.prog 33 #[.string s] w (CdPost w R) := by
  have _ := hF
  have hxl := x.toNat_lt
  have hs0 : ((s.size : Int) == 0) = false := beq_eq_false_iff_ne.2 (by omega)
  have HR := hide hR
  clear hR
  go_enter Tryz.func33, Tryz.ntmps33
  go_wp2_with fail
  refine bodyPost_ret (results_dd_zero _ _ w.heap.size rfl (heap_three _ _ _ _)) rfl ?_
  rw [HR.out]
  refine ⟨?_, rfl⟩
  exact (((Below.refl _ _).alloc (Nat.le_refl _) _).alloc (by simp) _).alloc (by simp; omega) _

set_option maxHeartbeats 3200000 in
set_option maxRecDepth 100000 in
theorem ddpo (s : ByteArray) (w : World) (x : UInt8) (h0 : 0 < s.size) (hx : s[0]'h0 = x) (K F : Nat) (hKi : (x.toNat : Int) / 16 = (K : Int)) (hFi : (x.toNat : Int) % 16 = (F : Int)) (hK : K < 16) (hF : F < 16) (k3 : ((K : Int) == 3) = false) (k6 : ((K : Int) == 6) = false) (k8 : ((K : Int) == 8) = false) (k10 : ((K : Int) == 10) = false) (g1 : ¬ (K : Int) < 1) (g14 : ¬ (14 : Int) < (K : Int)) (gF : ((F : Int) != 0) = false) (R : Bool ⊕ ((Pkt × List (List UInt8 × Int) × List Int) × Nat)) (hmid : ∀ (u1 u3 u4 u7 u8 u9 u10 u11 u12 u13 u14 u15 u16 u17 u18 u19 u20 u21 u22 u23 u24 u25 u26 u27 u28 u29 u30 u31 u32 u33 u34 u35 u36 u37 u38 u39 u40 u41 u42 u43 u44 u45 u46 u47 u48 u49 u50 u51 u52 u53 u54 u55 u56 u57 u58 u59 u60 u61 u62 u63 u64 u65 u66 u67 u68 u69 u70 u71 u72 u73 u74 u75 u76 u77 u78 u79 u80 u81 u82 u83 u84 u85 u86 u87 u88 u89 u90 u91 u92 u93 u94 u95 u96 u97 u98 u99 u100 u101 u102 u103 u104 u105 u106 u107 u108 u109 u110 u111 u112 u113 u114 u115 u116 u117 u118 u119 u120 u121 u122 u123 u124 u125 u126 u127 u128 u129 u130 u131 u132 u133 u134 u135 u136 u137 u138 u139 u140 u141 : Value), Code.wp Tryz.prog (dropSeq 9 (Tryz.f33.body.getD .skip)) (bodyPost Tryz.prog Tryz.f33 (CdPost w R)) ⟨#[.string s, u1, .pointer (some ⟨w.heap.size, 0, none⟩), u3, u4, .pointer (some ⟨w.heap.size + 1, 0, none⟩), .pointer (some ⟨w.heap.size + 1 + 1, 0, none⟩), u7, u8, u9, u10, u11, u12, u13, u14, u15, u16, u17, u18, u19, u20, u21, u22, u23, u24, u25, u26, u27, u28, u29, u30, u31, u32, u33, u34, u35, u36, u37, u38, u39, u40, u41, u42, u43, u44, u45, u46, u47, u48, u49, u50, u51, u52, u53, u54, u55, u56, u57, u58, u59, u60, u61, u62, u63, u64, u65, u66, u67, u68, u69, u70, u71, u72, u73, u74, u75, u76, u77, u78, u79, u80, u81, u82, u83, u84, u85, u86, u87, u88, u89, u90, u91, u92, u93, u94, u95, u96, u97, u98, u99, u100, u101, u102, u103, u104, u105, u106, u107, u108, u109, u110, u111, u112, u113, u114, u115, u116, u117, u118, u119, u120, u121, u122, u123, u124, u125, u126, u127, u128, u129, u130, u131, u132, u133, u134, u135, u136, u137, u138, u139, u140, u141], []⟩ (((w.alloc (.cells (pkCells zeroP) 36)).alloc (.cells (pkCells zeroP) 36)).alloc (.cells (pkCells ⟨(K : Int), false, false, 0, [], false, 0, false, 0, false, [], [], 0, .slice none 0 0, .slice none 0 0⟩) 36))) :
    Calls Tryz.prog 33 #[.string s] w (CdPost w R) := by
  have _ := hF
  have hxl := x.toNat_lt
  have hs0 : ((s.size : Int) == 0) = false := beq_eq_false_iff_ne.2 (by omega)
  have HM := hide hmid
  clear hmid
  go_enter Tryz.func33, Tryz.ntmps33
  refine cut_body 9 (Tryz.f33.body.getD .skip) ?_
  conv => arg 2; whnf; arg 2; whnf; arg 2; whnf; arg 2; whnf; arg 2; whnf; arg 2; whnf; arg 2; whnf; arg 2; whnf; arg 2; whnf
  go_wp2_with fail
  exact HM.out _ _ _ _ _ _ _ _ _ _ _ _ _ _ _ _ _ _ _ _ _ _ _ _ _ _ _ _ _ _ _ _ _ _ _ _ _ _ _ _ _ _ _ _ _ _ _ _ _ _ _ _ _ _ _ _ _ _ _ _ _ _ _ _ _ _ _ _ _ _ _ _ _ _ _ _ _ _ _ _ _ _ _ _ _ _ _ _ _ _ _ _ _ _ _ _ _ _ _ _ _ _ _ _ _ _ _ _ _ _ _ _ _ _ _ _ _ _ _ _ _ _ _ _ _ _ _ _ _ _ _ _ _ _ _ _ _ _
end Go.Proofs.YtnmfmoimjkoieaaGreatDoor.rf
