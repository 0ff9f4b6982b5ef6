import Derived.Test.YtnmfmoimjkoieaaGreatDoorJ17
import Derived.Deep.QuietTactic
import Derived.BigQuiet
/- courantlaw.kept and handed: of a book with all its lists, as the caller wrote it: true. -/
namespace Go.Proofs.YtnmfmoimjkoieaaGreatDoor.lb
open Go.RowKit Go.Proofs.YtnmfmoimjkoieaaGreatDoor.topPlain Go.Proofs.YtnmfmoimjkoieaaGreatDoor.topWalks Go.Proofs.YtnmfmoimjkoieaaGreatDoor.decPlain Go.Proofs.YtnmfmoimjkoieaaGreatDoor.rd Go.Proofs.YtnmfmoimjkoieaaGreatDoor.lw

theorem drewN_drewN (w : World) (a b : Nat) : (w.drewN a).drewN b = w.drewN (a + b) := by
  simp [World.drewN, Nat.add_assoc]
theorem in7 {k : Nat} (h1 : 1 ≤ k) (h2 : k ≤ 7) : In7 k := ⟨h1, h2⟩
/-- the i-th list of shelf k -/
theorem Book.elem {w : World} {bw : Nat} {sv : Value} {v : Nat → Value} {xs : Nat → List Value} (h : Book w bw sv v xs) {k : Nat} (hk : In7 k) {p : Option Addr} {n c : Nat} (hv : v k = .slice p n c) (i : Nat) (u : Value) (hu : (xs k)[i]? = some u) :
    ∃ g ad m cc, p = some ⟨g, 0, none⟩ ∧ g < w.heap.size ∧ w.cell? ⟨g, i, none⟩ = some (.slice ad m cc) ∧ u = .slice ad m cc ∧ m ≤ 1099511627780 ∧ (m = 0 ∨ ∃ g2, ad = some ⟨g2, 0, none⟩ ∧ g2 < w.heap.size ∧ ∀ j, j < m * kSz k → w.cell? ⟨g2, j, none⟩ = some (kF k i j)) := by
  obtain ⟨g, cap, e, hg, hc⟩ := own_elem (h.own k hk) i u hu
  obtain ⟨ad, m, cc, rfl, hm, hh⟩ := h.held k hk i u hu
  rw [hv] at e
  simp only [Value.slice.injEq] at e
  obtain ⟨rfl, _, _⟩ := e
  refine ⟨g, ad, m, cc, rfl, hg, hc, rfl, hm, ?_⟩
  rcases hh with h0 | ⟨g2, e2, _, h2, h3⟩
  · exact Or.inl h0
  · exact Or.inr ⟨g2, e2, h2, h3⟩

set_option maxHeartbeats 3200000 in
set_option maxRecDepth 100000 in
theorem handed_any (w : World) (bw : Nat) (sv : Value) (v : Nat → Value) (xs : Nat → List Value) (h : Book w bw sv v xs) (hgs : (xs 7).length = (xs 6).length) :
    Calls Tryz.prog 40 #[.pointer (some ⟨bw, 0, none⟩)] w fun e w' => e = .returned (.bool true) ∧ ∃ n, w' = w.drewN n := by
  have H := hide h
  obtain ⟨c0, c1, c2, c3, c4, c5, c6, c7⟩ := h.cells
  obtain ⟨p6, k6, e6⟩ := own_form1 (h.own 6 (in7 (by omega) (by omega)))
  obtain ⟨p7, k7, e7⟩ := own_form1 (h.own 7 (in7 (by omega) (by omega)))
  have l6 := h.len 6 (in7 (by omega) (by omega))
  rw [e6] at c6
  rw [e7, hgs] at c7
  have E6 := hide e6
  have E7 := hide e7
  have HGS := hide hgs
  clear h c0 c1 c2 c3 c4 c5 e6 e7 hgs
  generalize hG : (xs 6).length = G at *
  have HG := hide hG
  clear hG
  go_enter Tryz.func40, Tryz.ntmps40
  go_wp2_with fail
  go_loopw [3] (fun i wx => ∃ (k n : Nat), k ≤ G ∧ i = .int .i64 k ∧ wx = w.drewN n) (fun i _ => G - (intOf i).toNat)
  case atStart => exact ⟨0, 0, Nat.zero_le _, rfl, rfl⟩
  case round =>
    obtain ⟨k, n3, hk, rfl, rfl⟩ := hrel
    by_cases hltk : k < G
    · obtain ⟨u, hu⟩ : ∃ u, (xs 6)[k]? = some u := ⟨_, List.getElem?_eq_getElem (by rw [HG.out]; exact hltk)⟩
      obtain ⟨u', hu'⟩ : ∃ u, (xs 7)[k]? = some u := ⟨_, List.getElem?_eq_getElem (by rw [HGS.out]; exact hltk)⟩
      obtain ⟨g, ad, m, cc, rfl, hg, hc, rfl, hm, hh⟩ := H.out.elem (in7 (by omega) (by omega)) E6.out k u hu
      obtain ⟨g', ad', m', cc', rfl, hg', hc', rfl, hm', hh'⟩ := H.out.elem (in7 (by omega) (by omega)) E7.out k u' hu'
      have HH := hide hh
      have HH' := hide hh'
      clear hh hu hh' hu'
      go_wp2_with fail
      go_loopw [4] (fun i wx => ∃ (j n : Nat), j ≤ m ∧ i = .int .i64 j ∧ wx = w.drewN n) (fun i _ => m - (intOf i).toNat)
      case atStart => exact ⟨0, _, Nat.zero_le _, rfl, rfl⟩
      case round =>
        obtain ⟨j, n4, hj, rfl, rfl⟩ := hrel
        by_cases hjm : j < m
        · rcases HH.out with h0 | ⟨g2, rfl, hg2, hcell⟩
          · omega
          · have q0 : w.cell? ⟨g2, j * 2, none⟩ = some (.string turnedS) := by
              rw [hcell (j * 2) (by show _ < m * 2; omega)]
              show some (givF k (j * 2)) = _
              unfold givF
              rw [if_pos (by omega)]
            have q1 : w.cell? ⟨g2, j * 2 + 1, none⟩ = some (.int .i64 0) := by
              rw [hcell (j * 2 + 1) (by show _ < m * 2; omega)]
              show some (givF k (j * 2 + 1)) = _
              unfold givF
              rw [if_neg (by omega)]
            clear hcell
            simp only [turnedS] at q0
            go_wp2
            go_roundw
            case rel => exact ⟨j + 1, _, by omega, by go_num, rfl⟩
            case measure => simp [intOf]; omega
        · go_wp2_with fail
          go_loopw [5] (fun i wx => ∃ (j n : Nat), j ≤ m' ∧ i = .int .i64 j ∧ wx = w.drewN n) (fun i _ => m' - (intOf i).toNat)
          case atStart => exact ⟨0, _, Nat.zero_le _, rfl, rfl⟩
          case round =>
            obtain ⟨j, n4, hj, rfl, rfl⟩ := hrel
            by_cases hjm : j < m'
            · rcases HH'.out with h0 | ⟨g2, rfl, hg2, hcell⟩
              · omega
              · have q0 : w.cell? ⟨g2, j, none⟩ = some (.int .i64 (-7)) := hcell j (by show _ < m' * 1; omega)
                clear hcell
                go_wp2
                go_roundw
                case rel => exact ⟨j + 1, _, by omega, by go_num, rfl⟩
                case measure => simp [intOf]; omega
            · go_wp2
              go_roundw
              case rel => exact ⟨k + 1, _, by omega, by go_num, rfl⟩
              case measure => simp [intOf]; omega
    · go_wp2
      go_ret
      exact ⟨rfl, _, rfl⟩
end Go.Proofs.YtnmfmoimjkoieaaGreatDoor.lb

/- courantlaw.kept: of a book as the caller wrote it (no lists of outs): true. -/
namespace Go.Proofs.YtnmfmoimjkoieaaGreatDoor.lb
open Go.RowKit Go.Proofs.YtnmfmoimjkoieaaGreatDoor.topPlain Go.Proofs.YtnmfmoimjkoieaaGreatDoor.topWalks Go.Proofs.YtnmfmoimjkoieaaGreatDoor.decPlain Go.Proofs.YtnmfmoimjkoieaaGreatDoor.rd Go.Proofs.YtnmfmoimjkoieaaGreatDoor.lw

set_option maxHeartbeats 6400000 in
set_option maxRecDepth 100000 in
theorem kept_any (w : World) (bw : Nat) (sv : Value) (v : Nat → Value) (xs : Nat → List Value) (h : Book w bw sv v xs) (hgs : (xs 7).length = (xs 6).length) (h2 : xs 2 = []) :
    Calls Tryz.prog 13 #[.pointer (some ⟨bw, 0, none⟩)] w fun e w' => e = .returned (.bool true) ∧ ∃ n, w' = w.drewN n := by
  have H := hide h
  have cH := hide fun n => handed_any (w.drewN n) bw sv v xs (h.below (below_drewN (Below.refl _ _) n)) hgs
  have cDg := hide fun (n i : Nat) (w : World) (hn : n ≤ 4611686018427387904) (hi : i ≤ 4611686018427387904) => digit_any n i w hn hi
  obtain ⟨c0, c1, c2, c3, c4, c5, c6, c7⟩ := h.cells
  obtain ⟨p2, k2, e2⟩ := own_form1 (h.own 2 (in7 (by omega) (by omega)))
  rw [e2, h2] at c2
  clear e2
  obtain ⟨p1, k1, e1⟩ := own_form1 (h.own 1 (in7 (by omega) (by omega)))
  have l1 := h.len 1 (in7 (by omega) (by omega))
  rw [e1] at c1
  have E1 := hide e1
  clear e1
  obtain ⟨p3, k3, e3⟩ := own_form1 (h.own 3 (in7 (by omega) (by omega)))
  have l3 := h.len 3 (in7 (by omega) (by omega))
  rw [e3] at c3
  have E3 := hide e3
  clear e3
  obtain ⟨p4, k4, e4⟩ := own_form1 (h.own 4 (in7 (by omega) (by omega)))
  have l4 := h.len 4 (in7 (by omega) (by omega))
  rw [e4] at c4
  have E4 := hide e4
  clear e4
  obtain ⟨p5, k5, e5⟩ := own_form1 (h.own 5 (in7 (by omega) (by omega)))
  have l5 := h.len 5 (in7 (by omega) (by omega))
  rw [e5] at c5
  have E5 := hide e5
  clear e5
  clear h c0 c6 c7 hgs
  generalize hG1 : (xs 1).length = G1 at *
  have HG1 := hide hG1
  clear hG1
  generalize hG3 : (xs 3).length = G3 at *
  have HG3 := hide hG3
  clear hG3
  generalize hG4 : (xs 4).length = G4 at *
  have HG4 := hide hG4
  clear hG4
  generalize hG5 : (xs 5).length = G5 at *
  have HG5 := hide hG5
  clear hG5
  go_enter Tryz.func13, Tryz.ntmps13
  go_wp2_with fail
  go_loopw [3] (fun i wx => ∃ (k n : Nat), k ≤ G1 ∧ i = .int .i64 k ∧ wx = w.drewN n) (fun i _ => G1 - (intOf i).toNat)
  case atStart => exact ⟨0, 0, Nat.zero_le _, rfl, rfl⟩
  case round =>
    obtain ⟨k, n3, hk, rfl, rfl⟩ := hrel
    by_cases hltk : k < G1
    · obtain ⟨u, hu⟩ : ∃ u, (xs 1)[k]? = some u := ⟨_, List.getElem?_eq_getElem (by rw [HG1.out]; exact hltk)⟩
      obtain ⟨g, ad, m, cc, rfl, hg, hc, rfl, hm, hh⟩ := H.out.elem (in7 (by omega) (by omega)) E1.out k u hu
      have HH := hide hh
      clear hh hu
      go_wp2_with fail
      go_loopw [4] (fun i wx => ∃ (j n : Nat), j ≤ m ∧ i = .int .i64 j ∧ wx = w.drewN n) (fun i _ => m - (intOf i).toNat)
      case atStart => exact ⟨0, _, Nat.zero_le _, rfl, rfl⟩
      case round =>
        obtain ⟨j, n4, hj, rfl, rfl⟩ := hrel
        by_cases hjm : j < m
        · rcases HH.out with h0 | ⟨g2, rfl, hg2, hcell⟩
          · omega
          · have hjm2 := hjm
            have q0 : w.cell? ⟨g2, j, none⟩ = some (.int .u8 (digitN (k / 4 * 4) j : Int)) := hcell j (by show _ < m * 1; omega)
            have hcast : ((k / 4 * 4 : Nat) : Int) = (k : Int) / 4 * 4 := by omega
            have hdd := hide (cDg.out (k / 4 * 4) j · (by omega) (by omega))
            rw [hcast] at hdd
            have hwr1 : IntKind.i64.wrap ((k : Int) / 4) = (k : Int) / 4 := by rw [IntKind.wrap_i64]; omega
            have hwr2 : IntKind.i64.wrap ((k : Int) / 4 * 4) = (k : Int) / 4 * 4 := by rw [IntKind.wrap_i64]; omega
            clear hcast
            clear hcell hjm2
            go_wp2_with fail
            go_quiet ((go_at_call 39; exact (hdd.out _).mono fun _ _ h => ⟨h.1, _, h.2⟩))
            go_wp2
            go_roundw
            case rel => exact ⟨j + 1, _, by omega, by go_num, rfl⟩
            case measure => simp [intOf]; omega
        · go_wp2
          go_roundw
          case rel => exact ⟨k + 1, _, by omega, by go_num, rfl⟩
          case measure => simp [intOf]; omega
    · go_wp2_with fail
      clear hltk hk
      go_loopw [5] (fun i wx => i = .int .i64 0 ∧ ∃ n, wx = w.drewN n) (fun _ _ => 0)
      case atStart => exact ⟨rfl, _, rfl⟩
      case round =>
        obtain ⟨rfl, n2, rfl⟩ := hrel
        go_wp2_with fail
        go_loopw [8] (fun i wx => ∃ (k n : Nat), k ≤ G3 ∧ i = .int .i64 k ∧ wx = w.drewN n) (fun i _ => G3 - (intOf i).toNat)
        case atStart => exact ⟨0, _, Nat.zero_le _, rfl, rfl⟩
        case round =>
          obtain ⟨k, n3, hk, rfl, rfl⟩ := hrel
          by_cases hltk : k < G3
          · obtain ⟨u, hu⟩ : ∃ u, (xs 3)[k]? = some u := ⟨_, List.getElem?_eq_getElem (by rw [HG3.out]; exact hltk)⟩
            obtain ⟨g, ad, m, cc, rfl, hg, hc, rfl, hm, hh⟩ := H.out.elem (in7 (by omega) (by omega)) E3.out k u hu
            have HH := hide hh
            clear hh hu
            go_wp2_with fail
            go_loopw [9] (fun i wx => ∃ (j n : Nat), j ≤ m ∧ i = .int .i64 j ∧ wx = w.drewN n) (fun i _ => m - (intOf i).toNat)
            case atStart => exact ⟨0, _, Nat.zero_le _, rfl, rfl⟩
            case round =>
              obtain ⟨j, n4, hj, rfl, rfl⟩ := hrel
              by_cases hjm : j < m
              · rcases HH.out with h0 | ⟨g2, rfl, hg2, hcell⟩
                · omega
                · have hjm2 := hjm
                  have q0 : w.cell? ⟨g2, j * 2, none⟩ = some (.string ⟨#[]⟩) := by
                    rw [hcell (j * 2) (by show _ < m * 2; omega)]
                    show some (subF k (j * 2)) = _
                    unfold subF
                    rw [if_pos (by omega)]
                  have q1 : w.cell? ⟨g2, j * 2 + 1, none⟩ = some (.int .i64 (-1 - (k : Int) / 4 * 4)) := by
                    rw [hcell (j * 2 + 1) (by show _ < m * 2; omega)]
                    show some (subF k (j * 2 + 1)) = _
                    unfold subF
                    rw [if_neg (by omega), show ((k / 4 * 4 : Nat) : Int) = (k : Int) / 4 * 4 by omega]
                  clear hcell hjm2
                  go_wp2
                  go_roundw
                  case rel => exact ⟨j + 1, _, by omega, by go_num, rfl⟩
                  case measure => simp [intOf]; omega
              · go_wp2
                go_roundw
                case rel => exact ⟨k + 1, _, by omega, by go_num, rfl⟩
                case measure => simp [intOf]; omega
          · go_wp2_with fail
            clear hltk hk
            go_loopw [10] (fun i wx => ∃ (k n : Nat), k ≤ G4 ∧ i = .int .i64 k ∧ wx = w.drewN n) (fun i _ => G4 - (intOf i).toNat)
            case atStart => exact ⟨0, _, Nat.zero_le _, rfl, rfl⟩
            case round =>
              obtain ⟨k, n3, hk, rfl, rfl⟩ := hrel
              by_cases hltk : k < G4
              · obtain ⟨u, hu⟩ : ∃ u, (xs 4)[k]? = some u := ⟨_, List.getElem?_eq_getElem (by rw [HG4.out]; exact hltk)⟩
                obtain ⟨g, ad, m, cc, rfl, hg, hc, rfl, hm, hh⟩ := H.out.elem (in7 (by omega) (by omega)) E4.out k u hu
                have HH := hide hh
                clear hh hu
                go_wp2_with fail
                go_loopw [11] (fun i wx => ∃ (j n : Nat), j ≤ m ∧ i = .int .i64 j ∧ wx = w.drewN n) (fun i _ => m - (intOf i).toNat)
                case atStart => exact ⟨0, _, Nat.zero_le _, rfl, rfl⟩
                case round =>
                  obtain ⟨j, n4, hj, rfl, rfl⟩ := hrel
                  by_cases hjm : j < m
                  · rcases HH.out with h0 | ⟨g2, rfl, hg2, hcell⟩
                    · omega
                    · have hjm2 := hjm
                      have q0 : w.cell? ⟨g2, j, none⟩ = some (.int .i64 (-1 - (k : Int) / 4 * 4)) := by
                        rw [hcell j (by show _ < m * 1; omega)]
                        show some (codF k j) = _
                        unfold codF
                        rw [show ((k / 4 * 4 : Nat) : Int) = (k : Int) / 4 * 4 by omega]
                      clear hcell hjm2
                      go_wp2
                      go_roundw
                      case rel => exact ⟨j + 1, _, by omega, by go_num, rfl⟩
                      case measure => simp [intOf]; omega
                  · go_wp2
                    go_roundw
                    case rel => exact ⟨k + 1, _, by omega, by go_num, rfl⟩
                    case measure => simp [intOf]; omega
              · go_wp2_with fail
                clear hltk hk
                go_loopw [12] (fun i wx => ∃ (k n : Nat), k ≤ G5 ∧ i = .int .i64 k ∧ wx = w.drewN n) (fun i _ => G5 - (intOf i).toNat)
                case atStart => exact ⟨0, _, Nat.zero_le _, rfl, rfl⟩
                case round =>
                  obtain ⟨k, n3, hk, rfl, rfl⟩ := hrel
                  by_cases hltk : k < G5
                  · obtain ⟨u, hu⟩ : ∃ u, (xs 5)[k]? = some u := ⟨_, List.getElem?_eq_getElem (by rw [HG5.out]; exact hltk)⟩
                    obtain ⟨g, ad, m, cc, rfl, hg, hc, rfl, hm, hh⟩ := H.out.elem (in7 (by omega) (by omega)) E5.out k u hu
                    have HH := hide hh
                    clear hh hu
                    go_wp2_with fail
                    go_loopw [13] (fun i wx => ∃ (j n : Nat), j ≤ m ∧ i = .int .i64 j ∧ wx = w.drewN n) (fun i _ => m - (intOf i).toNat)
                    case atStart => exact ⟨0, _, Nat.zero_le _, rfl, rfl⟩
                    case round =>
                      obtain ⟨j, n4, hj, rfl, rfl⟩ := hrel
                      by_cases hjm : j < m
                      · rcases HH.out with h0 | ⟨g2, rfl, hg2, hcell⟩
                        · omega
                        · have hjm2 := hjm
                          have q0 : w.cell? ⟨g2, j, none⟩ = some (.int .u8 251) := hcell j (by show _ < m * 1; omega)
                          clear hcell hjm2
                          go_wp2
                          go_roundw
                          case rel => exact ⟨j + 1, _, by omega, by go_num, rfl⟩
                          case measure => simp [intOf]; omega
                      · go_wp2
                        go_roundw
                        case rel => exact ⟨k + 1, _, by omega, by go_num, rfl⟩
                        case measure => simp [intOf]; omega
                  · go_wp2_with fail
                    clear hltk hk
                    refine (unhide cH _).mono ?_
                    rintro e w9 ⟨rfl, n9, rfl⟩
                    go_wp2
                    go_ret
                    first | exact ⟨rfl, _, rfl⟩ | exact ⟨rfl, _, drewN_drewN _ _ _⟩
end Go.Proofs.YtnmfmoimjkoieaaGreatDoor.lb
