import Derived.Test.YtnmfmoimjkoieaaGreatDoorJ15
import Derived.Deep.QuietTactic
import Derived.BigQuiet
import Derived.OwnWalk
import Derived.Maps.AppendAt
import Derived.Deep.RegionLawGrows
import Derived.Below
/- courantlaw.kept: of a book as the caller wrote it: true. courantlaw.returned: bytes that were handed in and are as they were: true; then they are turned over and stand in the caller's book. -/
namespace Go.Proofs.YtnmfmoimjkoieaaGreatDoor.lw
open Go.RowKit Go.Proofs.YtnmfmoimjkoieaaGreatDoor.topPlain Go.Proofs.YtnmfmoimjkoieaaGreatDoor.topWalks Go.Proofs.YtnmfmoimjkoieaaGreatDoor.decPlain Go.Proofs.YtnmfmoimjkoieaaGreatDoor.rd

theorem drewN_drewN (w : World) (a b : Nat) : (w.drewN a).drewN b = w.drewN (a + b) := by
  simp [World.drewN, Nat.add_assoc]

set_option maxHeartbeats 6400000 in
set_option maxRecDepth 100000 in
theorem kept_any (w : World) (bw : Nat) (vs vc vt : Value) (ss cc tt : List Value) (h : Wd w bw vs vc vt ss cc tt) :
    Calls Tryz.prog 13 #[.pointer (some ⟨bw, 0, none⟩)] w fun e w' => e = .returned (.bool true) ∧ ∃ n, w' = w.drewN n := by
  have H := hide h
  have cH := hide fun n => handed_any (w.drewN n) bw vs vc vt ss cc tt (h.below (below_drewN (Below.refl _ _) n))
  obtain ⟨c0, c1, c2, c3, c4, c5, c6, c7⟩ := wd_cells h.blk
  have hls := h.ls
  have hlc := h.lc
  have hlt := h.lt
  obtain ⟨ps, ns, ks, rfl⟩ := own_slice h.os
  obtain ⟨pc, nc, kc, rfl⟩ := own_slice h.oc
  obtain ⟨pt, nt, kt, rfl⟩ := own_slice h.ot
  have hns : ns = ss.length := by rcases h.os.2 with ⟨h1, h2⟩ | ⟨g, cap, cur, h1, _⟩ <;> cases h1 <;> omega
  have hnc : nc = cc.length := by rcases h.oc.2 with ⟨h1, h2⟩ | ⟨g, cap, cur, h1, _⟩ <;> cases h1 <;> omega
  have hnt : nt = tt.length := by rcases h.ot.2 with ⟨h1, h2⟩ | ⟨g, cap, cur, h1, _⟩ <;> cases h1 <;> omega
  subst hns hnc hnt
  clear h c0 c6 c7
  go_enter Tryz.func13, Tryz.ntmps13
  go_wp2_with fail
  go_loopw [3] (fun i wx => i = .int .i64 0 ∧ ∃ n, wx = w.drewN n) (fun _ _ => 0)
  case atStart => exact ⟨rfl, 0, rfl⟩
  case round =>
    obtain ⟨rfl, n1, rfl⟩ := hrel
    go_wp2_with fail
    go_loopw [5] (fun i wx => i = .int .i64 0 ∧ ∃ n, wx = w.drewN n) (fun _ _ => 0)
    case atStart => exact ⟨rfl, n1, rfl⟩
    case round =>
      obtain ⟨rfl, n2, rfl⟩ := hrel
      go_wp2_with fail
      go_loopw [8] (fun i wx => ∃ (k n : Nat), k ≤ ss.length ∧ i = .int .i64 k ∧ wx = w.drewN n) (fun i _ => ss.length - (intOf i).toNat)
      case atStart => exact ⟨0, n2, Nat.zero_le _, rfl, rfl⟩
      case round =>
        obtain ⟨k, n3, hk, rfl, rfl⟩ := hrel
        by_cases hltk : k < ss.length
        · obtain ⟨u, hu⟩ : ∃ u, ss[k]? = some u := ⟨_, List.getElem?_eq_getElem hltk⟩
          obtain ⟨g, cap, hv, hgl, hgc⟩ := own_elem H.out.os k u hu
          obtain ⟨ad, m, c, rfl, hm, hh⟩ := H.out.hs k u hu
          simp only [Value.slice.injEq] at hv
          obtain ⟨rfl, _, rfl⟩ := hv
          have HH := hide hh
          clear hh hu
          go_wp2_with fail
          go_loopw [9] (fun i wx => ∃ (j n : Nat), j ≤ m ∧ i = .int .i64 j ∧ wx = w.drewN n) (fun i _ => m - (intOf i).toNat)
          case atStart => exact ⟨0, _, Nat.zero_le _, rfl, rfl⟩
          case round =>
            obtain ⟨j, n4, hj, rfl, rfl⟩ := hrel
            by_cases hjm : j < m
            · rcases HH.out with h0 | ⟨g2, rfl, ho, hg2, hcell⟩
              · omega
              · have q0 : w.cell? ⟨g2, j * 2, none⟩ = some (.string ⟨#[]⟩) := by rw [hcell (j * 2) (by omega)]; simp [subF]
                have q1 : w.cell? ⟨g2, j * 2 + 1, none⟩ = some (.int .i64 (-1 - (k : Int) / 4 * 4)) := by
                  rw [hcell (j * 2 + 1) (by omega)]
                  unfold subF
                  rw [if_neg (by omega), show ((k / 4 * 4 : Nat) : Int) = (k : Int) / 4 * 4 by omega]
                clear hcell
                clear ho
                go_wp2
                go_roundw
                case rel => exact ⟨j + 1, _, by omega, by go_num, rfl⟩
                case measure => simp [intOf]; omega
            · go_wp2
              go_roundw
              case rel => exact ⟨k + 1, _, by omega, by go_num, rfl⟩
              case measure => simp [intOf]; omega
        · go_wp2_with fail
          clear hltk hk
          go_loopw [10] (fun i wx => ∃ (k n : Nat), k ≤ cc.length ∧ i = .int .i64 k ∧ wx = w.drewN n) (fun i _ => cc.length - (intOf i).toNat)
          case atStart => exact ⟨0, _, Nat.zero_le _, rfl, rfl⟩
          case round =>
            obtain ⟨k, n3, hk, rfl, rfl⟩ := hrel
            by_cases hltk : k < cc.length
            · obtain ⟨u, hu⟩ : ∃ u, cc[k]? = some u := ⟨_, List.getElem?_eq_getElem hltk⟩
              obtain ⟨g, cap, hv, hgl, hgc⟩ := own_elem H.out.oc k u hu
              obtain ⟨ad, m, c, rfl, hm, hh⟩ := H.out.hc k u hu
              simp only [Value.slice.injEq] at hv
              obtain ⟨rfl, _, rfl⟩ := hv
              have HH := hide hh
              clear hh hu
              go_wp2_with fail
              go_loopw [11] (fun i wx => ∃ (j n : Nat), j ≤ m ∧ i = .int .i64 j ∧ wx = w.drewN n) (fun i _ => m - (intOf i).toNat)
              case atStart => exact ⟨0, _, Nat.zero_le _, rfl, rfl⟩
              case round =>
                obtain ⟨j, n4, hj, rfl, rfl⟩ := hrel
                by_cases hjm : j < m
                · rcases HH.out with h0 | ⟨g2, rfl, ho, hg2, hcell⟩
                  · omega
                  · have q1 : w.cell? ⟨g2, j, none⟩ = some (.int .i64 (-1 - (k : Int) / 4 * 4)) := by
                      rw [hcell j (by omega)]
                      unfold codF
                      rw [show ((k / 4 * 4 : Nat) : Int) = (k : Int) / 4 * 4 by omega]
                    clear hcell
                    clear ho
                    go_wp2
                    go_roundw
                    case rel => exact ⟨j + 1, _, by omega, by go_num, rfl⟩
                    case measure => simp [intOf]; omega
                · go_wp2
                  go_roundw
                  case rel => exact ⟨k + 1, _, by omega, by go_num, rfl⟩
                  case measure => simp [intOf]; omega
            · go_wp2_with fail
              clear hltk hk
              go_loopw [12] (fun i wx => ∃ (k n : Nat), k ≤ tt.length ∧ i = .int .i64 k ∧ wx = w.drewN n) (fun i _ => tt.length - (intOf i).toNat)
              case atStart => exact ⟨0, _, Nat.zero_le _, rfl, rfl⟩
              case round =>
                obtain ⟨k, n3, hk, rfl, rfl⟩ := hrel
                by_cases hltk : k < tt.length
                · obtain ⟨u, hu⟩ : ∃ u, tt[k]? = some u := ⟨_, List.getElem?_eq_getElem hltk⟩
                  obtain ⟨g, cap, hv, hgl, hgc⟩ := own_elem H.out.ot k u hu
                  obtain ⟨ad, m, c, rfl, hm, hh⟩ := H.out.ht k u hu
                  simp only [Value.slice.injEq] at hv
                  obtain ⟨rfl, _, rfl⟩ := hv
                  have HH := hide hh
                  clear hh hu
                  go_wp2_with fail
                  go_loopw [13] (fun i wx => ∃ (j n : Nat), j ≤ m ∧ i = .int .i64 j ∧ wx = w.drewN n) (fun i _ => m - (intOf i).toNat)
                  case atStart => exact ⟨0, _, Nat.zero_le _, rfl, rfl⟩
                  case round =>
                    obtain ⟨j, n4, hj, rfl, rfl⟩ := hrel
                    by_cases hjm : j < m
                    · rcases HH.out with h0 | ⟨g2, rfl, ho, hg2, hcell⟩
                      · omega
                      · have q1 : w.cell? ⟨g2, j, none⟩ = some (.int .u8 251) := hcell j (by omega)
                        clear hcell
                        clear ho
                        go_wp2
                        go_roundw
                        case rel => exact ⟨j + 1, _, by omega, by go_num, rfl⟩
                        case measure => simp [intOf]; omega
                    · go_wp2
                      go_roundw
                      case rel => exact ⟨k + 1, _, by omega, by go_num, rfl⟩
                      case measure => simp [intOf]; omega
                · go_wp2_with fail
                  refine (unhide cH _).mono ?_
                  rintro e w9 ⟨rfl, n9, rfl⟩
                  go_wp2
                  go_ret
                  first | exact ⟨rfl, _, rfl⟩ | exact ⟨rfl, _, drewN_drewN _ _ _⟩
end Go.Proofs.YtnmfmoimjkoieaaGreatDoor.lw

namespace Go.Proofs.YtnmfmoimjkoieaaGreatDoor.lw
open Go.RowKit Go.Proofs.YtnmfmoimjkoieaaGreatDoor.topPlain Go.Proofs.YtnmfmoimjkoieaaGreatDoor.topWalks Go.Proofs.YtnmfmoimjkoieaaGreatDoor.decPlain Go.Proofs.YtnmfmoimjkoieaaGreatDoor.rd

theorem infoBytes : (Tryz.prog.info? 45).map (fun i => (i.zero, i.size, i.bytes)) = some (some (.slice none 0 0), 1, 24) := by kernel_rfl
theorem conv_lent {w : World} {bl : Nat} {s : ByteArray} (hl : w.rowIs bl 5 (s.size + 2) (lentF s.data.toList)) : (convert 45 9 (.slice (some ⟨bl, 0, none⟩) s.size (s.size + 2))).run Tryz.prog w = .ok (.string s) w := by
  have hsz := Lib.size_eq s
  have h := conv_bytes (w := w) (b := bl) (off := 0) (cap := s.size + 2) (n := s.size) (l := s.data.toList) (by omega) (fun j x hx => by
    have hj : j < s.data.toList.length := (List.getElem?_eq_some_iff.1 hx).1
    rw [Nat.zero_add, hl.cell (i := j) (by omega)]
    unfold lentF
    rw [if_pos hj, List.getD_eq_getElem?_getD, hx]
    rfl)
  rw [List.take_of_length_le (by omega), bs_data] at h
  exact h

/-- the book behind one list more of what was turned over -/
theorem turned_wd {w wr w3 : World} {bw bl n : Nat} {vs vc vt v' : Value} {ss cc tt : List Value} {o : Obj} (h : Wd w bw vs vc vt ss cc tt) (hfr : Free bw vs vc vt ss cc tt bl) (hbs : bl < w.heap.size) (hbb : bw < bl) (hn : n ≤ 1099511627780) (hg : w.grownBy wr (some bl)) (hrow : wr.rowIs bl 5 n (fun _ => .int .u8 251)) (h9 : tt.length < 999)
    (hown' : w3.ownsRow (bw + 1) 45 1 v' (tt.length + 1) (tt ++ [.slice (some ⟨bl, 0, none⟩) n n])) (hgrow : (wr.alloc o).grownBy w3 vt.ownBlock) (hnew : ∀ b, v'.ownBlock = some b → vt.ownBlock = some b ∨ wr.heap.size ≤ b) :
    Wd (w3.setCell ⟨bw, 5, none⟩ v') bw vs vc v' ss cc (tt ++ [.slice (some ⟨bl, 0, none⟩) n n]) ∧ (∀ b, b < w.heap.size → Free bw vs vc vt ss cc tt b → b ≠ bl → (w3.setCell ⟨bw, 5, none⟩ v').heap[b]? = w.heap[b]? ∧ Free bw vs vc v' ss cc (tt ++ [.slice (some ⟨bl, 0, none⟩) n n]) b) ∧ Below bw w (w3.setCell ⟨bw, 5, none⟩ v') := by
  have hbw := h.lt'
  have hwr := hg.size
  have hw3 : wr.heap.size < w3.heap.size := Nat.lt_of_lt_of_le (by simp) hgrow.size
  have hsz : (w3.setCell ⟨bw, 5, none⟩ v').heap.size = w3.heap.size := by simp [World.setCell]
  have keep : ∀ b, b < w.heap.size → b ≠ bl → vt.ownBlock ≠ some b → w3.heap[b]? = w.heap[b]? := fun b hb h1 h2 => by
    rw [hgrow.block b (by simp; omega) (fun e => h2 e.symm), Below.heap_alloc _ _ _ (by omega), hg.block b hb (fun e => h1 (Option.some.inj e))]
  have keep4 : ∀ b, b < w.heap.size → b ≠ bl → vt.ownBlock ≠ some b → b ≠ bw → (w3.setCell ⟨bw, 5, none⟩ v').heap[b]? = w.heap[b]? := fun b hb h1 h2 h3 => (Below.heap_setCell _ _ _ _ h3).trans (keep b hb h1 h2)
  have hvtb : vt.ownBlock ≠ some bw := fun e => by
    have := (h.ot.lt bw e).1
    omega
  have hrow3 : w3.rowIs bl 5 n (fun _ => .int .u8 251) := by
    refine (hrow.alloc o).of_block ?_
    exact hgrow.block bl (by simp; omega) (fun e => hfr.1.2.2.2 e.symm)
  have hout : ∀ g, OutB bw vs vc vt g → g < w.heap.size → OutB bw vs vc v' g := fun g ho hl => ⟨ho.1, ho.2.1, ho.2.2.1, fun e => by
    rcases hnew g e with h1 | h1
    · exact ho.2.2.2 h1
    · omega⟩
  have held : ∀ sz f xs, (∀ u, u ∈ xs → u.ownBlock ≠ some bl) → Held w sz f xs (OutB bw vs vc vt) → Held (w3.setCell ⟨bw, 5, none⟩ v') sz f xs (OutB bw vs vc v') := fun sz f xs hx hh =>
    hh.keep (by omega) (fun u g hu hub ho hl => ⟨hout g ho hl, keep4 g hl (fun e => hx u hu (by rw [hub, e])) ho.2.2.2 ho.1⟩)
  have hob : OutB bw vs vc v' bl := hout bl hfr.1 hbs
  have hks : ∀ {e : TypeId} {u : Value} {k : Nat} {ys : List Value}, w.ownsRow (bw + 1) e 1 u k ys → u.ownBlock ≠ some bl → (∀ b, u.ownBlock = some b → vt.ownBlock ≠ some b) → (w3.setCell ⟨bw, 5, none⟩ v').ownsRow (bw + 1) e 1 u k ys := fun {e u k ys} hu h1 h2 => by
    refine own_keep (((hu.kept hg ?_).alloc o).kept hgrow ?_) (Nat.lt_succ_self bw) (grown_set _ _ _ _)
    · cases hv : u.ownBlock with
      | none => exact Or.inl rfl
      | some q => exact Or.inr (fun e => h1 (by rw [hv, Option.some.inj e]))
    · cases hv : u.ownBlock with
      | none => exact Or.inl rfl
      | some q => exact Or.inr (fun e => h2 q hv e.symm)
  refine ⟨⟨?_, hks h.os hfr.1.2.1 h.n2, hks h.oc hfr.1.2.2.1 h.n3, ?_, h.n1, ?_, ?_, held _ _ _ (fun u hu => hfr.2 u (Or.inl hu)) h.hs, held _ _ _ (fun u hu => hfr.2 u (Or.inr (Or.inl hu))) h.hc, ?_, h.ls, h.lc, by simp; omega, fun u hu b e => ?_⟩, ?_, ?_⟩
  · have hb : w3.heap[bw]? = _ := (keep bw hbw (by omega) hvtb).trans h.blk
    rw [heap_setCell_same w3 bw 5 _ _ v' hb]
    rfl
  · rw [List.length_append]
    exact own_keep hown' (Nat.lt_succ_self bw) (grown_set _ _ _ _)
  · intro b hb e
    rcases hnew b e with h1 | h1
    · exact h.n2 b hb h1
    · have := (h.os.lt b hb).2; omega
  · intro b hb e
    rcases hnew b e with h1 | h1
    · exact h.n3 b hb h1
    · have := (h.oc.lt b hb).2; omega
  · intro i u hu
    rcases Nat.lt_or_ge i tt.length with hi | hi
    · rw [List.getElem?_append_left hi] at hu
      exact held _ _ _ (fun u hu => hfr.2 u (Or.inr (Or.inr hu))) h.ht i u hu
    · rw [List.getElem?_append_right hi] at hu
      have hi0 : i - tt.length = 0 := by
        have := (List.getElem?_eq_some_iff.1 hu).1
        simp at this
        omega
      rw [hi0] at hu
      simp at hu
      subst hu
      exact ⟨_, _, _, rfl, hn, Or.inr ⟨bl, rfl, hob, by omega, fun j hj => by
        rw [World.cell?_of_block (w := w3) (Below.heap_setCell _ _ _ _ (by simp; omega))]
        exact hrow3.cell (by omega)⟩⟩
  · rw [hsz]
    rcases hu with h1 | h1 | h1
    · have := h.hd u (Or.inl h1) b e; omega
    · have := h.hd u (Or.inr (Or.inl h1)) b e; omega
    · rcases List.mem_append.1 h1 with h2 | h2
      · have := h.hd u (Or.inr (Or.inr h2)) b e; omega
      · rw [List.mem_singleton.1 h2] at e
        have := Option.some.inj e
        simp at this
        omega
  · intro b hb hf hne
    refine ⟨keep4 b hb hne hf.1.2.2.2 hf.1.1, hout b hf.1 hb, fun u hu => ?_⟩
    rcases hu with h1 | h1 | h1
    · exact hf.2 u (Or.inl h1)
    · exact hf.2 u (Or.inr (Or.inl h1))
    · rcases List.mem_append.1 h1 with h2 | h2
      · exact hf.2 u (Or.inr (Or.inr h2))
      · rw [List.mem_singleton.1 h2]
        exact fun e => hne (Option.some.inj e).symm
  · refine ⟨hgrow.os.trans hg.os, hgrow.tape.trans hg.tape, hgrow.output.trans hg.output, by omega, fun k hk => ?_⟩
    exact keep4 k (by omega) (by omega) (fun e => by have := (h.ot.lt k e).1; omega) (by omega)

set_option maxHeartbeats 3200000 in
set_option maxRecDepth 100000 in
theorem returned_any (w : World) (bw bl : Nat) (vs vc vt : Value) (ss cc tt : List Value) (s : ByteArray) (hs : s.size ≤ 1099511627776) (h : Wd w bw vs vc vt ss cc tt) (hl : w.rowIs bl 5 (s.size + 2) (lentF s.data.toList)) (hfr : Free bw vs vc vt ss cc tt bl) (hbb : bw < bl) (h9 : tt.length < 999) :
    Calls Tryz.prog 34 #[.pointer (some ⟨bw, 0, none⟩), .slice (some ⟨bl, 0, none⟩) (s.size + 2) (s.size + 2), .string s] w fun e w' => e = .returned (.bool true) ∧ ∃ vt', Wd w' bw vs vc vt' ss cc (tt ++ [.slice (some ⟨bl, 0, none⟩) (s.size + 2) (s.size + 2)]) ∧ (∀ b, b < w.heap.size → Free bw vs vc vt ss cc tt b → b ≠ bl → w'.heap[b]? = w.heap[b]? ∧ Free bw vs vc vt' ss cc (tt ++ [.slice (some ⟨bl, 0, none⟩) (s.size + 2) (s.size + 2)]) b) ∧ Below bw w w' := by
  have HFR := hide hfr
  have H := hide h
  have hcv := conv_lent hl
  obtain ⟨c0, c1, c2, c3, c4, c5, c6, c7⟩ := wd_cells h.blk
  have HL := hide hl
  have k1 := hl.cell (i := s.size) (by omega)
  have k2 := hl.cell (i := s.size + 1) (by omega)
  have hsz := Lib.size_eq s
  have e1 : lentF s.data.toList s.size = .int .u8 252 := by unfold lentF; rw [if_neg (by omega), if_pos (by omega)]
  have e2 : lentF s.data.toList (s.size + 1) = .int .u8 253 := by unfold lentF; rw [if_neg (by omega), if_neg (by omega)]
  rw [e1] at k1
  rw [e2] at k2
  obtain ⟨i0, hi, hz0, hz1, hz2⟩ := info_parts infoBytes
  have HSZ := hide hsz
  clear hfr h hl hsz e1 e2 c0 c1 c2 c3 c4 c6 c7
  go_enter Tryz.func34, Tryz.ntmps34
  go_wp2_with fail
  go_loopw [9] (fun i wx => ∃ (k : Nat), k ≤ s.size + 2 ∧ i = .int .i64 k ∧ wx.rowIs bl 5 (s.size + 2) (fun j => if j < k then .int .u8 251 else lentF s.data.toList j) ∧ w.grownBy wx (some bl)) (fun i _ => s.size + 2 - (intOf i).toNat)
  case atStart => exact ⟨0, Nat.zero_le _, rfl, HL.out.congr (fun i _ => by simp), grown_refl _ _⟩
  case round =>
    obtain ⟨k, hk, rfl, hrow, hg⟩ := hrel
    by_cases hlt : k < s.size + 2
    · have q1 := hrow.cell hlt
      have f1 := hrow.frozen k
      have HR2 := hide (hrow.set k (.int .u8 251))
      have HG := hide (grown_trans hg (grown_set wr bl k (.int .u8 251)))
      have hlti : (k : Int) < (s.size : Int) + 2 := by omega
      clear hrow hg
      go_wp2_with fail
      go_roundw
      case rel =>
        refine ⟨k + 1, by omega, by go_num, HR2.out.congr (fun i _ => ?_), HG.out⟩
        show (if i = k then Value.int .u8 251 else if i < k then .int .u8 251 else lentF s.data.toList i) = if i < k + 1 then .int .u8 251 else lentF s.data.toList i
        by_cases h1 : i = k
        · rw [if_pos h1, if_pos (by omega)]
        · rw [if_neg h1]
          by_cases h2 : i < k
          · rw [if_pos h2, if_pos (by omega)]
          · rw [if_neg h2, if_neg (by omega)]
      case measure => simp [intOf]; omega
    · have hnlt : ¬ (k : Int) < (s.size : Int) + 2 := by omega
      have HR2 := hide (hrow.congr (g := fun _ => .int .u8 251) (fun i hi => by show (if i < k then Value.int .u8 251 else lentF s.data.toList i) = .int .u8 251; rw [if_pos (by omega)]))
      have HG := hide hg
      have c5r : wr.cell? ⟨bw, 5, none⟩ = some vt := hg.cell c5 (by simp; omega)
      have hblk : wr.heap[bw]? = _ := (hg.block bw H.out.lt' (by simp; omega)).trans H.out.blk
      have hOt := H.out.ot.kept hg (by
        cases hv : vt.ownBlock with
        | none => exact Or.inl rfl
        | some k => exact Or.inr (fun e => HFR.out.1.2.2.2 (by rw [hv]; exact e)))
      have HBK := hide hblk
      have HOT := hide hOt
      have hwrs := hg.size
      have hNN := H.out.lt'
      clear hrow hg hblk hOt c5 k1 k2 hcv
      have hown := HOT.out
      go_wp2_with (first
        | (at_builtin; refine wpList_append_own_at _ rfl _ _ 24 rfl (bw + 1) 45 i0 (.slice none 0 0) 1 24 Tryz.underlying24 hi hz0 hz1 hz2 rfl (by decide) _ _ _ rfl (hown.alloc _) ⟨wr.heap.size, 0, none⟩ 1 1 [.slice (some ⟨bl, 0, none⟩) (s.size + 2) (s.size + 2)] rfl rfl (cell_one_new _ _ _) ?c2 ?c3 ?c4 ?c5 ?_))
      case c2 => first | rfl | (intro u hu; simp at hu; subst hu; rfl)
      case c3 => unfold maxLen; omega
      case c4 => omega
      case c5 => first | omega | (simp; omega)
      intro v' w3 hown' hgrow _ hat
      have hvtb : vt.ownBlock ≠ some bw := fun e => by have := (H.out.ot.lt bw e).1; omega
      have hb3 : w3.heap[bw]? = _ := (hgrow.block bw (by simp; omega) (fun e => hvtb e.symm)).trans ((Below.heap_alloc _ _ _ (by omega)).trans HBK.out)
      have T := turned_wd (o := .cells #[.slice (some ⟨bl, 0, none⟩) (s.size + 2) (s.size + 2)] 45) H.out HFR.out HL.out.lt hbb (by omega) HG.out HR2.out h9 hown' hgrow (fun b e => by
        rcases hat with h | h
        · exact Or.inl (h.symm.trans e)
        · rw [h] at e; have := Option.some.inj e; exact Or.inr (by first | omega | (simp at this; omega)))
      have HT := hide T
      obtain ⟨g', cap', rfl⟩ := own_form hown' (by omega)
      obtain ⟨_, _, _, _, _, d5, _, _⟩ := wd_cells hb3
      have f5 : w3.frozen? ⟨bw, 5, none⟩ = false := by simp [World.frozen?, hb3]
      clear T hown' hgrow hat hb3 hvtb hown
      go_wp2
      go_ret
      exact ⟨rfl, _, HT.out⟩
end Go.Proofs.YtnmfmoimjkoieaaGreatDoor.lw

/- append to a list of the call's own: it stays in its row, or the new row is a new block and all that was there is as it was. No program is named here. -/
namespace Go.Proofs.YtnmfmoimjkoieaaGreatDoor.lw
open Go

theorem run_append_keep {P : Program} (w : World) (base : Nat) (t ty e : TypeId) (i : TypeInfo) (z : Value) (size bytes : Nat) (ht : P.underlying t = some (.slice e)) (hi : P.info? e = some i) (hz : i.zero = some z)
    (hsize : i.size = size) (hby : i.bytes = bytes) (hzs : z.cells.size = size) (hsz : 0 < size) (v : Value) (n : Nat) (xs : List Value) (hown : w.ownsRow base e size v n xs)
    (a : Addr) (m c : Nat) (hm : 0 < m) (news : List Value) (hl : news.length = m * size) (hnews : ∀ j u, news[j]? = some u → w.cell? (a.add j) = some u) (h1 : ∀ u ∈ news, u.oneCell' = true)
    (h63 : n + m ≤ maxLen) (hbytes : (n + m) * bytes ≤ 140737488355328) (hbase : base ≤ w.heap.size) :
    ∃ v' w', (Builtin.append_ #[t, t] ty #[v, .slice (some a) m c]).run P w = .ok v' w' ∧ w'.ownsRow base e size v' (n + m) (xs ++ news) ∧ w.grownBy w' v.ownBlock ∧ (v'.ownBlock = v.ownBlock ∨ v'.ownBlock = some w.heap.size ∧ w.grownBy w' none) := by
  obtain ⟨v', w', hr, h2, h3, _, h5⟩ := run_append_own_at (P := P) w base t ty e i z size bytes ht hi hz hsize hby hzs hsz v n xs hown a m c news hl hnews h1 h63 hbytes hbase
  refine ⟨v', w', hr, h2, h3, ?_⟩
  have h63' : n + m ≤ 9223372036854775807 := by unfold maxLen at h63; omega
  rcases hown.2 with ⟨rfl, rfl⟩ | ⟨g, cap, cur, rfl, _, hg, _, _, hcs, _⟩
  · have hr2 := run_append_nil (P := P) w t ty e i z ht hi hz a m c news (by rw [hsize]; exact hl) hnews hm (by omega) (by rw [hby]; rw [Nat.zero_add] at hbytes; omega)
    have e2 := hr.symm.trans hr2
    simp only [Result.ok.injEq] at e2
    refine Or.inr ⟨by rw [e2.1]; rfl, ?_⟩
    rw [e2.2]
    exact ⟨rfl, rfl, rfl, by simp, fun k hk _ => Go.RowKit.Below.heap_alloc w.drew _ k hk⟩
  · by_cases hroom : n + m ≤ cap
    · have hr2 := run_append_room (P := P) w t ty e i ht hi g n cap cur hg a m c news (by rw [hsize]; exact hl) hnews h1 hroom (by rw [hl, hcs, hsize, ← Nat.add_mul]; exact Nat.mul_le_mul_right _ hroom)
      have e2 := hr.symm.trans hr2
      simp only [Result.ok.injEq] at e2
      exact Or.inl (by rw [e2.1]; rfl)
    · have holds : ∀ j u, xs[j]? = some u → w.cell? ((⟨g, 0, none⟩ : Addr).add j) = some u := hown.cells (g := g) rfl
      have hr2 := run_append_grow (P := P) w t ty e i z ht hi hz ⟨g, 0, none⟩ n cap xs (by rw [hsize]; exact hown.1) holds a m c news (by rw [hsize]; exact hl) hnews (by omega) (by omega) (growslice_fits (by omega) (by rw [hby]; exact hbytes))
      have e2 := hr.symm.trans hr2
      simp only [Result.ok.injEq] at e2
      refine Or.inr ⟨by rw [e2.1]; rfl, ?_⟩
      rw [e2.2]
      exact ⟨rfl, rfl, rfl, by simp, fun k hk _ => Go.RowKit.Below.heap_alloc w.drew _ k hk⟩

theorem wpList_append_keep {P : Program} (w : World) {ops : Array Oper} {rest : List Oper} {o : Oper} {a : Act} {Q : Exit → Act → World → Prop} (hgd : o.guard = none) (s x : Operand) (t : TypeId)
    (ho : o.op = .call { callee := .builtin .append, args := #[s, x], argTypes := #[t, t] }) (base : Nat) (e : TypeId) (i : TypeInfo) (z : Value) (size bytes : Nat) (ht : P.underlying t = some (.slice e)) (hi : P.info? e = some i) (hz : i.zero = some z)
    (hsize : i.size = size) (hby : i.bytes = bytes) (hzs : z.cells.size = size) (hsz : 0 < size) (v : Value) (n : Nat) (xs : List Value) (hs : a.eval s = v) (hown : w.ownsRow base e size v n xs)
    (ad : Addr) (m c : Nat) (hm : 0 < m) (news : List Value) (hx : a.eval x = .slice (some ad) m c) (hl : news.length = m * size) (hnews : ∀ j u, news[j]? = some u → w.cell? (ad.add j) = some u) (h1 : ∀ u ∈ news, u.oneCell' = true)
    (h63 : n + m ≤ maxLen) (hbytes : (n + m) * bytes ≤ 140737488355328) (hbase : base ≤ w.heap.size)
    (h : ∀ v' w', w'.ownsRow base e size v' (n + m) (xs ++ news) → w.grownBy w' v.ownBlock → (v'.ownBlock = v.ownBlock ∨ v'.ownBlock = some w.heap.size ∧ w.grownBy w' none) → wpList P ops Q rest (a.put o.dst v') w') :
    wpList P ops Q (o :: rest) a w := by
  refine wpList_plain hgd fun K hK => ?_
  obtain ⟨v', w', hr, h2, h3, h4⟩ := run_append_keep (P := P) w base t o.type e i z size bytes ht hi hz hsize hby hzs hsz v n xs hown ad m c hm news hl hnews h1 h63 hbytes hbase
  unfold Oper.wp
  simp [execOp, ho, resolve, invoke, builtin, hs, hx, hr, Result.andThen]
  exact hK _ _ (h v' w' h2 h3 h4)
end Go.Proofs.YtnmfmoimjkoieaaGreatDoor.lw
