import Derived.Test.YtnmfmoimjkoieaaGreatDoorK30
/- Reread, where Encode takes it. -/
namespace Go.Proofs.YtnmfmoimjkoieaaGreatDoor.br
open Go.RowKit Go.Proofs.YtnmfmoimjkoieaaGreatDoor.topPlain Go.Proofs.YtnmfmoimjkoieaaGreatDoor.topWalks Go.Proofs.YtnmfmoimjkoieaaGreatDoor.decPlain Go.Proofs.YtnmfmoimjkoieaaGreatDoor.rd Go.Proofs.YtnmfmoimjkoieaaGreatDoor.ew Go.Proofs.YtnmfmoimjkoieaaGreatDoor.encPlain Go.Proofs.YtnmfmoimjkoieaaGreatDoor.rf

set_option maxHeartbeats 3200000 in
set_option maxRecDepth 100000 in
theorem reread_some (ash aw : Addr) (p : Pkt) (fs : List (List UInt8 × Int)) (cs : List Int) (any : ByteArray) (cut : Int) (w : World) (b : List UInt8) (hR : encL (fwW p) (cbW p) p fs cs = some b) (hf : FilW w p.fv fs) (hc : IntW w p.cv cs) (ha : any.size ≤ 1048576) (h1 : -9223372036854775808 ≤ cut) (h2 : cut ≤ 9223372036854775807) (hG : Gd w.heap.size ash aw w) :
    Calls Tryz.prog 6 #[.agg (pkK p), .string any, .int .i64 cut] w fun e w' => e = .returned (.bool true) ∧ Below w.heap.size w w' := by
  have cS := hide fun w' (hb : Below w.heap.size w w') => sure_head w' ash aw (hG.below hb).up
  have cE := hide fun w' (hb : Below w.heap.size w w') => cEncode_x ash aw p fs cs w' (filW_below hf hb) (intW_below hc hb) (hG.below hb).errs (hG.below hb).env'
  have HG := hide hG
  have cD := hide fun w' k (hk : k = w'.heap.size) (hb : Below w.heap.size w w') => dec_str (ash := ash) (aw := aw) any w' k hk (by omega) hb hG
  have hfv : ∃ a b c, p.fv = .slice a b c := by obtain ⟨q, cap, e, _⟩ := hf; exact ⟨_, _, _, e⟩
  have hcv : ∃ a b c, p.cv = .slice a b c := by obtain ⟨q, cap, e, _⟩ := hc; exact ⟨_, _, _, e⟩
  obtain ⟨f1, f2, f3, hfv⟩ := hfv
  obtain ⟨c1, c2, c3, hcv⟩ := hcv
  rw [hR] at cE
  have HR := hide hR
  simp only [pkK, pkCells, hfv, hcv] at cE ⊢
  clear hf hc hG hfv hcv hR
  go_enter Tryz.func6, Tryz.ntmps6
  go_wp2_with fail
  obtain ⟨W0, hW0⟩ : ∃ W0, W0 = w.alloc (.cells #[.int .i64 p.kind, .bool p.clean, .bool p.will, .int .i64 p.keep, .string (bs p.client), .bool p.present, .int .i64 p.code, .bool p.dup, .int .i64 p.qos, .bool p.retain, .string (bs p.topic), .string (bs p.payload), .int .i64 p.id, .slice f1 f2 f3, .slice c1 c2 c3] 36) := ⟨_, rfl⟩
  have hb0 : Below w.heap.size w W0 := by rw [hW0]; exact (Below.refl _ _).alloc (Nat.le_refl _) _
  have hn0 := heap_alloc_new w (.cells #[.int .i64 p.kind, .bool p.clean, .bool p.will, .int .i64 p.keep, .string (bs p.client), .bool p.present, .int .i64 p.code, .bool p.dup, .int .i64 p.qos, .bool p.retain, .string (bs p.topic), .string (bs p.payload), .int .i64 p.id, .slice f1 f2 f3, .slice c1 c2 c3] 36)
  rw [← hW0] at hn0 ⊢
  clear hW0
  refine (cS.out _ hb0).mono ?_
  rintro e w1 ⟨rfl, hB1⟩
  have hn1 := (hB1.block _ (blk_lt hn0)).trans hn0
  have HB1 := hide (hb0.trans (hB1.mono hb0.size))
  have hl1 := blk_lt hn1
  have k0 : w1.cell? ⟨w.heap.size, 0, none⟩ = some (.int .i64 p.kind) := blk_cell hn1 rfl
  have k1 : w1.cell? ⟨w.heap.size, 1, none⟩ = some (.bool p.clean) := blk_cell hn1 rfl
  have k2 : w1.cell? ⟨w.heap.size, 2, none⟩ = some (.bool p.will) := blk_cell hn1 rfl
  have k3 : w1.cell? ⟨w.heap.size, 3, none⟩ = some (.int .i64 p.keep) := blk_cell hn1 rfl
  have k4 : w1.cell? ⟨w.heap.size, 4, none⟩ = some (.string (bs p.client)) := blk_cell hn1 rfl
  have k5 : w1.cell? ⟨w.heap.size, 5, none⟩ = some (.bool p.present) := blk_cell hn1 rfl
  have k6 : w1.cell? ⟨w.heap.size, 6, none⟩ = some (.int .i64 p.code) := blk_cell hn1 rfl
  have k7 : w1.cell? ⟨w.heap.size, 7, none⟩ = some (.bool p.dup) := blk_cell hn1 rfl
  have k8 : w1.cell? ⟨w.heap.size, 8, none⟩ = some (.int .i64 p.qos) := blk_cell hn1 rfl
  have k9 : w1.cell? ⟨w.heap.size, 9, none⟩ = some (.bool p.retain) := blk_cell hn1 rfl
  have k10 : w1.cell? ⟨w.heap.size, 10, none⟩ = some (.string (bs p.topic)) := blk_cell hn1 rfl
  have k11 : w1.cell? ⟨w.heap.size, 11, none⟩ = some (.string (bs p.payload)) := blk_cell hn1 rfl
  have k12 : w1.cell? ⟨w.heap.size, 12, none⟩ = some (.int .i64 p.id) := blk_cell hn1 rfl
  have k13 : w1.cell? ⟨w.heap.size, 13, none⟩ = some (.slice f1 f2 f3) := blk_cell hn1 rfl
  have k14 : w1.cell? ⟨w.heap.size, 14, none⟩ = some (.slice c1 c2 c3) := blk_cell hn1 rfl
  clear hB1 hn0 hb0
  go_wp2_with fail
  refine (cE.out _ HB1.out).mono ?_
  rintro e w2 ⟨hB2, hP⟩
  have HB2 := hide (HB1.out.trans (hB2.mono HB1.out.size))
  obtain ⟨v, rfl, ho⟩ := hP
  obtain ⟨qd, hqd, _⟩ := dec_enc HR.out
  have hbl : 1 ≤ b.length ∧ b.length ≤ 303 := by
    obtain ⟨x, r, p', m, k, e1, _, e3, _, _, e6⟩ := dec_parts hqd
    have := lenL_le e3
    omega
  have HQD := hide hqd
  have HO := hide ho
  have hs2 := hB2.size
  obtain ⟨i0, hi, hz0, hz1, hz2⟩ := info_parts infoB
  obtain ⟨qb, kb, rfl⟩ := own_form ho
  clear ho hqd hB2
  go_wp2_with (first
    | (at_builtin; refine wpList_append_two _ rfl _ _ 45 rfl w2.heap.size 5 i0 (.int .u8 0) 1 1 Tryz.underlying45 hi hz0 hz1 hz2 rfl (by decide) (.slice none 0 0) 0 [] rfl ⟨rfl, Or.inl ⟨rfl, rfl⟩⟩ w1.heap.size _ b.length (u8s b) rfl HO.out (u8s_one _) ?c3 ?c4 ?c5 ?_))
  case c3 => unfold maxLen; omega
  case c4 => omega
  case c5 => omega
  intro v5 w5 hown5 hgrow5
  have hB5 : Below w2.heap.size w2 w5 := (But.of_grown (F := fun _ => False) hgrow5 (fun b hb => by cases hb)).below'
  have HO5 := hide hown5
  have HB5 := hide hB5
  clear hown5 hgrow5 hB5
  go_wp2_with (first
    | (at_builtin; refine wpList_append_at_string _ rfl _ _ 45 9 rfl w2.heap.size 5 i0 Tryz.underlying45 Tryz.underlying9 hi hz0 hz1 hz2 v5 b.length (u8s b) rfl HO5.out any rfl ?d1 ?d2 ?d3 ?_))
  case d1 => unfold maxLen; omega
  case d2 => omega
  case d3 => exact HB5.out.size
  intro v6 w6 hown6 hgrow6 _
  have hB6 : Below w2.heap.size w2 w6 := HB5.out.trans ((But.of_grown (F := fun b => w2.heap.size ≤ b) hgrow6 (fun b hb => (own_zero HO5.out).2 b hb)).below (fun _ h => h) HB5.out.size)
  have hbl6 : (b ++ any.data.toList).length = b.length + any.size := by rw [List.length_append, len_str]
  have ho6 : w6.ownsRow w2.heap.size 5 1 v6 (b ++ any.data.toList).length (u8s (b ++ any.data.toList)) := by
    rw [hbl6, u8s_append, ← strC]; exact hown6
  have HBw6 := hide (HB2.out.trans (hB6.mono HB2.out.size))
  have HB6 := hide hB6
  have cD2 := hide (dec_own (ash := ash) (aw := aw) ho6 (by omega) (by omega) (HG.out.below HBw6.out))
  rw [dec_app any.data.toList HQD.out] at cD2
  obtain ⟨q6, kp6, rfl⟩ := own_form ho6
  rw [hbl6] at cD2 ⊢
  clear hown6 hgrow6 hB6 ho6 hbl6 HO5
  go_wp2_with fail
  refine cD2.out.mono ?_
  rintro e w7 ⟨hB7, fv7, cv7, rfl, hf7, hc7⟩
  obtain ⟨pf7, nf7, rfl⟩ := own_form hf7
  obtain ⟨pc7, nc7, rfl⟩ := own_form hc7
  have HBw7 := hide (HBw6.out.trans (hB7.mono HBw6.out.size))
  have HB7 := hide (HB6.out.trans (hB7.mono HB6.out.size))
  clear hB7 hf7 hc7
  simp only [pkCells]
  go_wp2_with fail
  have HA7 := hide fun o => (Below.refl w7.heap.size w7).alloc (Nat.le_refl _) o
  refine (pick_any cut b.length _ (by omega) h1 h2 (by omega)).mono ?_
  rintro e w8 ⟨⟨r, hr, rfl⟩, hB8⟩
  have hB78 := (HA7.out _).trans (hB8.mono (HA7.out _).size)
  have HBw8 := hide (HBw7.out.trans (hB78.mono HBw7.out.size))
  have ho8 := own_keep HO.out (fun g hg => ((HB7.out.trans (hB78.mono HB7.out.size)).block g (by obtain ⟨cur, hc⟩ := own_blk HO.out hg; exact blk_lt hc)))
  obtain ⟨g8, rfl, _, hk8, hk8', _⟩ := own_at ho8 (by omega)
  unfold maxLen at hk8'
  have cD3 := hide (dec_part (r := r) (ash := ash) (aw := aw) ho8 (by omega) (by omega) (HG.out.below HBw8.out))
  rw [dec_short HQD.out hr] at cD3
  clear hB8 hB78 ho8
  go_wp2_with fail
  refine cD3.out.mono ?_
  rintro e w9 ⟨hB9, hR9⟩
  simp only [pkCells, zeroP] at hR9
  obtain rfl := hR9
  have HBw9 := hide (HBw8.out.trans (hB9.mono HBw8.out.size))
  have HBT := hide fun o => HBw9.out.trans (((Below.refl w9.heap.size w9).alloc (Nat.le_refl _) o).mono HBw9.out.size)
  clear hB9 cD3 cD2 HO HQD HB5 HB6 HB7 HBw6 HBw7 HBw8 HA7 HB2 HB1 hi hz0 hz1 hz2 k0 k1 k2 k3 k4 k5 k6 k7 k8 k9 k10 k11 k12 k13 k14 hn1 cS cE HR
  have hcv := fun w => conv_str any w
  go_wp2_with fail
  refine (cD.out _ _ (by simp) (HBT.out _)).mono ?_
  rintro e w3 ⟨hB3, hR3⟩
  have HB3 := hide (below_fin (HBT.out _) hB3)
  clear hB3
  cases hdec : decL any.data.toList with
  | inl sh =>
    rw [hdec] at hR3
    simp only [pkCells, zeroP] at hR3
    cases sh with
    | false =>
      obtain rfl := hR3
      go_wp2
      go_ret
      exact ⟨rfl, HB3.out.alloc HB3.out.size _⟩
    | true =>
      obtain rfl := hR3
      go_wp2
      go_ret
      exact ⟨rfl, HB3.out.alloc HB3.out.size _⟩
  | inr r =>
    obtain ⟨⟨q, gs, ds⟩, n⟩ := r
    rw [hdec] at hR3
    obtain ⟨fv, cv, rfl, hof, hoc⟩ := hR3
    have hn : n ≤ any.size := by have := dec_len hdec; rw [len_str] at this; exact this
    have hx := re_enc hdec fv cv
    have HA := hide fun o => HB3.out.trans (((Below.refl w3.heap.size w3).alloc (Nat.le_refl _) o).mono HB3.out.size)
    have cE2 := hide fun o => cEncode_any ash aw { q with fv := fv, cv := cv } gs ds (w3.alloc o) (filV_below (lw.filV_of hof) ((Below.refl w3.heap.size w3).alloc (Nat.le_refl _) o)) (intV_below (lw.intV_of hoc) ((Below.refl w3.heap.size w3).alloc (Nat.le_refl _) o)) (HG.out.below (HA.out o)).errs (HG.out.below (HA.out o)).env'
    obtain ⟨pf, nf, rfl⟩ := own_form hof
    obtain ⟨pc, nc, rfl⟩ := own_form hoc
    rw [hx] at cE2
    simp only [pkCells] at cE2 ⊢
    clear hof hoc hx hdec
    go_wp2_with fail
    refine (cE2.out _).mono ?_
    rintro e w4 ⟨hB4, v4, rfl, ho4⟩
    have HB4 := hide ((HA.out _).trans (hB4.mono (HA.out _).size))
    clear hB4
    have hcv2 := fun m => conv_row (own_keep (w' := w4.drewN m) ho4 (fun _ _ => rfl))
    obtain ⟨q4, k4, rfl⟩ := own_form ho4
    have hlt : (any.data.toList.take n).length = n := by rw [List.length_take, len_str]; omega
    rw [hlt] at hcv2 ⊢
    clear ho4
    go_wp2
    go_quiet (fail)
    go_wp2
    go_ret
    exact ⟨ret_bool (pre_same any n), below_drewN HB4.out _⟩
end Go.Proofs.YtnmfmoimjkoieaaGreatDoor.br
