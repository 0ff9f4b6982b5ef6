import Derived.Test.YtnmfmoimjkoieaaGreatDoorJ21
import Derived.WalkMore
import Derived.Test.YtnmfmoimjkoieaaGreatDoorJ24
import Derived.Test.YtnmfmoimjkoieaaGreatDoorJ22
import Derived.Test.YtnmfmoimjkoieaaGreatDoorJ09
import Derived.Deep.QuietTactic
import Derived.BigQuiet
import Derived.Laws.StructEq
import Derived.Test.YtnmfmoimjkoieaaGreatDoorJ01
import Derived.BigFrame
import Derived.BigGuard
/- packets.lengthBytes: the bytes of a length, in new memory. -/
namespace Go.Proofs.YtnmfmoimjkoieaaGreatDoor.ew
open Go.RowKit Go.Proofs.YtnmfmoimjkoieaaGreatDoor.topPlain Go.Proofs.YtnmfmoimjkoieaaGreatDoor.topWalks Go.Proofs.YtnmfmoimjkoieaaGreatDoor.decPlain Go.Proofs.YtnmfmoimjkoieaaGreatDoor.encPlain

theorem or128 : ∀ x : Fin 301, bits .or .u8 (((byt8 (x.val : Int)).toNat : Nat) : Int) 128 = (((byt8 ((x.val % 128 + 128 : Nat) : Int)).toNat : Nat) : Int) := by decide +kernel

set_option maxHeartbeats 1600000 in
set_option maxRecDepth 100000 in
theorem length_any (n : Nat) (w : World) (hn : n ≤ 300) :
    Calls Tryz.prog 82 #[.int .i64 (n : Int)] w fun e w' => ∃ v, e = .returned v ∧ w'.ownsRow w.heap.size 5 1 v (lenW n).length (u8s (lenW n)) ∧ Below w.heap.size w w' := by
  obtain ⟨i0, hi, hz0, hz1, hz2⟩ := info_parts infoB
  have hnil := World.ownsRow_nil w w.heap.size 5 1
  by_cases h : n < 128
  · have hd : ¬ ((128 : Int) ≤ (n : Int)) := by omega
    have hw8 := u8_wrap (n : Int)
    rw [show lenW n = [byt8 n] by unfold lenW; rw [if_pos h]]
    go_enter Tryz.func82, Tryz.ntmps82
    go_wp2_with fail
    refine wp_loop_rounds 1 ?_
    rw [rounds_succ]
    go_wp2_with (first
      | (at_builtin; refine wpList_append_own_at _ rfl _ _ 45 rfl w.heap.size 5 i0 (.int .u8 0) 1 1 Tryz.underlying45 hi hz0 hz1 hz2 rfl (by decide) _ _ _ rfl (hnil.alloc _) ⟨w.heap.size, 0, none⟩ 1 1 [.int .u8 ((byt8 n).toNat : Int)] rfl rfl (cell_one_new _ _ _) ?c2 ?c3 ?c4 ?c5 ?_))
    case c2 => intro u hu; simp only [List.mem_singleton] at hu; subst hu; rfl
    case c3 => unfold maxLen; omega
    case c4 => omega
    case c5 => simp
    intro v' w2 hown' hgrow _ _
    have HO := hide hown'
    have HB : Hid (Below w.heap.size w w2) := ((Below.refl _ _).alloc (Nat.le_refl _) _).trans ⟨hgrow.os, hgrow.tape, hgrow.output, hgrow.size, fun k hk => hgrow.block k (by simp; omega) (by simp [Value.ownBlock])⟩
    obtain ⟨q', cap', rfl⟩ := own_slice hown'
    clear hown' hgrow
    go_wp2
    go_ret
    exact ⟨_, rfl, HO.out, HB.out⟩
  · have hd : ((128 : Int) ≤ (n : Int)) := by omega
    have hd2 : ((n : Int) / 128 < 128) := by omega
    have hw8 := u8_wrap (n : Int)
    have ho := or128 ⟨n, by omega⟩
    simp only at ho
    have hw9 : IntKind.u8.wrap ((n : Int) / 128) = ((byt8 ((n / 128 : Nat) : Int)).toNat : Int) := by rw [u8_wrap, show (n : Int) / 128 = ((n / 128 : Nat) : Int) by omega]
    rw [show lenW n = [byt8 (n % 128 + 128 : Nat), byt8 (n / 128 : Nat)] by unfold lenW; rw [if_neg h]]
    generalize byt8 ((n % 128 + 128 : Nat) : Int) = x at *
    generalize byt8 ((n / 128 : Nat) : Int) = y at *
    go_enter Tryz.func82, Tryz.ntmps82
    go_wp2_with fail
    refine wp_loop_rounds 2 ?_
    rw [rounds_succ]
    go_wp2_with (first
      | (at_builtin; refine wpList_append_own_at _ rfl _ _ 45 rfl w.heap.size 5 i0 (.int .u8 0) 1 1 Tryz.underlying45 hi hz0 hz1 hz2 rfl (by decide) _ _ _ rfl (hnil.alloc _) ⟨w.heap.size, 0, none⟩ 1 1 [.int .u8 (x.toNat : Int)] rfl rfl (cell_one_new _ _ _) ?c2 ?c3 ?c4 ?c5 ?_))
    case c2 => intro u hu; simp only [List.mem_singleton] at hu; subst hu; rfl
    case c3 => unfold maxLen; omega
    case c4 => omega
    case c5 => simp
    intro v' w2 hown' hgrow _ _
    have hown := hown'
    have HB : Hid (Below w.heap.size w w2) := ((Below.refl _ _).alloc (Nat.le_refl _) _).trans ⟨hgrow.os, hgrow.tape, hgrow.output, hgrow.size, fun k hk => hgrow.block k (by simp; omega) (by simp [Value.ownBlock])⟩
    obtain ⟨q', cap', rfl⟩ := own_slice hown'
    clear hown' hgrow
    go_wp2_with fail
    rw [rounds_succ]
    have hsz := HB.out.size
    go_wp2_with (first
      | (at_builtin; refine wpList_append_own_at _ rfl _ _ 45 rfl w.heap.size 5 i0 (.int .u8 0) 1 1 Tryz.underlying45 hi hz0 hz1 hz2 rfl (by decide) _ _ _ rfl (hown.alloc _) ⟨w2.heap.size, 0, none⟩ 1 1 [.int .u8 (y.toNat : Int)] rfl rfl (cell_one_new _ _ _) ?c2 ?c3 ?c4 ?c5 ?_))
    case c2 => intro u hu; simp only [List.mem_singleton] at hu; subst hu; rfl
    case c3 => unfold maxLen; omega
    case c4 => omega
    case c5 => simp; omega
    intro v' w3 hown' hgrow _ _
    have HO := hide hown'
    have HB2 : Hid (Below w.heap.size w w3) := (HB.out.trans (((Below.refl _ _).alloc (Nat.le_refl _) _).mono hsz)).trans ⟨hgrow.os, hgrow.tape, hgrow.output, hgrow.size, fun k hk => hgrow.block k (by simp; omega) (fun e => by have := (hown.lt k e.symm).1; omega)⟩
    obtain ⟨q'', cap'', rfl⟩ := own_slice hown'
    clear hown' hgrow hown
    go_wp2
    go_ret
    exact ⟨_, rfl, HO.out, HB2.out⟩
end Go.Proofs.YtnmfmoimjkoieaaGreatDoor.ew

/- packets.firstByte: the first byte of any packet. -/
namespace Go.Proofs.YtnmfmoimjkoieaaGreatDoor.ew
open Go.RowKit Go.Proofs.YtnmfmoimjkoieaaGreatDoor.topPlain Go.Proofs.YtnmfmoimjkoieaaGreatDoor.topWalks Go.Proofs.YtnmfmoimjkoieaaGreatDoor.decPlain Go.Proofs.YtnmfmoimjkoieaaGreatDoor.encPlain Go.Proofs.YtnmfmoimjkoieaaGreatDoor.rd

/-- the first byte as the program makes it -/
def fwI (p : Pkt) : Int := if p.kind = 3 then bits .or .i64 48 (bits .or .i64 (bits .or .i64 (wrap64 (p.qos * 2)) (bitI p.dup 8)) (bitI p.retain 1)) else bits .or .i64 (wrap64 (p.kind * 16)) (fixedF p.kind)
def fwW (p : Pkt) : UInt8 := byt8 (fwI p)
theorem fw_three : ∀ (q : Fin 3) (d r : Bool), byt8 (bits .or .i64 48 (bits .or .i64 (bits .or .i64 (wrap64 ((q.val : Int) * 2)) (bitI d 8)) (bitI r 1))) = byt8 (16 * 3 + (bitI d 8 + 2 * (q.val : Int) + bitI r 1)) := by decide +kernel
theorem fw_other : ∀ k : Fin 15, byt8 (bits .or .i64 (wrap64 ((k.val : Int) * 16)) (fixedF (k.val : Int))) = byt8 (16 * (k.val : Int) + fixedF (k.val : Int)) := by decide +kernel
theorem fw_same {p : Pkt} (h : rangeB p) : fwW p = firstR p := by
  obtain ⟨k1, k2, h1, h2, _⟩ := h
  unfold fwW fwI firstR flagsR
  by_cases h3 : p.kind = 3
  · obtain ⟨n, hn⟩ := Int.eq_ofNat_of_zero_le h1
    rw [if_pos h3, if_pos h3, h3, hn]
    exact fw_three ⟨n, by omega⟩ p.dup p.retain
  · obtain ⟨n, hn⟩ := Int.eq_ofNat_of_zero_le (show 0 ≤ p.kind by omega)
    rw [if_neg h3, if_neg h3, hn]
    exact fw_other ⟨n, by omega⟩

set_option maxHeartbeats 1600000 in
set_option maxRecDepth 100000 in
theorem first_any (p : Pkt) (w : World) :
    Calls Tryz.prog 81 #[.agg (pkCells p)] w fun e w' => e = .returned (.int .u8 ((fwW p).toNat : Int)) ∧ Below w.heap.size w w' := by
  have c0 := hide fun b n w => bit_any b n w
  have c1 := hide fun k w => fixedFlags_any k w
  have HA := hide (fun o => (Below.refl w.heap.size w).alloc (Nat.le_refl _) o)
  by_cases h3 : p.kind = 3
  · have hF : fwW p = byt8 (bits .or .i64 48 (bits .or .i64 (bits .or .i64 (wrap64 (p.qos * 2)) (bitI p.dup 8)) (bitI p.retain 1))) := by unfold fwW fwI; rw [if_pos h3]
    have hw8 := u8_wrap (bits .or .i64 48 (bits .or .i64 (bits .or .i64 (wrap64 (p.qos * 2)) (bitI p.dup 8)) (bitI p.retain 1)))
    rw [hF]
    clear hF
    obtain ⟨kind, clean, will, keep, client, present, code, dup, qos, retain, topic, payload, id, fv, cv⟩ := p
    simp only at h3 hw8 ⊢
    subst h3
    simp only [pkCells]
    have HW8 := hide hw8
    clear hw8
    go_enter Tryz.func81, Tryz.ntmps81
    go_wp2_with fail
    refine (unhide c1 _ _).mono ?_
    rintro e w1 ⟨rfl, rfl⟩
    go_wp2_with fail
    refine wp_region_tail 11 (by kernel_rfl) (by kernel_rfl) ?_
    simp only [List.take_succ_cons, List.take_zero, List.drop_succ_cons, List.drop_zero]
    repeat (first | still_step | still_call (unhide c0 _ _ _))
    refine wpStill_nil ?_
    go_wp2
    go_ret
    exact ⟨ret_int HW8.out, below_drewN (HA.out _) 1⟩
  · have hF : fwW p = byt8 (bits .or .i64 (wrap64 (p.kind * 16)) (fixedF p.kind)) := by unfold fwW fwI; rw [if_neg h3]
    have hw8 := u8_wrap (bits .or .i64 (wrap64 (p.kind * 16)) (fixedF p.kind))
    rw [hF]
    clear hF
    obtain ⟨kind, clean, will, keep, client, present, code, dup, qos, retain, topic, payload, id, fv, cv⟩ := p
    simp only at h3 hw8 ⊢
    have h3b : (kind == 3) = false := beq_eq_false_iff_ne.2 h3
    clear h3
    simp only [pkCells]
    have HW8 := hide hw8
    clear hw8
    go_enter Tryz.func81, Tryz.ntmps81
    go_wp2_with fail
    refine (unhide c1 _ _).mono ?_
    rintro e w1 ⟨rfl, rfl⟩
    go_wp2
    go_ret
    exact ⟨ret_int HW8.out, HA.out _⟩
end Go.Proofs.YtnmfmoimjkoieaaGreatDoor.ew

/- slices.Equal of two lists of numbers, and of two lists of filters, wherever they lie. -/
namespace Go.Proofs.YtnmfmoimjkoieaaGreatDoor.ew
open Go.RowKit Go.Proofs.YtnmfmoimjkoieaaGreatDoor.topPlain Go.Proofs.YtnmfmoimjkoieaaGreatDoor.topWalks Go.Proofs.YtnmfmoimjkoieaaGreatDoor.decPlain
open Go.Proofs.YtnmfmoimjkoieaaGreatDoor.rf (FilV IntV)

theorem drewN_drewN (w : World) (a b : Nat) : (w.drewN a).drewN b = w.drewN (a + b) := by
  simp [World.drewN, Nat.add_assoc]
theorem take_eq_step {α : Type} {a b : List α} {k : Nat} {x : α} (h : a.take k = b.take k) (ha : a[k]? = some x) (hb : b[k]? = some x) : a.take (k + 1) = b.take (k + 1) := by
  rw [List.take_add_one, List.take_add_one, h, ha, hb]
theorem take_eq_all {α : Type} {a b : List α} {k : Nat} (h : a.take k = b.take k) (ha : a.length ≤ k) (hb : b.length ≤ k) : a = b := by
  rwa [List.take_of_length_le ha, List.take_of_length_le hb] at h
theorem ne_at {α : Type} {a b : List α} {k : Nat} {x y : α} (ha : a[k]? = some x) (hb : b[k]? = some y) (h : x ≠ y) : a ≠ b := fun e => by
  rw [e, hb] at ha; exact h (Option.some.inj ha).symm

set_option maxHeartbeats 1600000 in
set_option maxRecDepth 100000 in
theorem eqInt_any (cs ds : List Int) (v1 v2 : Value) (w : World) (h1 : IntV w v1 cs) (h2 : IntV w v2 ds) :
    Calls Tryz.prog 121 #[v1, v2] w fun e w' => e = .returned (.bool (decide (cs = ds))) ∧ ∃ m, w' = w.drewN m := by
  obtain ⟨q1, k1, rfl, l1, h1⟩ := h1
  obtain ⟨q2, k2, rfl, l2, h2⟩ := h2
  have H1 := hide h1
  have H2 := hide h2
  unfold maxLen at l1 l2
  clear h1 h2
  by_cases hl : cs.length = ds.length
  · have hlb : ((cs.length : Int) == (ds.length : Int)) = true := by rw [hl]; simp
    have hln : ((cs.length : Int) != (ds.length : Int)) = false := by rw [hl]; simp
    have HL := hide hl
    obtain ⟨A, hA⟩ : ∃ A, A = decide (cs = ds) := ⟨_, rfl⟩
    rw [← hA]
    have HA := hide hA
    clear hl hA
    go_enter Tryz.func121, Tryz.ntmps121
    go_wp2_with fail
    go_loopw [13] (fun i wx => ∃ (k n : Nat), k ≤ cs.length ∧ i = .int .i64 k ∧ wx = w.drewN n ∧ cs.take k = ds.take k) (fun i _ => cs.length - (intOf i).toNat)
    case atStart => exact ⟨0, 0, Nat.zero_le _, rfl, rfl, rfl⟩
    case round =>
      obtain ⟨k, n, hk, rfl, rfl, ht⟩ := hrel
      have HT := hide ht
      clear ht
      by_cases hlt : k < cs.length
      · have hlt2 : k < ds.length := by rw [← HL.out]; exact hlt
        obtain ⟨c, hc⟩ : ∃ c, cs[k]? = some c := ⟨_, List.getElem?_eq_getElem hlt⟩
        obtain ⟨d, hd⟩ : ∃ d, ds[k]? = some d := ⟨_, List.getElem?_eq_getElem hlt2⟩
        obtain ⟨g1, rfl, hg1, m1⟩ := H1.out k c hc
        obtain ⟨g2, rfl, hg2, m2⟩ := H2.out k d hd
        have HC := hide hc
        have HD := hide hd
        clear hc hd
        by_cases hcd : c = d
        · subst hcd
          go_wp2
          go_quiet (fail)
          go_wp2
          go_roundw
          case rel => exact ⟨k + 1, _, by omega, by go_num, rfl, take_eq_step HT.out HC.out HD.out⟩
          case measure => simp [intOf]; omega
        · have hb : (c == d) = false := beq_eq_false_iff_ne.2 hcd
          have hb2 : (c != d) = true := by simp [hcd]
          have HCD := hide hcd
          clear hcd
          go_wp2
          go_quiet (fail)
          go_wp2
          go_ret
          exact ⟨ret_bool (by rw [HA.out, decide_eq_false (ne_at HC.out HD.out HCD.out)]), _, drewN_drewN _ _ _⟩
      · go_wp2
        go_ret
        exact ⟨ret_bool (by rw [HA.out, decide_eq_true (take_eq_all HT.out (by omega) (by rw [← HL.out]; omega))]), _, rfl⟩
  · have hlb : ((cs.length : Int) == (ds.length : Int)) = false := beq_eq_false_iff_ne.2 (by omega)
    have hne : decide (cs = ds) = false := decide_eq_false fun e => hl (by rw [e])
    rw [hne]
    clear hl hne
    go_enter Tryz.func121, Tryz.ntmps121
    go_wp2
    go_ret
    exact ⟨rfl, 0, rfl⟩

theorem bs_ne {a b : List UInt8} (h : a ≠ b) : ((bs a).toList == (bs b).toList) = false := by
  rw [ByteArray.toList_eq, ByteArray.toList_eq, data_bs, data_bs]; exact beq_eq_false_iff_ne.2 h
theorem neq_fil (c d : List UInt8 × Int) (w : World) : (binOp .neq 95 (.agg #[.string (bs c.1), .int .i64 c.2]) (.agg #[.string (bs d.1), .int .i64 d.2])).run Tryz.prog w = .ok (.bool (!decide (c = d))) w := by
  have hS : Tryz.prog.underlying 95 = some (.struct (Tryz.prog.fieldsOf 95)) := by kernel_rfl
  have hp : Tryz.prog.stoodInHeld 95 = false := by kernel_rfl
  rw [run_neq_struct, show (10000 : Nat) = 9999 + 1 from rfl, run_equalIn_agg w 9999 95 _ _ hS hp]
  simp only [Program.fieldsOf, Tryz.underlying95]
  have u1 := Tryz.underlying3
  have u2 := Tryz.underlying9
  go_simp
  obtain ⟨c1, c2⟩ := c
  obtain ⟨d1, d2⟩ := d
  by_cases h1 : c1 = d1
  · subst h1
    by_cases h2 : c2 = d2
    · subst h2; simp
    · simp [h2]
  · have hb : ¬ (bs c1).toList = (bs d1).toList := by
      rw [ByteArray.toList_eq, ByteArray.toList_eq, data_bs, data_bs]; exact h1
    simp [h1, hb]
theorem neq_guard (op : BinOp) (x y : Operand) (xs ys : Array Value) (w : World) : (eqGuard op 95 x y (.agg xs) (.agg ys)).run Tryz.prog w = .ok () w := run_eqGuard_agg w op 95 x y xs ys (by kernel_rfl)
set_option maxHeartbeats 1600000 in
set_option maxRecDepth 100000 in
theorem eqFil_any (cs ds : List (List UInt8 × Int)) (v1 v2 : Value) (w : World) (h1 : FilV w v1 cs) (h2 : FilV w v2 ds) :
    Calls Tryz.prog 120 #[v1, v2] w fun e w' => e = .returned (.bool (decide (cs = ds))) ∧ ∃ m, w' = w.drewN m := by
  obtain ⟨q1, k1, rfl, l1, h1⟩ := h1
  obtain ⟨q2, k2, rfl, l2, h2⟩ := h2
  have H1 := hide h1
  have H2 := hide h2
  unfold maxLen at l1 l2
  clear h1 h2
  by_cases hl : cs.length = ds.length
  · have hlb : ((cs.length : Int) == (ds.length : Int)) = true := by rw [hl]; simp
    have hln : ((cs.length : Int) != (ds.length : Int)) = false := by rw [hl]; simp
    have HL := hide hl
    obtain ⟨A, hA⟩ : ∃ A, A = decide (cs = ds) := ⟨_, rfl⟩
    rw [← hA]
    have HA := hide hA
    clear hl hA
    go_enter Tryz.func120, Tryz.ntmps120
    go_wp2_with fail
    go_loopw [13] (fun i wx => ∃ (k n : Nat), k ≤ cs.length ∧ i = .int .i64 k ∧ wx = w.drewN n ∧ cs.take k = ds.take k) (fun i _ => cs.length - (intOf i).toNat)
    case atStart => exact ⟨0, 0, Nat.zero_le _, rfl, rfl, rfl⟩
    case round =>
      obtain ⟨k, n, hk, rfl, rfl, ht⟩ := hrel
      have HT := hide ht
      clear ht
      by_cases hlt : k < cs.length
      · have hlt2 : k < ds.length := by rw [← HL.out]; exact hlt
        obtain ⟨c, hc⟩ : ∃ c, cs[k]? = some c := ⟨_, List.getElem?_eq_getElem hlt⟩
        obtain ⟨d, hd⟩ : ∃ d, ds[k]? = some d := ⟨_, List.getElem?_eq_getElem hlt2⟩
        obtain ⟨g1, rfl, hg1, m1, m1'⟩ := H1.out k c hc
        obtain ⟨g2, rfl, hg2, m2, m2'⟩ := H2.out k d hd
        have HC := hide hc
        have HD := hide hd
        clear hc hd
        have hn := fun w => neq_fil c d w
        have hg := fun op x y xs ys w => neq_guard op x y xs ys w
        by_cases hcd : c = d
        · rw [decide_eq_true hcd] at hn
          have HCD := hide hcd
          clear hcd
          go_wp2
          go_quiet (fail)
          go_wp2
          go_roundw
          case rel => exact ⟨k + 1, _, by omega, by go_num, rfl, take_eq_step HT.out HC.out (by rw [HD.out, HCD.out])⟩
          case measure => simp [intOf]; omega
        · rw [decide_eq_false hcd] at hn
          have HCD := hide hcd
          clear hcd
          go_wp2
          go_quiet (fail)
          go_wp2
          go_ret
          exact ⟨ret_bool (by rw [HA.out, decide_eq_false (ne_at HC.out HD.out HCD.out)]), _, drewN_drewN _ _ _⟩
      · go_wp2
        go_ret
        exact ⟨ret_bool (by rw [HA.out, decide_eq_true (take_eq_all HT.out (by omega) (by rw [← HL.out]; omega))]), _, rfl⟩
  · have hlb : ((cs.length : Int) == (ds.length : Int)) = false := beq_eq_false_iff_ne.2 (by omega)
    have hne : decide (cs = ds) = false := decide_eq_false fun e => hl (by rw [e])
    rw [hne]
    clear hl hne
    go_enter Tryz.func120, Tryz.ntmps120
    go_wp2
    go_ret
    exact ⟨rfl, 0, rfl⟩
end Go.Proofs.YtnmfmoimjkoieaaGreatDoor.ew

/- packets.same of any two packets. -/
namespace Go.Proofs.YtnmfmoimjkoieaaGreatDoor.ew
open Go.RowKit Go.Proofs.YtnmfmoimjkoieaaGreatDoor.topPlain Go.Proofs.YtnmfmoimjkoieaaGreatDoor.topWalks Go.Proofs.YtnmfmoimjkoieaaGreatDoor.decPlain Go.Proofs.YtnmfmoimjkoieaaGreatDoor.encPlain
open Go.Proofs.YtnmfmoimjkoieaaGreatDoor.rf (FilV IntV)
open Go.Proofs.YtnmfmoimjkoieaaGreatDoor.rd (pkCells)


set_option maxHeartbeats 1600000 in
set_option maxRecDepth 100000 in
theorem ps_kind  (kind : Int) (kindx : Int) (hne : (kind == kindx) = false) (clean : Bool) (cleanx : Bool) (will : Bool) (willx : Bool) (keep : Int) (keepx : Int) (client : List UInt8) (clientx : List UInt8) (present : Bool) (presentx : Bool) (code : Int) (codex : Int) (dup : Bool) (dupx : Bool) (qos : Int) (qosx : Int) (retain : Bool) (retainx : Bool) (topic : List UInt8) (topicx : List UInt8) (payload : List UInt8) (payloadx : List UInt8) (id : Int) (idx : Int) (fv cv fvx cvx : Value) (w : World) :
    Calls Tryz.prog 83 #[.agg #[.int .i64 kind, .bool clean, .bool will, .int .i64 keep, .string (bs client), .bool present, .int .i64 code, .bool dup, .int .i64 qos, .bool retain, .string (bs topic), .string (bs payload), .int .i64 id, fv, cv], .agg #[.int .i64 kindx, .bool cleanx, .bool willx, .int .i64 keepx, .string (bs clientx), .bool presentx, .int .i64 codex, .bool dupx, .int .i64 qosx, .bool retainx, .string (bs topicx), .string (bs payloadx), .int .i64 idx, fvx, cvx]] w fun e w' => e = .returned (.bool false) ∧ Below w.heap.size w w' := by
  have HB : Hid (∀ o1 o2, Below w.heap.size w ((w.alloc o1).alloc o2)) := fun o1 o2 => ((Below.refl _ _).alloc (Nat.le_refl _) o1).alloc (by simp) o2
  go_enter Tryz.func83, Tryz.ntmps83
  go_wp2
  go_ret
  exact ⟨rfl, HB.out _ _⟩

set_option maxHeartbeats 1600000 in
set_option maxRecDepth 100000 in
theorem ps_clean (kind : Int) (clean : Bool) (cleanx : Bool) (hne : (clean == cleanx) = false) (will : Bool) (willx : Bool) (keep : Int) (keepx : Int) (client : List UInt8) (clientx : List UInt8) (present : Bool) (presentx : Bool) (code : Int) (codex : Int) (dup : Bool) (dupx : Bool) (qos : Int) (qosx : Int) (retain : Bool) (retainx : Bool) (topic : List UInt8) (topicx : List UInt8) (payload : List UInt8) (payloadx : List UInt8) (id : Int) (idx : Int) (fv cv fvx cvx : Value) (w : World) :
    Calls Tryz.prog 83 #[.agg #[.int .i64 kind, .bool clean, .bool will, .int .i64 keep, .string (bs client), .bool present, .int .i64 code, .bool dup, .int .i64 qos, .bool retain, .string (bs topic), .string (bs payload), .int .i64 id, fv, cv], .agg #[.int .i64 kind, .bool cleanx, .bool willx, .int .i64 keepx, .string (bs clientx), .bool presentx, .int .i64 codex, .bool dupx, .int .i64 qosx, .bool retainx, .string (bs topicx), .string (bs payloadx), .int .i64 idx, fvx, cvx]] w fun e w' => e = .returned (.bool false) ∧ Below w.heap.size w w' := by
  have HB : Hid (∀ o1 o2, Below w.heap.size w ((w.alloc o1).alloc o2)) := fun o1 o2 => ((Below.refl _ _).alloc (Nat.le_refl _) o1).alloc (by simp) o2
  go_enter Tryz.func83, Tryz.ntmps83
  go_wp2
  go_ret
  exact ⟨rfl, HB.out _ _⟩

set_option maxHeartbeats 1600000 in
set_option maxRecDepth 100000 in
theorem ps_will (kind : Int) (clean : Bool) (will : Bool) (willx : Bool) (hne : (will == willx) = false) (keep : Int) (keepx : Int) (client : List UInt8) (clientx : List UInt8) (present : Bool) (presentx : Bool) (code : Int) (codex : Int) (dup : Bool) (dupx : Bool) (qos : Int) (qosx : Int) (retain : Bool) (retainx : Bool) (topic : List UInt8) (topicx : List UInt8) (payload : List UInt8) (payloadx : List UInt8) (id : Int) (idx : Int) (fv cv fvx cvx : Value) (w : World) :
    Calls Tryz.prog 83 #[.agg #[.int .i64 kind, .bool clean, .bool will, .int .i64 keep, .string (bs client), .bool present, .int .i64 code, .bool dup, .int .i64 qos, .bool retain, .string (bs topic), .string (bs payload), .int .i64 id, fv, cv], .agg #[.int .i64 kind, .bool clean, .bool willx, .int .i64 keepx, .string (bs clientx), .bool presentx, .int .i64 codex, .bool dupx, .int .i64 qosx, .bool retainx, .string (bs topicx), .string (bs payloadx), .int .i64 idx, fvx, cvx]] w fun e w' => e = .returned (.bool false) ∧ Below w.heap.size w w' := by
  have HB : Hid (∀ o1 o2, Below w.heap.size w ((w.alloc o1).alloc o2)) := fun o1 o2 => ((Below.refl _ _).alloc (Nat.le_refl _) o1).alloc (by simp) o2
  go_enter Tryz.func83, Tryz.ntmps83
  go_wp2
  go_ret
  exact ⟨rfl, HB.out _ _⟩

set_option maxHeartbeats 1600000 in
set_option maxRecDepth 100000 in
theorem ps_keep (kind : Int) (clean : Bool) (will : Bool) (keep : Int) (keepx : Int) (hne : (keep == keepx) = false) (client : List UInt8) (clientx : List UInt8) (present : Bool) (presentx : Bool) (code : Int) (codex : Int) (dup : Bool) (dupx : Bool) (qos : Int) (qosx : Int) (retain : Bool) (retainx : Bool) (topic : List UInt8) (topicx : List UInt8) (payload : List UInt8) (payloadx : List UInt8) (id : Int) (idx : Int) (fv cv fvx cvx : Value) (w : World) :
    Calls Tryz.prog 83 #[.agg #[.int .i64 kind, .bool clean, .bool will, .int .i64 keep, .string (bs client), .bool present, .int .i64 code, .bool dup, .int .i64 qos, .bool retain, .string (bs topic), .string (bs payload), .int .i64 id, fv, cv], .agg #[.int .i64 kind, .bool clean, .bool will, .int .i64 keepx, .string (bs clientx), .bool presentx, .int .i64 codex, .bool dupx, .int .i64 qosx, .bool retainx, .string (bs topicx), .string (bs payloadx), .int .i64 idx, fvx, cvx]] w fun e w' => e = .returned (.bool false) ∧ Below w.heap.size w w' := by
  have HB : Hid (∀ o1 o2, Below w.heap.size w ((w.alloc o1).alloc o2)) := fun o1 o2 => ((Below.refl _ _).alloc (Nat.le_refl _) o1).alloc (by simp) o2
  go_enter Tryz.func83, Tryz.ntmps83
  go_wp2
  go_ret
  exact ⟨rfl, HB.out _ _⟩
end Go.Proofs.YtnmfmoimjkoieaaGreatDoor.ew

/- packets.same of any two packets. -/
namespace Go.Proofs.YtnmfmoimjkoieaaGreatDoor.ew
open Go.RowKit Go.Proofs.YtnmfmoimjkoieaaGreatDoor.topPlain Go.Proofs.YtnmfmoimjkoieaaGreatDoor.topWalks Go.Proofs.YtnmfmoimjkoieaaGreatDoor.decPlain Go.Proofs.YtnmfmoimjkoieaaGreatDoor.encPlain
open Go.Proofs.YtnmfmoimjkoieaaGreatDoor.rf (FilV IntV)
open Go.Proofs.YtnmfmoimjkoieaaGreatDoor.rd (pkCells)


set_option maxHeartbeats 1600000 in
set_option maxRecDepth 100000 in
theorem ps_client (kind : Int) (clean : Bool) (will : Bool) (keep : Int) (client : List UInt8) (clientx : List UInt8) (hne : ((bs client).toList == (bs clientx).toList) = false) (present : Bool) (presentx : Bool) (code : Int) (codex : Int) (dup : Bool) (dupx : Bool) (qos : Int) (qosx : Int) (retain : Bool) (retainx : Bool) (topic : List UInt8) (topicx : List UInt8) (payload : List UInt8) (payloadx : List UInt8) (id : Int) (idx : Int) (fv cv fvx cvx : Value) (w : World) :
    Calls Tryz.prog 83 #[.agg #[.int .i64 kind, .bool clean, .bool will, .int .i64 keep, .string (bs client), .bool present, .int .i64 code, .bool dup, .int .i64 qos, .bool retain, .string (bs topic), .string (bs payload), .int .i64 id, fv, cv], .agg #[.int .i64 kind, .bool clean, .bool will, .int .i64 keep, .string (bs clientx), .bool presentx, .int .i64 codex, .bool dupx, .int .i64 qosx, .bool retainx, .string (bs topicx), .string (bs payloadx), .int .i64 idx, fvx, cvx]] w fun e w' => e = .returned (.bool false) ∧ Below w.heap.size w w' := by
  have HB : Hid (∀ o1 o2, Below w.heap.size w ((w.alloc o1).alloc o2)) := fun o1 o2 => ((Below.refl _ _).alloc (Nat.le_refl _) o1).alloc (by simp) o2
  go_enter Tryz.func83, Tryz.ntmps83
  go_wp2
  go_ret
  exact ⟨rfl, HB.out _ _⟩

set_option maxHeartbeats 1600000 in
set_option maxRecDepth 100000 in
theorem ps_present (kind : Int) (clean : Bool) (will : Bool) (keep : Int) (client : List UInt8) (present : Bool) (presentx : Bool) (hne : (present == presentx) = false) (code : Int) (codex : Int) (dup : Bool) (dupx : Bool) (qos : Int) (qosx : Int) (retain : Bool) (retainx : Bool) (topic : List UInt8) (topicx : List UInt8) (payload : List UInt8) (payloadx : List UInt8) (id : Int) (idx : Int) (fv cv fvx cvx : Value) (w : World) :
    Calls Tryz.prog 83 #[.agg #[.int .i64 kind, .bool clean, .bool will, .int .i64 keep, .string (bs client), .bool present, .int .i64 code, .bool dup, .int .i64 qos, .bool retain, .string (bs topic), .string (bs payload), .int .i64 id, fv, cv], .agg #[.int .i64 kind, .bool clean, .bool will, .int .i64 keep, .string (bs client), .bool presentx, .int .i64 codex, .bool dupx, .int .i64 qosx, .bool retainx, .string (bs topicx), .string (bs payloadx), .int .i64 idx, fvx, cvx]] w fun e w' => e = .returned (.bool false) ∧ Below w.heap.size w w' := by
  have HB : Hid (∀ o1 o2, Below w.heap.size w ((w.alloc o1).alloc o2)) := fun o1 o2 => ((Below.refl _ _).alloc (Nat.le_refl _) o1).alloc (by simp) o2
  go_enter Tryz.func83, Tryz.ntmps83
  go_wp2
  go_ret
  exact ⟨rfl, HB.out _ _⟩

set_option maxHeartbeats 1600000 in
set_option maxRecDepth 100000 in
theorem ps_code (kind : Int) (clean : Bool) (will : Bool) (keep : Int) (client : List UInt8) (present : Bool) (code : Int) (codex : Int) (hne : (code == codex) = false) (dup : Bool) (dupx : Bool) (qos : Int) (qosx : Int) (retain : Bool) (retainx : Bool) (topic : List UInt8) (topicx : List UInt8) (payload : List UInt8) (payloadx : List UInt8) (id : Int) (idx : Int) (fv cv fvx cvx : Value) (w : World) :
    Calls Tryz.prog 83 #[.agg #[.int .i64 kind, .bool clean, .bool will, .int .i64 keep, .string (bs client), .bool present, .int .i64 code, .bool dup, .int .i64 qos, .bool retain, .string (bs topic), .string (bs payload), .int .i64 id, fv, cv], .agg #[.int .i64 kind, .bool clean, .bool will, .int .i64 keep, .string (bs client), .bool present, .int .i64 codex, .bool dupx, .int .i64 qosx, .bool retainx, .string (bs topicx), .string (bs payloadx), .int .i64 idx, fvx, cvx]] w fun e w' => e = .returned (.bool false) ∧ Below w.heap.size w w' := by
  have HB : Hid (∀ o1 o2, Below w.heap.size w ((w.alloc o1).alloc o2)) := fun o1 o2 => ((Below.refl _ _).alloc (Nat.le_refl _) o1).alloc (by simp) o2
  go_enter Tryz.func83, Tryz.ntmps83
  go_wp2
  go_ret
  exact ⟨rfl, HB.out _ _⟩
end Go.Proofs.YtnmfmoimjkoieaaGreatDoor.ew
