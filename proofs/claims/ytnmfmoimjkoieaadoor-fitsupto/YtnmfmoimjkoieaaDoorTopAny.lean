/- What strings.ContainsAny answers at the two signs of filters, for every text of at most 30 bytes, be it UTF-8 or not; what was there is as it was. -/
import Derived.Test.YtnmfmoimjkoieaaDoorTopNames
import Derived.Lib.OthersKept
import Derived.Deep.LoopGhost
import Derived.Laws.RangeAny
import Derived.WalkSmall
namespace Go.Proofs.YtnmfmoimjkoieaaDoor.topWalks
open Go.RowKit Go.Proofs.YtnmfmoimjkoieaaDoor.topPlain

theorem get_bang (s : ByteArray) (j : Nat) (h : j < s.size) : s.get! j = s[j]'h := by
  simp [ByteArray.get!, getElem!_pos, h]
  rfl

/-- what a rune that is no ASCII takes away are bytes from 128 on -/
theorem decode_span (s : ByteArray) (i : Nat) (h : i < s.size) (ha : 128 ≤ (s.get! i).toNat) :
    ∀ j, i ≤ j → j < i + (Utf8.decode s i).2 → j < s.size ∧ 128 ≤ (s.get! j).toNat := by
  have hn : ¬ (s.get! (i + 0)).toNat < 128 := by rw [Nat.add_zero]; omega
  intro j hij hj
  obtain ⟨k, rfl⟩ : ∃ k, j = i + k := ⟨j - i, by omega⟩
  have hk : k < (Utf8.decode s i).2 := by omega
  clear hij hj
  revert hk
  simp only [Utf8.decode, hn, if_false]
  have z : k = 0 → i + k < s.size ∧ 128 ≤ (s.get! (i + k)).toNat := fun e => by subst e; exact ⟨by omega, by rw [Nat.add_zero]; exact ha⟩
  have c : ∀ m, (decide (i + m < s.size) && (s.get! (i + m)).toNat / 64 == 2) = true → k = m → i + k < s.size ∧ 128 ≤ (s.get! (i + k)).toNat := by
    intro m hm e
    subst e
    simp only [Bool.and_eq_true, decide_eq_true_eq, beq_iff_eq] at hm
    exact ⟨hm.1, by omega⟩
  split
  · rename_i h1
    rw [Bool.and_eq_true] at h1
    split
    · intro hk
      rcases (by omega : k = 0 ∨ k = 1) with e | e
      · exact z e
      · exact c 1 h1.2 e
    · intro hk; exact z (by omega)
  · split
    · rename_i h1
      rw [Bool.and_eq_true, Bool.and_eq_true] at h1
      split
      · intro hk
        rcases (by omega : k = 0 ∨ k = 1 ∨ k = 2) with e | e | e
        · exact z e
        · exact c 1 h1.1.2 e
        · exact c 2 h1.2 e
      · intro hk; exact z (by omega)
    · split
      · rename_i h1
        rw [Bool.and_eq_true, Bool.and_eq_true, Bool.and_eq_true] at h1
        split
        · intro hk
          rcases (by omega : k = 0 ∨ k = 1 ∨ k = 2 ∨ k = 3) with e | e | e | e
          · exact z e
          · exact c 1 h1.1.1.2 e
          · exact c 2 h1.1.2 e
          · exact c 3 h1.2 e
        · intro hk; exact z (by omega)
      · intro hk; exact z (by omega)

def signs : ByteArray := ⟨#[43, 35]⟩
theorem signs_data : signs.data.toList = [43, 35] := rfl

theorem noAny_span {s : ByteArray} {i n : Nat} (h : Lib.NoAny s.data.toList [43, 35] i) (hs : ∀ j, i ≤ j → j < i + n → j < s.size ∧ 128 ≤ (s.get! j).toNat) : Lib.NoAny s.data.toList [43, 35] (i + n) := by
  intro j b hj hb
  by_cases e : j < i
  · exact h j b e hb
  · obtain ⟨h1, h2⟩ := hs j (by omega) hj
    rw [get_list s j h1] at hb
    rw [get_bang s j h1] at h2
    cases hb
    have h43 : s[j] ≠ 43 := fun e => by rw [e] at h2; exact absurd h2 (by decide)
    have h35 : s[j] ≠ 35 := fun e => by rw [e] at h2; exact absurd h2 (by decide)
    simp [h43, h35]

set_option maxHeartbeats 1000000 in
set_option maxRecDepth 100000 in
/-- a rune that is no ASCII: RuneError -/
theorem indexRune_error (w : World) :
    Calls Tryd.prog 33 #[.string signs, .int .i32 65533] w fun e w' => e = .returned (.int .i64 (-1)) ∧ Below w.heap.size w w' := by
  have hz : signs.size = 2 := rfl
  have n0 := fun ty => run_next_ascii (P := Tryd.prog) w signs 0 ty (by decide) (by decide)
  have n1 := fun ty => run_next_ascii (P := Tryd.prog) w signs 1 ty (by decide) (by decide)
  have n2 := fun ty => run_next_end (P := Tryd.prog) w signs 2 ty (by decide)
  rw [show ((signs[0]'(by decide)).toNat : Int) = 43 from rfl] at n0
  rw [show ((signs[1]'(by decide)).toNat : Int) = 35 from rfl] at n1
  generalize signs = S at *
  go_enter Tryd.func33, Tryd.ntmps33
  go_wp2
  go_loopg [5, 6] 2 (fun g _ _ wx => g ≤ 2 ∧ wx = w.iter S (2 - g))
  case atStart => exact ⟨by omega, rfl⟩
  case round =>
    obtain ⟨hg, rfl⟩ := hrel
    rcases (by omega : gk = 0 ∨ gk = 1 ∨ gk = 2) with rfl | rfl | rfl
    · simp only [Nat.sub_zero]
      go_wp2
      go_ret
      exact ⟨rfl, (Below.refl _ _).alloc (Nat.le_refl _) _⟩
    · simp only [show 2 - 1 = 1 from rfl]
      go_wp2
      go_roundg 0
      case measure => omega
      case rel => exact ⟨by omega, rfl⟩
    · simp only [Nat.sub_self]
      go_wp2
      go_roundg 1
      case measure => omega
      case rel => exact ⟨by omega, rfl⟩

set_option maxHeartbeats 1000000 in
set_option maxRecDepth 100000 in
/-- no rune at all -/
theorem indexRune_bad (r : Int) (w : World) (h : 128 ≤ r) (he : r ≠ 65533) (hv : Lib.validRune r = false) :
    Calls Tryd.prog 33 #[.string signs, .int .i32 r] w fun e w' => e = .returned (.int .i64 (-1)) ∧ Below w.heap.size w w' := by
  have cV := Tryd.utf8_ValidRune r w
  rw [hv] at cV
  have HV := hide cV
  have hne : (r == 65533) = false := beq_eq_false_iff_ne.2 he
  have hlt : ¬ r < 128 := by omega
  have h0 : (0 : Int) ≤ r := by omega
  clear cV hv he
  generalize signs = S at *
  go_enter Tryd.func33, Tryd.ntmps33
  go_wp2_with (go_at_call 42; refine (unhide HV).mono ?_; rintro e w' ⟨rfl, rfl⟩)
  go_ret
  exact ⟨rfl, Below.refl _ _⟩

set_option maxHeartbeats 1000000 in
set_option maxRecDepth 100000 in
/-- a rune of two bytes or more -/
theorem indexRune_wide (r : Int) (w : World) (h : 128 ≤ r) (he : r ≠ 65533) (hv : Lib.validRune r = true) :
    Calls Tryd.prog 33 #[.string signs, .int .i32 r] w fun e w' => e = .returned (.int .i64 (-1)) ∧ Below w.heap.size w w' := by
  have cV := Tryd.utf8_ValidRune r w
  rw [hv] at cV
  have HV := hide cV
  have hne : (r == 65533) = false := beq_eq_false_iff_ne.2 he
  have hlt : ¬ r < 128 := by omega
  have h0 : (0 : Int) ≤ r := by omega
  obtain ⟨e1, e2, e3⟩ := encode_facts r (by rw [validRune_eq]; exact hv) h
  clear cV hv he
  have hz : signs.size = 2 := rfl
  have g1 : ∀ h : 1 < signs.size, signs[1]'h = 35 := fun _ => rfl
  have ix : ∀ c w', Calls Tryd.prog 32 #[.string ByteArray.empty, .int .u8 c] w' fun e w'' => e = .returned (.int .i64 (-1)) ∧ w'' = w' := fun c w' => Tryd.strings_IndexByte ByteArray.empty c w'
  have HX := hide ix
  clear ix
  generalize signs = S at *
  go_enter Tryd.func33, Tryd.ntmps33
  go_wp2_with (go_at_call 42; refine (unhide HV).mono ?_; rintro e w' ⟨rfl, rfl⟩)
  refine wp_scope_straight ?_
  go_wp2
  go_loopw [9] (fun i wx => i = .int .i64 (((Utf8.encode r).size : Int) - 1) ∧ wx = w') (fun _ _ => 0)
  case atStart => exact ⟨by go_num, rfl⟩
  case round =>
    obtain ⟨rfl, rfl⟩ := hrel
    by_cases hE : (Utf8.encode r).size = 2
    · have hlast : ((Utf8.encode r)[1]'(by omega)).toNat ≥ 128 := by have := e3 (by omega); simp only [hE] at this; exact this
      have hl0 : (128 : Int) ≤ (((Utf8.encode r)[1]'(by omega)).toNat : Int) := by omega
      have hl1 : ((35 : Int) == (((Utf8.encode r)[1]'(by omega)).toNat : Int)) = false := beq_eq_false_iff_ne.2 (by omega)
      have hw2 : IntKind.i64.wrap 2 = 2 := by decide
      clear e3 hlast
      go_wp2
      refine wp_scope_straight ?_
      go_wp2
      go_quiet (fail)
      go_wp2
      go_quiet ((go_at_call 32; exact (unhide HX _ _).mono fun _ _ h => ⟨h.1, _, h.2⟩))
      go_wp2
      simp +zetaDelta only [Exit.noGoto_ret, Exit.inBlock, Exit.then]
      go_ret
      exact ⟨rfl, below_drewN (Below.refl _ _) _⟩
    · have hge : ¬ (((Utf8.encode r).size : Int) - 1 < 2) := by omega
      clear e3
      go_wp2
      go_ret
      exact ⟨rfl, Below.refl _ _⟩

/-- a rune that is no ASCII is none of the signs -/
theorem indexRune_high (r : Int) (w : World) (h : 128 ≤ r) :
    Calls Tryd.prog 33 #[.string signs, .int .i32 r] w fun e w' => e = .returned (.int .i64 (-1)) ∧ Below w.heap.size w w' := by
  by_cases he : r = 65533
  · subst he; exact indexRune_error w
  · cases hv : Lib.validRune r
    · exact indexRune_bad r w h he hv
    · exact indexRune_wide r w h he hv
theorem indexRune_low (x : UInt8) (w : World) (h : x.toNat < 128) :
    Calls Tryd.prog 33 #[.string signs, .int .i32 (x.toNat : Int)] w fun e w' => e = .returned (.int .i64 (Lib.indexByte [43, 35] x)) ∧ w' = w := by
  have := Tryd.strings_IndexRune_ascii signs x.toNat w (by omega) (by omega)
  rw [show ((x.toNat : Int)).toNat.toUInt8 = x by simp, signs_data] at this
  exact this

set_option maxHeartbeats 1000000 in
set_option maxRecDepth 100000 in
theorem indexAny_short (s : ByteArray) (w : World) (h8 : s.size ≤ 8) :
    Calls Tryd.prog 27 #[.string s, .string signs] w fun e w' => e = .returned (.int .i64 (Lib.indexAny s.data.toList [43, 35])) ∧ Below w.heap.size w w' := by
  have hemp : signs.toList.isEmpty = false := by rw [Lib.toList_data, signs_data]; rfl
  have hz : signs.size = 2 := rfl
  have h8z : decide ((8 : Int) < (s.size : Int)) = false := decide_eq_false (by omega)
  have cU := hide fun n w => Tryd.strings_shouldUseASCIISet n w
  have cL := hide fun x w h => indexRune_low x w h
  have cH := hide fun r w h => indexRune_high r w h
  generalize signs = S at *
  go_enter Tryd.func27, Tryd.ntmps27
  go_wp2_with (go_at_call 34; refine (unhide cU _ _).mono ?_; rintro e w' ⟨rfl, hw⟩; rw [hw, h8z])
  go_loopg [9, 10] s.size (fun g _ _ wx => ∃ i : Nat, i + g = s.size ∧ wx.heap[w.heap.size]? = some (.stringIter s i) ∧ Below w.heap.size w wx ∧ w.heap.size < wx.heap.size ∧ Lib.NoAny s.data.toList [43, 35] i)
  case atStart => exact ⟨0, by omega, World.iter_heap _ _ _, (Below.refl _ _).alloc (Nat.le_refl _) _, by simp [World.iter], Lib.NoAny.zero _ _⟩
  case round =>
    obtain ⟨i, hig, hit, hbel, hszl, hno⟩ := hrel
    have HN := hide hno
    have hit' := hit
    have HIT := hide hit
    clear hno hit
    cases gk with
    | zero =>
      obtain rfl : i = s.size := by omega
      have hnx := fun ty => Lib.run_next_end_at (P := Tryd.prog) wr w.heap.size s s.size ty hit' (by omega)
      clear hit'
      go_wp2
      go_ret
      exact ⟨by rw [Lib.indexAny_none (by rw [← Lib.size_eq]; exact HN.out)]; rfl, hbel⟩
    | succ g =>
      have hi : i < s.size := by omega
      obtain ⟨x, hx⟩ : ∃ x : UInt8, s[i]'hi = x := ⟨_, rfl⟩
      have Hx : Hid (s.data.toList[i]? = some x) := by rw [← hx]; exact get_list s i hi
      by_cases hx128 : x.toNat < 128
      · have hnx := fun ty => Lib.run_next_ascii_at (P := Tryd.prog) wr w.heap.size s i ty hit' hi (by rw [hx]; exact hx128)
        rw [hx] at hnx
        clear hit' hx
        have hb2 : Below w.heap.size w (wr.iterAt w.heap.size s (i + 1)) := Lib.below_iterAt hbel (Nat.le_refl _) s (i + 1)
        have hit2 : Hid ((wr.iterAt w.heap.size s (i + 1)).heap[w.heap.size]? = some (.stringIter s (i + 1))) := Lib.iterAt_heap wr w.heap.size s i (i + 1) HIT.out
        have hsz2 : w.heap.size < (wr.iterAt w.heap.size s (i + 1)).heap.size := by rw [Lib.iterAt_size]; exact hszl
        have HB2 := hide hb2
        have HS2 := hide hsz2
        clear hb2 hsz2
        generalize wr.iterAt w.heap.size s (i + 1) = W2 at *
        have hcon := Lib.contains_iff_indexByte [43, 35] x
        cases hin : ([43, 35] : List UInt8).contains x
        · rw [hin] at hcon
          have hlt : ¬ ((0 : Int) ≤ Lib.indexByte [43, 35] x) := of_decide_eq_false hcon.symm
          have HIN := hide hin
          clear hcon hin
          go_wp2_with (go_at_call 33; refine (unhide cL x _ (by omega)).mono ?_; rintro e w' ⟨rfl, rfl⟩)
          go_roundg g
          case measure => omega
          case rel => exact ⟨i + 1, by omega, hit2.out, HB2.out, HS2.out, HN.out.succ Hx.out HIN.out⟩
        · rw [hin] at hcon
          have hge : (0 : Int) ≤ Lib.indexByte [43, 35] x := of_decide_eq_true hcon.symm
          have HIN := hide hin
          clear hcon hin
          go_wp2_with (go_at_call 33; refine (unhide cL x _ (by omega)).mono ?_; rintro e w' ⟨rfl, rfl⟩)
          go_ret
          exact ⟨by rw [Lib.indexAny_hit HN.out Hx.out HIN.out]; rfl, HB2.out⟩
      · have hg128 : 128 ≤ (s.get! i).toNat := by rw [get_bang s i hi, hx]; omega
        have hnx := fun ty => Lib.run_next_any_at (P := Tryd.prog) wr w.heap.size s i ty hit' hi
        obtain ⟨hd1, hd2⟩ := decode_high s i hi (by rw [hx]; omega)
        have hsp := decode_span s i hi hg128
        clear hit' hx hg128
        generalize Utf8.decode s i = D at *
        obtain ⟨c, n⟩ := D
        simp only at hnx hd1 hd2 hsp
        have hend : i + n ≤ s.size := by have := hsp (i + n - 1) (by omega) (by omega); omega
        have HSP := hide (noAny_span HN.out hsp)
        clear hsp HN
        have hb2 : Below w.heap.size w (wr.iterAt w.heap.size s (i + n)) := Lib.below_iterAt hbel (Nat.le_refl _) s (i + n)
        have hit2 : Hid ((wr.iterAt w.heap.size s (i + n)).heap[w.heap.size]? = some (.stringIter s (i + n))) := Lib.iterAt_heap wr w.heap.size s i (i + n) HIT.out
        have hsz2 : w.heap.size < (wr.iterAt w.heap.size s (i + n)).heap.size := by rw [Lib.iterAt_size]; exact hszl
        have HB2 := hide hb2
        have HS2 := hide hsz2
        clear hb2 hsz2
        generalize wr.iterAt w.heap.size s (i + n) = W2 at *
        go_wp2_with fail
        refine (unhide cH (c : Int) _ (by omega)).mono ?_
        rintro e w3 ⟨rfl, hb0⟩
        have HB3 := hide hb0
        clear hb0
        go_wp2
        have hb := HB3.out
        have hs3 := hb.size
        have hs2 := HS2.out
        go_roundg (s.size - (i + n))
        case measure => omega
        case rel => exact ⟨i + n, by omega, by rw [hb.block _ (by omega)]; exact hit2.out, HB2.out.trans (hb.mono (by omega)), by omega, HSP.out⟩

theorem zero119 (w : World) : (zeroValue 44).run Tryd.prog w = .ok (.agg (Array.replicate 256 (.bool false))) w := by kernel_rfl

theorem indexAny_any (s : ByteArray) (w : World) (hs : s.size < 4294967281) :
    Calls Tryd.prog 27 #[.string s, .string signs] w fun e w' => e = .returned (.int .i64 (Lib.indexAny s.data.toList [43, 35])) ∧ Below w.heap.size w w' := by
  by_cases h8 : s.size ≤ 8
  · exact indexAny_short s w h8
  · refine (Tryd.strings_IndexAny_long zero119 s signs w (by decide) (by omega) hs (by decide) ?_).mono ?_
    · intro j b hb
      rw [signs_data] at hb
      match j, hb with
      | 0, hb => cases hb; decide
      | 1, hb => cases hb; decide
    · rintro e w' ⟨rfl, rfl⟩
      exact ⟨rfl, ((Below.refl _ _).alloc (Nat.le_refl _) _).alloc (by simp) _⟩

set_option maxHeartbeats 400000 in
theorem containsAny_any (s : ByteArray) (w : World) (hs : s.size < 4294967281) :
    Calls Tryd.prog 21 #[.string s, .string signs] w fun e w' => e = .returned (.bool (hasB s.data.toList 43 || hasB s.data.toList 35)) ∧ Below w.heap.size w w' := by
  have cI := hide (indexAny_any s w hs)
  rw [← indexAny_pos]
  generalize Lib.indexAny s.data.toList [43, 35] = I at *
  generalize signs = S at *
  go_enter Tryd.func21, Tryd.ntmps21
  go_wp2_with (go_at_call 27; refine (unhide cI).mono ?_; rintro e w' ⟨rfl, hb⟩)
  go_ret
  exact ⟨rfl, by assumption⟩

set_option maxHeartbeats 400000 in
theorem isTopic_any (s : ByteArray) (w : World) (hs : s.size < 4294967281) (hI : Inv w) :
    Calls Tryd.prog 12 #[.string s] w fun e w' => e = .returned (.bool (topicB s.data.toList)) ∧ Below w.heap.size w w' := by
  have cF := hide (fits_any s w (by unfold maxLen; omega) hI)
  have cC := hide fun w => containsAny_any s w hs
  unfold topicB
  clear hI hs
  generalize (hasB s.data.toList 43 || hasB s.data.toList 35) = Q at *
  generalize nameB 1 30 s.data.toList = V at *
  cases V
  · clear cC
    go_enter Tryd.func12, Tryd.ntmps12
    go_wp2_with (go_at_call 19; refine (unhide cF).mono ?_; rintro e w' ⟨rfl, hb⟩)
    go_ret
    exact ⟨rfl, by assumption⟩
  · go_enter Tryd.func12, Tryd.ntmps12
    go_wp2_with fail
    refine (unhide cF).mono ?_
    rintro e w1 ⟨rfl, hb1⟩
    have HB1 := hide hb1
    clear hb1
    go_wp2_with fail
    refine (unhide cC _).mono ?_
    rintro e w2 ⟨rfl, hb2⟩
    have HB2 := hide hb2
    clear hb2
    go_wp2
    go_ret
    exact ⟨ret_bool (by simp), HB1.out.trans (HB2.out.mono HB1.out.size)⟩
end Go.Proofs.YtnmfmoimjkoieaaDoor.topWalks
