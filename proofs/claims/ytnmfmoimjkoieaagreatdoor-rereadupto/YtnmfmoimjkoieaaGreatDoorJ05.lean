import Derived.Test.YtnmfmoimjkoieaaGreatDoorJ04
import Derived.Lib.OthersKept
import Derived.Deep.LoopGhost
import Derived.Laws.RangeAny
import Derived.WalkSmall
/- What strings.ContainsAny answers at the two signs of filters, for every text of at most 30 bytes, be it UTF-8 or not; what was there is as it was. What topics.IsFilter and courantref.Filter answer, for every text: whether it is a filter; what was there is as it was. What courantref.Filter, topics.Match and courantref.Matches answer, for every two texts: the two ask the same of a filter and a topic. -/
namespace Go.Proofs.YtnmfmoimjkoieaaGreatDoor.topWalks
open Go.RowKit Go.Proofs.YtnmfmoimjkoieaaGreatDoor.topPlain

theorem get_bang (s : ByteArray) (j : Nat) (h : j < s.size) : s.get! j = s[j]'h := by
  simp [ByteArray.get!, getElem!_pos, h]
  rfl

/-- what a rune that is no ASCII takes away are bytes from 128 on -/
theorem decode_span (s : ByteArray) (i : Nat) (h : i < s.size) (ha : 128 ≤ (s.get! i).toNat) :
    ∀ j, i ≤ j → j < i + (Utf8.decode s i).2 → j < s.size ∧ 128 ≤ (s.get! j).toNat := by
  have hn : ¬ (s.get! (i + 0)).toNat < 128 := by rw [Nat.add_zero]; omega
  intro j hij hj
  obtain ⟨k, rfl⟩ : ∃ k, j = i + k := ⟨j - i, by omega⟩
  have hk : k < (Utf8.decode s i).2 := by omega
  clear hij hj
  revert hk
  simp only [Utf8.decode, hn, if_false]
  have z : k = 0 → i + k < s.size ∧ 128 ≤ (s.get! (i + k)).toNat := fun e => by subst e; exact ⟨by omega, by rw [Nat.add_zero]; exact ha⟩
  have c : ∀ m, (decide (i + m < s.size) && (s.get! (i + m)).toNat / 64 == 2) = true → k = m → i + k < s.size ∧ 128 ≤ (s.get! (i + k)).toNat := by
    intro m hm e
    subst e
    simp only [Bool.and_eq_true, decide_eq_true_eq, beq_iff_eq] at hm
    exact ⟨hm.1, by omega⟩
  split
  · rename_i h1
    rw [Bool.and_eq_true] at h1
    split
    · intro hk
      rcases (by omega : k = 0 ∨ k = 1) with e | e
      · exact z e
      · exact c 1 h1.2 e
    · intro hk; exact z (by omega)
  · split
    · rename_i h1
      rw [Bool.and_eq_true, Bool.and_eq_true] at h1
      split
      · intro hk
        rcases (by omega : k = 0 ∨ k = 1 ∨ k = 2) with e | e | e
        · exact z e
        · exact c 1 h1.1.2 e
        · exact c 2 h1.2 e
      · intro hk; exact z (by omega)
    · split
      · rename_i h1
        rw [Bool.and_eq_true, Bool.and_eq_true, Bool.and_eq_true] at h1
        split
        · intro hk
          rcases (by omega : k = 0 ∨ k = 1 ∨ k = 2 ∨ k = 3) with e | e | e | e
          · exact z e
          · exact c 1 h1.1.1.2 e
          · exact c 2 h1.1.2 e
          · exact c 3 h1.2 e
        · intro hk; exact z (by omega)
      · intro hk; exact z (by omega)

def signs : ByteArray := ⟨#[43, 35]⟩
theorem signs_data : signs.data.toList = [43, 35] := rfl

theorem noAny_span {s : ByteArray} {i n : Nat} (h : Lib.NoAny s.data.toList [43, 35] i) (hs : ∀ j, i ≤ j → j < i + n → j < s.size ∧ 128 ≤ (s.get! j).toNat) : Lib.NoAny s.data.toList [43, 35] (i + n) := by
  intro j b hj hb
  by_cases e : j < i
  · exact h j b e hb
  · obtain ⟨h1, h2⟩ := hs j (by omega) hj
    rw [get_list s j h1] at hb
    rw [get_bang s j h1] at h2
    cases hb
    have h43 : s[j] ≠ 43 := fun e => by rw [e] at h2; exact absurd h2 (by decide)
    have h35 : s[j] ≠ 35 := fun e => by rw [e] at h2; exact absurd h2 (by decide)
    simp [h43, h35]

set_option maxHeartbeats 1000000 in
set_option maxRecDepth 100000 in
/-- a rune that is no ASCII: RuneError -/
theorem indexRune_error (w : World) :
    Calls Tryz.prog 279 #[.string signs, .int .i32 65533] w fun e w' => e = .returned (.int .i64 (-1)) ∧ Below w.heap.size w w' := by
  have hz : signs.size = 2 := rfl
  have n0 := fun ty => run_next_ascii (P := Tryz.prog) w signs 0 ty (by decide) (by decide)
  have n1 := fun ty => run_next_ascii (P := Tryz.prog) w signs 1 ty (by decide) (by decide)
  have n2 := fun ty => run_next_end (P := Tryz.prog) w signs 2 ty (by decide)
  rw [show ((signs[0]'(by decide)).toNat : Int) = 43 from rfl] at n0
  rw [show ((signs[1]'(by decide)).toNat : Int) = 35 from rfl] at n1
  generalize signs = S at *
  go_enter Tryz.func279, Tryz.ntmps279
  go_wp2
  go_loopg [5, 6] 2 (fun g _ _ wx => g ≤ 2 ∧ wx = w.iter S (2 - g))
  case atStart => exact ⟨by omega, rfl⟩
  case round =>
    obtain ⟨hg, rfl⟩ := hrel
    rcases (by omega : gk = 0 ∨ gk = 1 ∨ gk = 2) with rfl | rfl | rfl
    · simp only [Nat.sub_zero]
      go_wp2
      go_ret
      exact ⟨rfl, (Below.refl _ _).alloc (Nat.le_refl _) _⟩
    · simp only [show 2 - 1 = 1 from rfl]
      go_wp2
      go_roundg 0
      case measure => omega
      case rel => exact ⟨by omega, rfl⟩
    · simp only [Nat.sub_self]
      go_wp2
      go_roundg 1
      case measure => omega
      case rel => exact ⟨by omega, rfl⟩

set_option maxHeartbeats 1000000 in
set_option maxRecDepth 100000 in
/-- no rune at all -/
theorem indexRune_bad (r : Int) (w : World) (h : 128 ≤ r) (he : r ≠ 65533) (hv : Lib.validRune r = false) :
    Calls Tryz.prog 279 #[.string signs, .int .i32 r] w fun e w' => e = .returned (.int .i64 (-1)) ∧ Below w.heap.size w w' := by
  have cV := Tryz.utf8_ValidRune r w
  rw [hv] at cV
  have HV := hide cV
  have hne : (r == 65533) = false := beq_eq_false_iff_ne.2 he
  have hlt : ¬ r < 128 := by omega
  have h0 : (0 : Int) ≤ r := by omega
  clear cV hv he
  generalize signs = S at *
  go_enter Tryz.func279, Tryz.ntmps279
  go_wp2_with (go_at_call 287; refine (unhide HV).mono ?_; rintro e w' ⟨rfl, rfl⟩)
  go_ret
  exact ⟨rfl, Below.refl _ _⟩

set_option maxHeartbeats 1000000 in
set_option maxRecDepth 100000 in
/-- a rune of two bytes or more -/
theorem indexRune_wide (r : Int) (w : World) (h : 128 ≤ r) (he : r ≠ 65533) (hv : Lib.validRune r = true) :
    Calls Tryz.prog 279 #[.string signs, .int .i32 r] w fun e w' => e = .returned (.int .i64 (-1)) ∧ Below w.heap.size w w' := by
  have cV := Tryz.utf8_ValidRune r w
  rw [hv] at cV
  have HV := hide cV
  have hne : (r == 65533) = false := beq_eq_false_iff_ne.2 he
  have hlt : ¬ r < 128 := by omega
  have h0 : (0 : Int) ≤ r := by omega
  obtain ⟨e1, e2, e3⟩ := encode_facts r (by rw [validRune_eq]; exact hv) h
  clear cV hv he
  have hz : signs.size = 2 := rfl
  have g1 : ∀ h : 1 < signs.size, signs[1]'h = 35 := fun _ => rfl
  have ix : ∀ c w', Calls Tryz.prog 234 #[.string ByteArray.empty, .int .u8 c] w' fun e w'' => e = .returned (.int .i64 (-1)) ∧ w'' = w' := fun c w' => Tryz.strings_IndexByte ByteArray.empty c w'
  have HX := hide ix
  clear ix
  generalize signs = S at *
  go_enter Tryz.func279, Tryz.ntmps279
  go_wp2_with (go_at_call 287; refine (unhide HV).mono ?_; rintro e w' ⟨rfl, rfl⟩)
  refine wp_scope_straight ?_
  go_wp2
  go_loopw [9] (fun i wx => i = .int .i64 (((Utf8.encode r).size : Int) - 1) ∧ wx = w') (fun _ _ => 0)
  case atStart => exact ⟨by go_num, rfl⟩
  case round =>
    obtain ⟨rfl, rfl⟩ := hrel
    by_cases hE : (Utf8.encode r).size = 2
    · have hlast : ((Utf8.encode r)[1]'(by omega)).toNat ≥ 128 := by have := e3 (by omega); simp only [hE] at this; exact this
      have hl0 : (128 : Int) ≤ (((Utf8.encode r)[1]'(by omega)).toNat : Int) := by omega
      have hl1 : ((35 : Int) == (((Utf8.encode r)[1]'(by omega)).toNat : Int)) = false := beq_eq_false_iff_ne.2 (by omega)
      have hw2 : IntKind.i64.wrap 2 = 2 := by decide
      clear e3 hlast
      go_wp2
      refine wp_scope_straight ?_
      go_wp2
      go_quiet (fail)
      go_wp2
      go_quiet ((go_at_call 234; exact (unhide HX _ _).mono fun _ _ h => ⟨h.1, _, h.2⟩))
      go_wp2
      simp +zetaDelta only [Exit.noGoto_ret, Exit.inBlock, Exit.then]
      go_ret
      exact ⟨rfl, below_drewN (Below.refl _ _) _⟩
    · have hge : ¬ (((Utf8.encode r).size : Int) - 1 < 2) := by omega
      clear e3
      go_wp2
      go_ret
      exact ⟨rfl, Below.refl _ _⟩

/-- a rune that is no ASCII is none of the signs -/
theorem indexRune_high (r : Int) (w : World) (h : 128 ≤ r) :
    Calls Tryz.prog 279 #[.string signs, .int .i32 r] w fun e w' => e = .returned (.int .i64 (-1)) ∧ Below w.heap.size w w' := by
  by_cases he : r = 65533
  · subst he; exact indexRune_error w
  · cases hv : Lib.validRune r
    · exact indexRune_bad r w h he hv
    · exact indexRune_wide r w h he hv
theorem indexRune_low (x : UInt8) (w : World) (h : x.toNat < 128) :
    Calls Tryz.prog 279 #[.string signs, .int .i32 (x.toNat : Int)] w fun e w' => e = .returned (.int .i64 (Lib.indexByte [43, 35] x)) ∧ w' = w := by
  have := Tryz.strings_IndexRune_ascii signs x.toNat w (by omega) (by omega)
  rw [show ((x.toNat : Int)).toNat.toUInt8 = x by simp, signs_data] at this
  exact this

set_option maxHeartbeats 1000000 in
set_option maxRecDepth 100000 in
theorem indexAny_short (s : ByteArray) (w : World) (h8 : s.size ≤ 8) :
    Calls Tryz.prog 273 #[.string s, .string signs] w fun e w' => e = .returned (.int .i64 (Lib.indexAny s.data.toList [43, 35])) ∧ Below w.heap.size w w' := by
  have hemp : signs.toList.isEmpty = false := by rw [Lib.toList_data, signs_data]; rfl
  have hz : signs.size = 2 := rfl
  have h8z : decide ((8 : Int) < (s.size : Int)) = false := decide_eq_false (by omega)
  have cU := hide fun n w => Tryz.strings_shouldUseASCIISet n w
  have cL := hide fun x w h => indexRune_low x w h
  have cH := hide fun r w h => indexRune_high r w h
  generalize signs = S at *
  go_enter Tryz.func273, Tryz.ntmps273
  go_wp2_with (go_at_call 280; refine (unhide cU _ _).mono ?_; rintro e w' ⟨rfl, hw⟩; rw [hw, h8z])
  go_loopg [9, 10] s.size (fun g _ _ wx => ∃ i : Nat, i + g = s.size ∧ wx.heap[w.heap.size]? = some (.stringIter s i) ∧ Below w.heap.size w wx ∧ w.heap.size < wx.heap.size ∧ Lib.NoAny s.data.toList [43, 35] i)
  case atStart => exact ⟨0, by omega, World.iter_heap _ _ _, (Below.refl _ _).alloc (Nat.le_refl _) _, by simp [World.iter], Lib.NoAny.zero _ _⟩
  case round =>
    obtain ⟨i, hig, hit, hbel, hszl, hno⟩ := hrel
    have HN := hide hno
    have hit' := hit
    have HIT := hide hit
    clear hno hit
    cases gk with
    | zero =>
      obtain rfl : i = s.size := by omega
      have hnx := fun ty => Lib.run_next_end_at (P := Tryz.prog) wr w.heap.size s s.size ty hit' (by omega)
      clear hit'
      go_wp2
      go_ret
      exact ⟨by rw [Lib.indexAny_none (by rw [← Lib.size_eq]; exact HN.out)]; rfl, hbel⟩
    | succ g =>
      have hi : i < s.size := by omega
      obtain ⟨x, hx⟩ : ∃ x : UInt8, s[i]'hi = x := ⟨_, rfl⟩
      have Hx : Hid (s.data.toList[i]? = some x) := by rw [← hx]; exact get_list s i hi
      by_cases hx128 : x.toNat < 128
      · have hnx := fun ty => Lib.run_next_ascii_at (P := Tryz.prog) wr w.heap.size s i ty hit' hi (by rw [hx]; exact hx128)
        rw [hx] at hnx
        clear hit' hx
        have hb2 : Below w.heap.size w (wr.iterAt w.heap.size s (i + 1)) := Lib.below_iterAt hbel (Nat.le_refl _) s (i + 1)
        have hit2 : Hid ((wr.iterAt w.heap.size s (i + 1)).heap[w.heap.size]? = some (.stringIter s (i + 1))) := Lib.iterAt_heap wr w.heap.size s i (i + 1) HIT.out
        have hsz2 : w.heap.size < (wr.iterAt w.heap.size s (i + 1)).heap.size := by rw [Lib.iterAt_size]; exact hszl
        have HB2 := hide hb2
        have HS2 := hide hsz2
        clear hb2 hsz2
        generalize wr.iterAt w.heap.size s (i + 1) = W2 at *
        have hcon := Lib.contains_iff_indexByte [43, 35] x
        cases hin : ([43, 35] : List UInt8).contains x
        · rw [hin] at hcon
          have hlt : ¬ ((0 : Int) ≤ Lib.indexByte [43, 35] x) := of_decide_eq_false hcon.symm
          have HIN := hide hin
          clear hcon hin
          go_wp2_with (go_at_call 279; refine (unhide cL x _ (by omega)).mono ?_; rintro e w' ⟨rfl, rfl⟩)
          go_roundg g
          case measure => omega
          case rel => exact ⟨i + 1, by omega, hit2.out, HB2.out, HS2.out, HN.out.succ Hx.out HIN.out⟩
        · rw [hin] at hcon
          have hge : (0 : Int) ≤ Lib.indexByte [43, 35] x := of_decide_eq_true hcon.symm
          have HIN := hide hin
          clear hcon hin
          go_wp2_with (go_at_call 279; refine (unhide cL x _ (by omega)).mono ?_; rintro e w' ⟨rfl, rfl⟩)
          go_ret
          exact ⟨by rw [Lib.indexAny_hit HN.out Hx.out HIN.out]; rfl, HB2.out⟩
      · have hg128 : 128 ≤ (s.get! i).toNat := by rw [get_bang s i hi, hx]; omega
        have hnx := fun ty => Lib.run_next_any_at (P := Tryz.prog) wr w.heap.size s i ty hit' hi
        obtain ⟨hd1, hd2⟩ := decode_high s i hi (by rw [hx]; omega)
        have hsp := decode_span s i hi hg128
        clear hit' hx hg128
        generalize Utf8.decode s i = D at *
        obtain ⟨c, n⟩ := D
        simp only at hnx hd1 hd2 hsp
        have hend : i + n ≤ s.size := by have := hsp (i + n - 1) (by omega) (by omega); omega
        have HSP := hide (noAny_span HN.out hsp)
        clear hsp HN
        have hb2 : Below w.heap.size w (wr.iterAt w.heap.size s (i + n)) := Lib.below_iterAt hbel (Nat.le_refl _) s (i + n)
        have hit2 : Hid ((wr.iterAt w.heap.size s (i + n)).heap[w.heap.size]? = some (.stringIter s (i + n))) := Lib.iterAt_heap wr w.heap.size s i (i + n) HIT.out
        have hsz2 : w.heap.size < (wr.iterAt w.heap.size s (i + n)).heap.size := by rw [Lib.iterAt_size]; exact hszl
        have HB2 := hide hb2
        have HS2 := hide hsz2
        clear hb2 hsz2
        generalize wr.iterAt w.heap.size s (i + n) = W2 at *
        go_wp2_with fail
        refine (unhide cH (c : Int) _ (by omega)).mono ?_
        rintro e w3 ⟨rfl, hb0⟩
        have HB3 := hide hb0
        clear hb0
        go_wp2
        have hb := HB3.out
        have hs3 := hb.size
        have hs2 := HS2.out
        go_roundg (s.size - (i + n))
        case measure => omega
        case rel => exact ⟨i + n, by omega, by rw [hb.block _ (by omega)]; exact hit2.out, HB2.out.trans (hb.mono (by omega)), by omega, HSP.out⟩

theorem zero119 (w : World) : (zeroValue 321).run Tryz.prog w = .ok (.agg (Array.replicate 256 (.bool false))) w := by kernel_rfl

theorem indexAny_any (s : ByteArray) (w : World) (hs : s.size < 4294967281) :
    Calls Tryz.prog 273 #[.string s, .string signs] w fun e w' => e = .returned (.int .i64 (Lib.indexAny s.data.toList [43, 35])) ∧ Below w.heap.size w w' := by
  by_cases h8 : s.size ≤ 8
  · exact indexAny_short s w h8
  · refine (Tryz.strings_IndexAny_long zero119 s signs w (by decide) (by omega) hs (by decide) ?_).mono ?_
    · intro j b hb
      rw [signs_data] at hb
      match j, hb with
      | 0, hb => cases hb; decide
      | 1, hb => cases hb; decide
    · rintro e w' ⟨rfl, rfl⟩
      exact ⟨rfl, ((Below.refl _ _).alloc (Nat.le_refl _) _).alloc (by simp) _⟩

set_option maxHeartbeats 400000 in
theorem containsAny_any (s : ByteArray) (w : World) (hs : s.size < 4294967281) :
    Calls Tryz.prog 257 #[.string s, .string signs] w fun e w' => e = .returned (.bool (hasB s.data.toList 43 || hasB s.data.toList 35)) ∧ Below w.heap.size w w' := by
  have cI := hide (indexAny_any s w hs)
  rw [← indexAny_pos]
  generalize Lib.indexAny s.data.toList [43, 35] = I at *
  generalize signs = S at *
  go_enter Tryz.func257, Tryz.ntmps257
  go_wp2_with (go_at_call 273; refine (unhide cI).mono ?_; rintro e w' ⟨rfl, hb⟩)
  go_ret
  exact ⟨rfl, by assumption⟩

set_option maxHeartbeats 400000 in
theorem isTopic_any (s : ByteArray) (w : World) (hs : s.size < 4294967281) (hI : Inv w) :
    Calls Tryz.prog 228 #[.string s] w fun e w' => e = .returned (.bool (topicB s.data.toList)) ∧ Below w.heap.size w w' := by
  have cF := hide (fits_any s w (by unfold maxLen; omega) hI)
  have cC := hide fun w => containsAny_any s w hs
  unfold topicB
  clear hI hs
  generalize (hasB s.data.toList 43 || hasB s.data.toList 35) = Q at *
  generalize nameB 1 30 s.data.toList = V at *
  cases V
  · clear cC
    go_enter Tryz.func228, Tryz.ntmps228
    go_wp2_with (go_at_call 235; refine (unhide cF).mono ?_; rintro e w' ⟨rfl, hb⟩)
    go_ret
    exact ⟨rfl, by assumption⟩
  · go_enter Tryz.func228, Tryz.ntmps228
    go_wp2_with fail
    refine (unhide cF).mono ?_
    rintro e w1 ⟨rfl, hb1⟩
    have HB1 := hide hb1
    clear hb1
    go_wp2_with fail
    refine (unhide cC _).mono ?_
    rintro e w2 ⟨rfl, hb2⟩
    have HB2 := hide hb2
    clear hb2
    go_wp2
    go_ret
    exact ⟨ret_bool (by simp), HB1.out.trans (HB2.out.mono HB1.out.size)⟩
end Go.Proofs.YtnmfmoimjkoieaaGreatDoor.topWalks

namespace Go.Proofs.YtnmfmoimjkoieaaGreatDoor.topWalks
open Go.RowKit Go.Proofs.YtnmfmoimjkoieaaGreatDoor.topPlain

theorem split_any (s : ByteArray) (w : World) (hs : s.size < 4294967281) (hI : Inv w) :
    Calls Tryz.prog 232 #[.string s, .string ⟨#[47]⟩] w fun e w' => e = .returned (.slice (some ⟨w.heap.size, 0, none⟩) (lev s.data.toList).length (lev s.data.toList).length) ∧ w' = w.alloc (.cells (strs (lev s.data.toList)).toArray 9) := by
  obtain ⟨_, m, hm⟩ := hI
  refine (Tryz.strings_Split s (bs [47]) m w hs hm (by decide)).mono ?_
  rintro e w' ⟨rfl, rfl⟩
  have h1 : Lib.countB s (bs [47]) + 1 = (lev s.data.toList).length := count_lev _ _ (Nat.le_refl _)
  rw [h1, splitB_lev, List.map_map]
  exact ⟨rfl, rfl⟩

theorem contains_any (s : ByteArray) (c : UInt8) (w : World) :
    Calls Tryz.prog 262 #[.string s, .string ⟨#[c]⟩] w fun e w' => e = .returned (.bool (hasB s.data.toList c)) ∧ w' = w := by
  rw [← indexByte_pos]
  exact Tryz.strings_Contains_one s c w

set_option maxHeartbeats 400000 in
theorem isFilterLevel_any (s : ByteArray) (last : Bool) (w : World) :
    Calls Tryz.prog 236 #[.string s, .bool last] w fun e w' => e = .returned (.bool (okLev s.data.toList last)) ∧ w' = w := by
  have c35 := hide fun w => contains_any s 35 w
  have c43 := hide fun w => contains_any s 43 w
  have e35 : (s.toList == [35]) = (s.data.toList == [35]) := by rw [Lib.toList_data]
  have e43 : (s.toList == [43]) = (s.data.toList == [43]) := by rw [Lib.toList_data]
  unfold okLev
  generalize hasB s.data.toList 35 = H at *
  generalize hasB s.data.toList 43 = Q at *
  generalize (s.data.toList == [35]) = E at *
  generalize (s.data.toList == [43]) = F at *
  cases H
  · cases F
    · go_enter Tryz.func236, Tryz.ntmps236
      go_wp2_with fail
      refine (unhide c35 _).mono ?_
      rintro e w' ⟨rfl, rfl⟩
      go_wp2_with fail
      refine (unhide c43 _).mono ?_
      rintro e w' ⟨rfl, rfl⟩
      go_wp2
      go_ret
      exact ⟨ret_bool (by simp), rfl⟩
    · go_enter Tryz.func236, Tryz.ntmps236
      go_wp2_with fail
      refine (unhide c35 _).mono ?_
      rintro e w' ⟨rfl, rfl⟩
      go_wp2
      go_ret
      exact ⟨ret_bool (by simp), rfl⟩
  · cases E <;> cases last
    all_goals
      go_enter Tryz.func236, Tryz.ntmps236
      go_wp2_with fail
      refine (unhide c35 _).mono ?_
      rintro e w' ⟨rfl, rfl⟩
      go_wp2
      go_ret
      exact ⟨ret_bool (by simp), rfl⟩

theorem alloc_cell (w : World) (L : List (List UInt8)) (j : Nat) (x : List UInt8) (h : L[j]? = some x) : (w.alloc (.cells (strs L).toArray 9)).cell? ⟨w.heap.size, j, none⟩ = some (.string (bs x)) := by
  simp [strs, h]

set_option maxHeartbeats 800000 in
set_option maxRecDepth 100000 in
theorem isFilter_any (s : ByteArray) (w : World) (hs : s.size < 4294967281) (hI : Inv w) :
    Calls Tryz.prog 206 #[.string s] w fun e w' => e = .returned (.bool (filterB s.data.toList)) ∧ Below w.heap.size w w' := by
  have cF := hide (fits_any s w (by unfold maxLen; omega) hI)
  have hlen := lev_length_le s.data.toList
  rw [← Lib.size_eq] at hlen
  unfold filterB
  generalize nameB 1 30 s.data.toList = V at *
  cases V
  · clear hI hlen
    go_enter Tryz.func206, Tryz.ntmps206
    go_wp2_with (go_at_call 235; refine (unhide cF).mono ?_; rintro e w' ⟨rfl, hb⟩)
    go_ret
    exact ⟨rfl, by assumption⟩
  · have HI := hide hI
    have cS := hide fun w (h : Inv w) => split_any s w hs h
    have cL := hide fun x last w => isFilterLevel_any (bs x) last w
    clear hI
    rw [Bool.true_and]
    generalize lev s.data.toList = L at *
    go_enter Tryz.func206, Tryz.ntmps206
    go_wp2_with fail
    refine (unhide cF).mono ?_
    rintro e w1 ⟨rfl, hb1⟩
    have HI1 := hide (HI.out.below hb1)
    have HB1 := hide hb1
    clear hb1
    go_wp2_with fail
    refine (unhide cS _ HI1.out).mono ?_
    rintro e w2 ⟨rfl, hw2⟩
    have HC : Hid (∀ (j : Nat) x, L[j]? = some x → w2.cell? ⟨w1.heap.size, j, none⟩ = some (.string (bs x))) := fun j x h => by rw [hw2]; exact alloc_cell w1 L j x h
    have HB2 : Hid (Below w.heap.size w w2) := by rw [hw2]; exact HB1.out.alloc HB1.out.size _
    clear hw2
    go_wp2_with fail
    go_loopw [13] (fun i wx => ∃ k : Nat, k ≤ L.length ∧ i = .int .i64 k ∧ wx = w2 ∧ okLevs (L.drop k) = okLevs L) (fun i _ => L.length - (intOf i).toNat)
    case atStart => exact ⟨0, Nat.zero_le _, rfl, rfl, by simp⟩
    case round =>
      obtain ⟨k, hk, rfl, rfl, hr⟩ := hrel
      have HR := hide hr
      clear hr
      by_cases hlt : k < L.length
      · obtain ⟨x, hx⟩ : ∃ x, L[k]? = some x := ⟨_, List.getElem?_eq_getElem hlt⟩
        have cx := HC.out k x hx
        have hd := okLevs_drop L k hlt
        rw [show L[k] = x from (List.getElem?_eq_some_iff.1 hx).2, HR.out] at hd
        have HD := hide hd
        clear hd hx
        have hlast : ((k : Int) == (L.length : Int) - 1) = decide (k + 1 = L.length) := by
          by_cases e : k + 1 = L.length
          · rw [decide_eq_true e]; exact beq_iff_eq.2 (by omega)
          · rw [decide_eq_false e]; exact beq_eq_false_iff_ne.2 (by omega)
        generalize decide (k + 1 = L.length) = lst at *
        have cLx := hide fun w => unhide cL x lst w
        cases hok : okLev x lst
        · have HD2 : Hid (okLevs L = false) := by rw [HD.out, hok]; rfl
          have cLy : Hid (∀ w, Calls Tryz.prog 236 #[.string (bs x), .bool lst] w fun e w' => e = .returned (.bool false) ∧ w' = w) := by rw [← hok]; exact cLx
          clear cLx hok HD
          go_wp2_with fail
          refine (unhide cLy _).mono ?_
          rintro e w' ⟨rfl, rfl⟩
          go_wp2
          go_ret
          exact ⟨ret_bool HD2.out.symm, HB2.out⟩
        · have HD2 : Hid (okLevs L = okLevs (L.drop (k + 1))) := by have := HD.out; rw [hok, Bool.true_and] at this; exact this
          have cLy : Hid (∀ w, Calls Tryz.prog 236 #[.string (bs x), .bool lst] w fun e w' => e = .returned (.bool true) ∧ w' = w) := by rw [← hok]; exact cLx
          clear cLx hok HD
          go_wp2_with fail
          refine (unhide cLy _).mono ?_
          rintro e w' ⟨rfl, rfl⟩
          go_wp2
          go_roundw
          case rel => exact ⟨k + 1, by omega, by go_num, by trivial, HD2.out.symm⟩
          case measure => simp [intOf]; omega
      · obtain rfl : k = L.length := by omega
        have HE : Hid (okLevs L = true) := by rw [← HR.out, List.drop_length]; rfl
        go_wp2
        go_ret
        exact ⟨ret_bool HE.out.symm, HB2.out⟩
end Go.Proofs.YtnmfmoimjkoieaaGreatDoor.topWalks

namespace Go.Proofs.YtnmfmoimjkoieaaGreatDoor.topWalks
open Go.RowKit Go.Proofs.YtnmfmoimjkoieaaGreatDoor.topPlain

/-- the levels of a text lie in block g -/
def LevIn (w : World) (g : Nat) (L : List (List UInt8)) : Prop := ∀ (j : Nat) x, L[j]? = some x → w.cell? ⟨g, j, none⟩ = some (.string (bs x))
theorem LevIn.below {w w' : World} {g : Nat} {L : List (List UInt8)} (h : LevIn w g L) (hb : Below w.heap.size w w') : LevIn w' g L := fun j x hx => by
  have := h j x hx
  rw [hb.cell (cell_lt this)]
  exact this

theorem levels_in {w : World} {B : Nat} {v : Value} {L : List (List UInt8)} (hne : L ≠ []) (h : w.ownsRow B 9 1 v L.length (strs L)) : ∃ g cap, v = .slice (some ⟨g, 0, none⟩) L.length cap ∧ L.length ≤ cap ∧ cap ≤ maxLen ∧ LevIn w g L := by
  have hk := @World.ownsRow.cells _ _ _ _ _ _ _ h
  rcases h.2 with ⟨_, h0⟩ | ⟨g, cap, cur, rfl, hg, hh, hc1, hc2, _, _⟩
  · exact absurd (List.length_eq_zero_iff.1 h0) hne
  · refine ⟨g, cap, rfl, hc1, hc2, fun j x hx => ?_⟩
    have := hk (g := g) rfl j (.string (bs x)) (by simp [strs, hx])
    have hadd : (⟨g, 0, none⟩ : Addr).add j = ⟨g, j, none⟩ := by unfold Addr.add; split <;> simp_all
    rw [hadd] at this
    exact this

theorem levels_lev (s : ByteArray) (w : World) (hs : s.size ≤ 4294967280) :
    Calls Tryz.prog 176 #[.string s] w fun e w' => ∃ g cap, e = .returned (.slice (some ⟨g, 0, none⟩) (lev s.data.toList).length cap) ∧ (lev s.data.toList).length ≤ cap ∧ cap ≤ maxLen ∧ LevIn w' g (lev s.data.toList) ∧ Below w.heap.size w w' := by
  refine (levels_any s w hs).mono ?_
  rintro e w' ⟨v, rfl, hown, hb⟩
  obtain ⟨g, cap, rfl, h1, h2, h3⟩ := levels_in (lev_ne _) hown
  exact ⟨g, cap, rfl, h1, h2, h3, hb⟩

set_option maxHeartbeats 1600000 in
set_option maxRecDepth 100000 in
theorem rFilter_any (s : ByteArray) (w : World) (hs : s.size ≤ 4294967280) (hI : Inv w) :
    Calls Tryz.prog 136 #[.string s] w fun e w' => e = .returned (.bool (filterB s.data.toList)) ∧ Below w.heap.size w w' := by
  have cL := hide (levels_lev s w hs)
  have cN := hide fun w (h : Inv w) => rName_any s 1 30 w (by unfold maxLen; omega) h
  have hlen := lev_length_le s.data.toList
  have hbl : ∀ x ∈ lev s.data.toList, x.length ≤ s.size := fun x hx => by rw [Lib.size_eq]; exact lev_mem_le _ x hx
  rw [← Lib.size_eq] at hlen
  unfold filterB
  have HI := hide hI
  have HBL := hide hbl
  clear hI hbl
  generalize lev s.data.toList = L at *
  generalize nameB 1 30 s.data.toList = V at *
  go_enter Tryz.func136, Tryz.ntmps136
  go_wp2_with fail
  refine (unhide cL).mono ?_
  rintro e w1 ⟨g, cap, rfl, hcap, hcm, hin, hb1⟩
  have HI1 := hide (HI.out.below hb1)
  have HB1 := hide hb1
  have HC := hide hin
  clear hb1 hin
  unfold maxLen at hcm
  go_wp2_with fail
  go_loopw [4] (fun i wx => ∃ k : Nat, k ≤ L.length ∧ i = .int .i64 k ∧ wx = w1 ∧ okLevs (L.drop k) = okLevs L) (fun i _ => L.length - (intOf i).toNat)
  case atStart => exact ⟨0, Nat.zero_le _, rfl, rfl, by simp⟩
  case round =>
    obtain ⟨k, hk, rfl, rfl, hr⟩ := hrel
    have HR := hide hr
    clear hr
    by_cases hlt : k < L.length
    · obtain ⟨x, hx⟩ : ∃ x, L[k]? = some x := ⟨_, List.getElem?_eq_getElem hlt⟩
      have cx := HC.out k x hx
      have hxl := HBL.out x (List.mem_of_getElem? hx)
      have hd := okLevs_drop L k hlt
      rw [show L[k] = x from (List.getElem?_eq_some_iff.1 hx).2, HR.out, okLev_ref] at hd
      have e35 : ((bs x).toList == [35]) = (x == [35]) := by rw [Lib.toList_data, data_bs]
      have e43 : ((bs x).toList == [43]) = (x == [43]) := by rw [Lib.toList_data, data_bs]
      have h43 := fun w => has_43 (bs x) w (by unfold maxLen; rw [Lib.size_eq, data_bs]; omega)
      have h35 := fun w => has_35 (bs x) w (by unfold maxLen; rw [Lib.size_eq, data_bs]; omega)
      rw [data_bs] at h43 h35
      clear hx hxl
      generalize hasB x 43 = P at *
      generalize hasB x 35 = Q at *
      generalize (x == [35]) = E at *
      generalize (x == [43]) = F at *
      have H43 := hide h43
      have H35 := hide h35
      clear h43 h35
      have hlast : ((k : Int) + 1 < (L.length : Int)) ∨ ¬ ((k : Int) + 1 < (L.length : Int)) := by omega
      have hdl : decide (k + 1 = L.length) = !decide ((k : Int) + 1 < (L.length : Int)) := by
        by_cases e : k + 1 = L.length
        · rw [decide_eq_true e, decide_eq_false (by omega)]; rfl
        · rw [decide_eq_false e, decide_eq_true (by omega)]; rfl
      rw [hdl] at hd
      have HD := hide hd
      clear hd hdl
      rcases hlast with hla | hla
      all_goals
        cases P <;> cases F <;> cases Q <;> cases E
      all_goals
        first
          | rw [decide_eq_true hla] at HD
          | rw [decide_eq_false hla] at HD
        go_wp2_with fail
        refine (unhide H43 _).mono ?_
        rintro e w' ⟨rfl, rfl⟩
        go_wp2_with fail
        refine (unhide H35 _).mono ?_
        rintro e w' ⟨rfl, rfl⟩
        go_wp2
      all_goals
        first
          | (go_ret; exact ⟨ret_bool (by have := HD.out; simp at this; rw [this]; simp), HB1.out⟩)
          | (go_roundw
             case rel => exact ⟨k + 1, by omega, by go_num, by trivial, by have := HD.out; simp at this; rw [this]⟩
             case measure => simp [intOf]; omega)
    · obtain rfl : k = L.length := by omega
      have HE : Hid (okLevs L = true) := by rw [← HR.out, List.drop_length]; rfl
      go_wp2_with fail
      refine (unhide cN _ HI1.out).mono ?_
      rintro e w' ⟨rfl, hb2⟩
      have HB2 := hide hb2
      clear hb2
      go_wp2
      go_ret
      exact ⟨ret_bool (by rw [HE.out, Bool.and_true]), HB1.out.trans (HB2.out.mono HB1.out.size)⟩
end Go.Proofs.YtnmfmoimjkoieaaGreatDoor.topWalks
