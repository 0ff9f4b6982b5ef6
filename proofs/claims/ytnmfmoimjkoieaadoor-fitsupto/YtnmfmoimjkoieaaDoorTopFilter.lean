/- What topics.IsFilter and courantref.Filter answer, for every text: whether it is a filter; what was there is as it was. -/
import Derived.Test.YtnmfmoimjkoieaaDoorTopAny
namespace Go.Proofs.YtnmfmoimjkoieaaDoor.topWalks
open Go.RowKit Go.Proofs.YtnmfmoimjkoieaaDoor.topPlain

theorem split_any (s : ByteArray) (w : World) (hs : s.size < 4294967281) (hI : Inv w) :
    Calls Tryd.prog 16 #[.string s, .string ⟨#[47]⟩] w fun e w' => e = .returned (.slice (some ⟨w.heap.size, 0, none⟩) (lev s.data.toList).length (lev s.data.toList).length) ∧ w' = w.alloc (.cells (strs (lev s.data.toList)).toArray 9) := by
  obtain ⟨_, m, hm⟩ := hI
  refine (Tryd.strings_Split s (bs [47]) m w hs hm (by decide)).mono ?_
  rintro e w' ⟨rfl, rfl⟩
  have h1 : Lib.countB s (bs [47]) + 1 = (lev s.data.toList).length := count_lev _ _ (Nat.le_refl _)
  rw [h1, splitB_lev, List.map_map]
  exact ⟨rfl, rfl⟩

theorem contains_any (s : ByteArray) (c : UInt8) (w : World) :
    Calls Tryd.prog 26 #[.string s, .string ⟨#[c]⟩] w fun e w' => e = .returned (.bool (hasB s.data.toList c)) ∧ w' = w := by
  rw [← indexByte_pos]
  exact Tryd.strings_Contains_one s c w

set_option maxHeartbeats 400000 in
theorem isFilterLevel_any (s : ByteArray) (last : Bool) (w : World) :
    Calls Tryd.prog 20 #[.string s, .bool last] w fun e w' => e = .returned (.bool (okLev s.data.toList last)) ∧ w' = w := by
  have c35 := hide fun w => contains_any s 35 w
  have c43 := hide fun w => contains_any s 43 w
  have e35 : (s.toList == [35]) = (s.data.toList == [35]) := by rw [Lib.toList_data]
  have e43 : (s.toList == [43]) = (s.data.toList == [43]) := by rw [Lib.toList_data]
  unfold okLev
  generalize hasB s.data.toList 35 = H at *
  generalize hasB s.data.toList 43 = Q at *
  generalize (s.data.toList == [35]) = E at *
  generalize (s.data.toList == [43]) = F at *
  cases H
  · cases F
    · go_enter Tryd.func20, Tryd.ntmps20
      go_wp2_with fail
      refine (unhide c35 _).mono ?_
      rintro e w' ⟨rfl, rfl⟩
      go_wp2_with fail
      refine (unhide c43 _).mono ?_
      rintro e w' ⟨rfl, rfl⟩
      go_wp2
      go_ret
      exact ⟨ret_bool (by simp), rfl⟩
    · go_enter Tryd.func20, Tryd.ntmps20
      go_wp2_with fail
      refine (unhide c35 _).mono ?_
      rintro e w' ⟨rfl, rfl⟩
      go_wp2
      go_ret
      exact ⟨ret_bool (by simp), rfl⟩
  · cases E <;> cases last
    all_goals
      go_enter Tryd.func20, Tryd.ntmps20
      go_wp2_with fail
      refine (unhide c35 _).mono ?_
      rintro e w' ⟨rfl, rfl⟩
      go_wp2
      go_ret
      exact ⟨ret_bool (by simp), rfl⟩

theorem alloc_cell (w : World) (L : List (List UInt8)) (j : Nat) (x : List UInt8) (h : L[j]? = some x) : (w.alloc (.cells (strs L).toArray 9)).cell? ⟨w.heap.size, j, none⟩ = some (.string (bs x)) := by
  simp [strs, h]

set_option maxHeartbeats 800000 in
set_option maxRecDepth 100000 in
theorem isFilter_any (s : ByteArray) (w : World) (hs : s.size < 4294967281) (hI : Inv w) :
    Calls Tryd.prog 11 #[.string s] w fun e w' => e = .returned (.bool (filterB s.data.toList)) ∧ Below w.heap.size w w' := by
  have cF := hide (fits_any s w (by unfold maxLen; omega) hI)
  have hlen := lev_length_le s.data.toList
  rw [← Lib.size_eq] at hlen
  unfold filterB
  generalize nameB 1 30 s.data.toList = V at *
  cases V
  · clear hI hlen
    go_enter Tryd.func11, Tryd.ntmps11
    go_wp2_with (go_at_call 19; refine (unhide cF).mono ?_; rintro e w' ⟨rfl, hb⟩)
    go_ret
    exact ⟨rfl, by assumption⟩
  · have HI := hide hI
    have cS := hide fun w (h : Inv w) => split_any s w hs h
    have cL := hide fun x last w => isFilterLevel_any (bs x) last w
    clear hI
    rw [Bool.true_and]
    generalize lev s.data.toList = L at *
    go_enter Tryd.func11, Tryd.ntmps11
    go_wp2_with fail
    refine (unhide cF).mono ?_
    rintro e w1 ⟨rfl, hb1⟩
    have HI1 := hide (HI.out.below hb1)
    have HB1 := hide hb1
    clear hb1
    go_wp2_with fail
    refine (unhide cS _ HI1.out).mono ?_
    rintro e w2 ⟨rfl, hw2⟩
    have HC : Hid (∀ (j : Nat) x, L[j]? = some x → w2.cell? ⟨w1.heap.size, j, none⟩ = some (.string (bs x))) := fun j x h => by rw [hw2]; exact alloc_cell w1 L j x h
    have HB2 : Hid (Below w.heap.size w w2) := by rw [hw2]; exact HB1.out.alloc HB1.out.size _
    clear hw2
    go_wp2_with fail
    go_loopw [13] (fun i wx => ∃ k : Nat, k ≤ L.length ∧ i = .int .i64 k ∧ wx = w2 ∧ okLevs (L.drop k) = okLevs L) (fun i _ => L.length - (intOf i).toNat)
    case atStart => exact ⟨0, Nat.zero_le _, rfl, rfl, by simp⟩
    case round =>
      obtain ⟨k, hk, rfl, rfl, hr⟩ := hrel
      have HR := hide hr
      clear hr
      by_cases hlt : k < L.length
      · obtain ⟨x, hx⟩ : ∃ x, L[k]? = some x := ⟨_, List.getElem?_eq_getElem hlt⟩
        have cx := HC.out k x hx
        have hd := okLevs_drop L k hlt
        rw [show L[k] = x from (List.getElem?_eq_some_iff.1 hx).2, HR.out] at hd
        have HD := hide hd
        clear hd hx
        have hlast : ((k : Int) == (L.length : Int) - 1) = decide (k + 1 = L.length) := by
          by_cases e : k + 1 = L.length
          · rw [decide_eq_true e]; exact beq_iff_eq.2 (by omega)
          · rw [decide_eq_false e]; exact beq_eq_false_iff_ne.2 (by omega)
        generalize decide (k + 1 = L.length) = lst at *
        have cLx := hide fun w => unhide cL x lst w
        cases hok : okLev x lst
        · have HD2 : Hid (okLevs L = false) := by rw [HD.out, hok]; rfl
          have cLy : Hid (∀ w, Calls Tryd.prog 20 #[.string (bs x), .bool lst] w fun e w' => e = .returned (.bool false) ∧ w' = w) := by rw [← hok]; exact cLx
          clear cLx hok HD
          go_wp2_with fail
          refine (unhide cLy _).mono ?_
          rintro e w' ⟨rfl, rfl⟩
          go_wp2
          go_ret
          exact ⟨ret_bool HD2.out.symm, HB2.out⟩
        · have HD2 : Hid (okLevs L = okLevs (L.drop (k + 1))) := by have := HD.out; rw [hok, Bool.true_and] at this; exact this
          have cLy : Hid (∀ w, Calls Tryd.prog 20 #[.string (bs x), .bool lst] w fun e w' => e = .returned (.bool true) ∧ w' = w) := by rw [← hok]; exact cLx
          clear cLx hok HD
          go_wp2_with fail
          refine (unhide cLy _).mono ?_
          rintro e w' ⟨rfl, rfl⟩
          go_wp2
          go_roundw
          case rel => exact ⟨k + 1, by omega, by go_num, by trivial, HD2.out.symm⟩
          case measure => simp [intOf]; omega
      · obtain rfl : k = L.length := by omega
        have HE : Hid (okLevs L = true) := by rw [← HR.out, List.drop_length]; rfl
        go_wp2
        go_ret
        exact ⟨ret_bool HE.out.symm, HB2.out⟩
end Go.Proofs.YtnmfmoimjkoieaaDoor.topWalks
