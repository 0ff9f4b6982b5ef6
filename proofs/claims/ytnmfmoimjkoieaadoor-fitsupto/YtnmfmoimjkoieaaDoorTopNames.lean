/- What topics.IsName, topics.fits, courantref.Name and courantref.Topic answer, for every text; what was there is as it was. -/
import Derived.Test.YtnmfmoimjkoieaaDoorTopLevels
import Derived.Test.YtnmfmoimjkoieaaDoorShelf
import Derived.WalkMore
namespace Go.Proofs.YtnmfmoimjkoieaaDoor.topWalks
open Go.RowKit Go.Proofs.YtnmfmoimjkoieaaDoor.topPlain

/-- what the library reads of memory: the tables of UTF-8; some number in one variable -/
def Inv (w : World) : Prop := Lib.Utf8Tabs (Tryd.lays196_ren.g 3) (Tryd.lays196_ren.g 4) w ∧ ∃ m, w.cell? ⟨Tryd.laysM144_ren.g 1, 0, none⟩ = some (.int .i64 m)
theorem cell_lt {w : World} {p : Addr} {v : Value} (h : w.cell? p = some v) : p.block < w.heap.size := by
  rcases Nat.lt_or_ge p.block w.heap.size with hl | hg
  · exact hl
  · have : w.heap[p.block]? = none := Array.getElem?_eq_none hg
    simp [World.cell?, this] at h
theorem Inv.below {w w' : World} (h : Inv w) (hb : Below w.heap.size w w') : Inv w' := by
  obtain ⟨hT, m, hm⟩ := h
  exact ⟨Utf8Tabs_below hT hb, m, by rw [hb.cell (cell_lt hm)]; exact hm⟩

theorem valid_any (s : ByteArray) (w : World) (hs : s.size ≤ maxLen) (hI : Inv w) :
    Calls Tryd.prog 24 #[.string s] w fun e w' => e = .returned (.bool (Lib.validD s.data.toList)) ∧ Below w.heap.size w w' :=
  Any.utf8_ValidString Tryd.lays196 s w (by unfold maxLen at hs; omega) hI.1

theorem index0_any (s : ByteArray) (w : World) :
    Calls Tryd.prog 32 #[.string s, .int .u8 0] w fun e w' => e = .returned (.int .i64 (Lib.indexByte s.data.toList 0)) ∧ w' = w :=
  Tryd.strings_IndexByte s 0 w

set_option maxHeartbeats 400000 in
theorem isName_any (s : ByteArray) (w : World) (hs : s.size ≤ maxLen) (hI : Inv w) :
    Calls Tryd.prog 25 #[.string s] w fun e w' => e = .returned (.bool (Lib.validD s.data.toList && !hasB s.data.toList 0)) ∧ Below w.heap.size w w' := by
  have cV := valid_any s w hs hI
  rw [← indexByte_neg]
  have hge := Lib.indexByte_ge s.data.toList 0
  have cI := fun w' => index0_any s w'
  generalize Lib.indexByte s.data.toList 0 = I at cI hge ⊢
  generalize Lib.validD s.data.toList = V at cV ⊢
  cases V
  · clear cI
    have HV := hide cV
    clear cV hI
    go_enter Tryd.func25, Tryd.ntmps25
    go_wp2_with (go_at_call 24; refine (unhide HV).mono ?_; rintro e w' ⟨rfl, hb⟩)
    go_ret
    exact ⟨rfl, by assumption⟩
  · have HV := hide cV
    have HI := hide cI
    clear cV cI hI
    go_enter Tryd.func25, Tryd.ntmps25
    go_wp2_with (first
      | (go_at_call 24; refine (unhide HV).mono ?_; rintro e w' ⟨rfl, hb⟩)
      | (go_at_call 32; refine (unhide HI _).mono ?_; rintro e w' ⟨rfl, rfl⟩))
    go_ret
    exact ⟨rfl, by assumption⟩

set_option maxHeartbeats 400000 in
theorem fits_any (s : ByteArray) (w : World) (hs : s.size ≤ maxLen) (hI : Inv w) :
    Calls Tryd.prog 19 #[.string s] w fun e w' => e = .returned (.bool (nameB 1 30 s.data.toList)) ∧ Below w.heap.size w w' := by
  have cN := hide (isName_any s w hs hI)
  unfold maxLen at hs
  unfold nameB
  rw [← Lib.size_eq]
  clear hI
  by_cases h1 : (1 : Int) ≤ (s.size : Int)
  · by_cases h2 : (s.size : Int) ≤ 30
    · rw [decide_eq_true h1, decide_eq_true h2]
      go_enter Tryd.func19, Tryd.ntmps19
      go_wp2_with (go_at_call 25; refine (unhide cN).mono ?_; rintro e w' ⟨rfl, hb⟩)
      go_ret
      exact ⟨ret_bool (by rw [Bool.true_and, Bool.true_and, Bool.and_comm]), by assumption⟩
    · rw [decide_eq_false h2, Bool.and_false, Bool.false_and, Bool.false_and]
      clear cN
      go_enter Tryd.func19, Tryd.ntmps19
      go_wp2
      go_ret
      exact ⟨rfl, Below.refl _ _⟩
  · rw [decide_eq_false h1, Bool.false_and, Bool.false_and, Bool.false_and]
    clear cN
    go_enter Tryd.func19, Tryd.ntmps19
    go_wp2
    go_ret
    exact ⟨rfl, Below.refl _ _⟩

set_option maxHeartbeats 400000 in
theorem rName_any (s : ByteArray) (least most : Int) (w : World) (hs : s.size ≤ maxLen) (hI : Inv w) :
    Calls Tryd.prog 18 #[.string s, .int .i64 least, .int .i64 most] w fun e w' => e = .returned (.bool (nameB least most s.data.toList)) ∧ Below w.heap.size w w' := by
  have cN := hide (valid_any s w hs hI)
  have cH := hide (has_0 s w hs)
  unfold maxLen at hs
  unfold nameB
  rw [← Lib.size_eq]
  clear hI
  generalize hasB s.data.toList 0 = H at cH ⊢
  by_cases h1 : least ≤ (s.size : Int)
  · by_cases h2 : (s.size : Int) ≤ most
    · rw [decide_eq_true h1, decide_eq_true h2]
      cases H
      · go_enter Tryd.func18, Tryd.ntmps18
        go_wp2_with (first
          | (go_at_call 17; refine (unhide cH).mono ?_; rintro e w' ⟨rfl, rfl⟩)
          | (go_at_call 24; refine (unhide cN).mono ?_; rintro e w' ⟨rfl, hb⟩))
        go_ret
        exact ⟨ret_bool (by simp), by assumption⟩
      · clear cN
        go_enter Tryd.func18, Tryd.ntmps18
        go_wp2_with (go_at_call 17; refine (unhide cH).mono ?_; rintro e w' ⟨rfl, rfl⟩)
        go_ret
        exact ⟨rfl, Below.refl _ _⟩
    · rw [decide_eq_false h2, Bool.and_false, Bool.false_and, Bool.false_and]
      clear cN
      go_enter Tryd.func18, Tryd.ntmps18
      go_wp2_with (go_at_call 17; refine (unhide cH).mono ?_; rintro e w' ⟨rfl, rfl⟩)
      go_ret
      exact ⟨rfl, Below.refl _ _⟩
  · rw [decide_eq_false h1, Bool.false_and, Bool.false_and, Bool.false_and]
    clear cN
    go_enter Tryd.func18, Tryd.ntmps18
    go_wp2_with (go_at_call 17; refine (unhide cH).mono ?_; rintro e w' ⟨rfl, rfl⟩)
    go_ret
    exact ⟨rfl, Below.refl _ _⟩

set_option maxHeartbeats 400000 in
theorem rTopic_any (s : ByteArray) (w : World) (hs : s.size ≤ maxLen) (hI : Inv w) :
    Calls Tryd.prog 8 #[.string s] w fun e w' => e = .returned (.bool (topicB s.data.toList)) ∧ Below w.heap.size w w' := by
  have cN := hide (rName_any s 1 30 w hs hI)
  have c43 := hide (has_43 s w hs)
  have c35 := hide (has_35 s w hs)
  unfold topicB
  clear hI hs
  generalize hasB s.data.toList 43 = P at c43 ⊢
  generalize hasB s.data.toList 35 = Q at c35 ⊢
  generalize nameB 1 30 s.data.toList = V at cN ⊢
  cases P <;> cases Q
  all_goals
    go_enter Tryd.func8, Tryd.ntmps8
    go_wp2_with fail
    refine (unhide c43).mono ?_
    rintro e w' ⟨rfl, rfl⟩
    go_wp2_with fail
    refine (unhide c35).mono ?_
    rintro e w' ⟨rfl, rfl⟩
  · go_wp2_with (go_at_call 18; refine (unhide cN).mono ?_; rintro e w' ⟨rfl, hb⟩)
    go_ret
    exact ⟨ret_bool (by simp), by assumption⟩
  all_goals
    clear cN
    go_wp2
    go_ret
    exact ⟨ret_bool (by simp), Below.refl _ _⟩
end Go.Proofs.YtnmfmoimjkoieaaDoor.topWalks
