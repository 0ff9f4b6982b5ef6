/- What courantref.Filter, topics.Match and courantref.Matches answer, for every two texts: the two ask the same of a filter and a topic. -/
import Derived.Test.YtnmfmoimjkoieaaDoorTopFilter
namespace Go.Proofs.YtnmfmoimjkoieaaDoor.topWalks
open Go.RowKit Go.Proofs.YtnmfmoimjkoieaaDoor.topPlain

/-- the levels of a text lie in block g -/
def LevIn (w : World) (g : Nat) (L : List (List UInt8)) : Prop := ∀ (j : Nat) x, L[j]? = some x → w.cell? ⟨g, j, none⟩ = some (.string (bs x))
theorem LevIn.below {w w' : World} {g : Nat} {L : List (List UInt8)} (h : LevIn w g L) (hb : Below w.heap.size w w') : LevIn w' g L := fun j x hx => by
  have := h j x hx
  rw [hb.cell (cell_lt this)]
  exact this

theorem levels_in {w : World} {B : Nat} {v : Value} {L : List (List UInt8)} (hne : L ≠ []) (h : w.ownsRow B 9 1 v L.length (strs L)) : ∃ g cap, v = .slice (some ⟨g, 0, none⟩) L.length cap ∧ L.length ≤ cap ∧ cap ≤ maxLen ∧ LevIn w g L := by
  have hk := @World.ownsRow.cells _ _ _ _ _ _ _ h
  rcases h.2 with ⟨_, h0⟩ | ⟨g, cap, cur, rfl, hg, hh, hc1, hc2, _, _⟩
  · exact absurd (List.length_eq_zero_iff.1 h0) hne
  · refine ⟨g, cap, rfl, hc1, hc2, fun j x hx => ?_⟩
    have := hk (g := g) rfl j (.string (bs x)) (by simp [strs, hx])
    have hadd : (⟨g, 0, none⟩ : Addr).add j = ⟨g, j, none⟩ := by unfold Addr.add; split <;> simp_all
    rw [hadd] at this
    exact this

theorem levels_lev (s : ByteArray) (w : World) (hs : s.size ≤ 4294967280) :
    Calls Tryd.prog 10 #[.string s] w fun e w' => ∃ g cap, e = .returned (.slice (some ⟨g, 0, none⟩) (lev s.data.toList).length cap) ∧ (lev s.data.toList).length ≤ cap ∧ cap ≤ maxLen ∧ LevIn w' g (lev s.data.toList) ∧ Below w.heap.size w w' := by
  refine (levels_any s w hs).mono ?_
  rintro e w' ⟨v, rfl, hown, hb⟩
  obtain ⟨g, cap, rfl, h1, h2, h3⟩ := levels_in (lev_ne _) hown
  exact ⟨g, cap, rfl, h1, h2, h3, hb⟩

set_option maxHeartbeats 1600000 in
set_option maxRecDepth 100000 in
theorem rFilter_any (s : ByteArray) (w : World) (hs : s.size ≤ 4294967280) (hI : Inv w) :
    Calls Tryd.prog 7 #[.string s] w fun e w' => e = .returned (.bool (filterB s.data.toList)) ∧ Below w.heap.size w w' := by
  have cL := hide (levels_lev s w hs)
  have cN := hide fun w (h : Inv w) => rName_any s 1 30 w (by unfold maxLen; omega) h
  have hlen := lev_length_le s.data.toList
  have hbl : ∀ x ∈ lev s.data.toList, x.length ≤ s.size := fun x hx => by rw [Lib.size_eq]; exact lev_mem_le _ x hx
  rw [← Lib.size_eq] at hlen
  unfold filterB
  have HI := hide hI
  have HBL := hide hbl
  clear hI hbl
  generalize lev s.data.toList = L at *
  generalize nameB 1 30 s.data.toList = V at *
  go_enter Tryd.func7, Tryd.ntmps7
  go_wp2_with fail
  refine (unhide cL).mono ?_
  rintro e w1 ⟨g, cap, rfl, hcap, hcm, hin, hb1⟩
  have HI1 := hide (HI.out.below hb1)
  have HB1 := hide hb1
  have HC := hide hin
  clear hb1 hin
  unfold maxLen at hcm
  go_wp2_with fail
  go_loopw [4] (fun i wx => ∃ k : Nat, k ≤ L.length ∧ i = .int .i64 k ∧ wx = w1 ∧ okLevs (L.drop k) = okLevs L) (fun i _ => L.length - (intOf i).toNat)
  case atStart => exact ⟨0, Nat.zero_le _, rfl, rfl, by simp⟩
  case round =>
    obtain ⟨k, hk, rfl, rfl, hr⟩ := hrel
    have HR := hide hr
    clear hr
    by_cases hlt : k < L.length
    · obtain ⟨x, hx⟩ : ∃ x, L[k]? = some x := ⟨_, List.getElem?_eq_getElem hlt⟩
      have cx := HC.out k x hx
      have hxl := HBL.out x (List.mem_of_getElem? hx)
      have hd := okLevs_drop L k hlt
      rw [show L[k] = x from (List.getElem?_eq_some_iff.1 hx).2, HR.out, okLev_ref] at hd
      have e35 : ((bs x).toList == [35]) = (x == [35]) := by rw [Lib.toList_data, data_bs]
      have e43 : ((bs x).toList == [43]) = (x == [43]) := by rw [Lib.toList_data, data_bs]
      have h43 := fun w => has_43 (bs x) w (by unfold maxLen; rw [Lib.size_eq, data_bs]; omega)
      have h35 := fun w => has_35 (bs x) w (by unfold maxLen; rw [Lib.size_eq, data_bs]; omega)
      rw [data_bs] at h43 h35
      clear hx hxl
      generalize hasB x 43 = P at *
      generalize hasB x 35 = Q at *
      generalize (x == [35]) = E at *
      generalize (x == [43]) = F at *
      have H43 := hide h43
      have H35 := hide h35
      clear h43 h35
      have hlast : ((k : Int) + 1 < (L.length : Int)) ∨ ¬ ((k : Int) + 1 < (L.length : Int)) := by omega
      have hdl : decide (k + 1 = L.length) = !decide ((k : Int) + 1 < (L.length : Int)) := by
        by_cases e : k + 1 = L.length
        · rw [decide_eq_true e, decide_eq_false (by omega)]; rfl
        · rw [decide_eq_false e, decide_eq_true (by omega)]; rfl
      rw [hdl] at hd
      have HD := hide hd
      clear hd hdl
      rcases hlast with hla | hla
      all_goals
        cases P <;> cases F <;> cases Q <;> cases E
      all_goals
        first
          | rw [decide_eq_true hla] at HD
          | rw [decide_eq_false hla] at HD
        go_wp2_with fail
        refine (unhide H43 _).mono ?_
        rintro e w' ⟨rfl, rfl⟩
        go_wp2_with fail
        refine (unhide H35 _).mono ?_
        rintro e w' ⟨rfl, rfl⟩
        go_wp2
      all_goals
        first
          | (go_ret; exact ⟨ret_bool (by have := HD.out; simp at this; rw [this]; simp), HB1.out⟩)
          | (go_roundw
             case rel => exact ⟨k + 1, by omega, by go_num, by trivial, by have := HD.out; simp at this; rw [this]⟩
             case measure => simp [intOf]; omega)
    · obtain rfl : k = L.length := by omega
      have HE : Hid (okLevs L = true) := by rw [← HR.out, List.drop_length]; rfl
      go_wp2_with fail
      refine (unhide cN _ HI1.out).mono ?_
      rintro e w' ⟨rfl, hb2⟩
      have HB2 := hide hb2
      clear hb2
      go_wp2
      go_ret
      exact ⟨ret_bool (by rw [HE.out, Bool.and_true]), HB1.out.trans (HB2.out.mono HB1.out.size)⟩
end Go.Proofs.YtnmfmoimjkoieaaDoor.topWalks
