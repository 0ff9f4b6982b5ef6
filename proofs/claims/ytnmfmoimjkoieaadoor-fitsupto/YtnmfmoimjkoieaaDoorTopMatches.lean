/- What topics.Match and courantref.Matches answer, for every two texts: the same, whether the filter matches the topic. -/
import Derived.Test.YtnmfmoimjkoieaaDoorTopFits
namespace Go.Proofs.YtnmfmoimjkoieaaDoor.topWalks
open Go.RowKit Go.Proofs.YtnmfmoimjkoieaaDoor.topPlain

theorem head_ext (s : ByteArray) (c : UInt8) (h : 1 ≤ s.size) : ((s.extract 0 1).toList == [c]) = (s.data.toList.head? == some c) := by
  rw [Lib.toList_data, Lib.extract_data]
  have hl := Lib.size_eq s
  cases hd : s.data.toList with
  | nil => rw [hd, List.length_nil] at hl; omega
  | cons a t => simp

set_option maxHeartbeats 400000 in
theorem hasPrefix_any (s : ByteArray) (c : UInt8) (w : World) (hs : s.size ≤ maxLen) :
    Calls Tryd.prog 13 #[.string s, .string ⟨#[c]⟩] w fun e w' => e = .returned (.bool (s.data.toList.head? == some c)) ∧ w' = w := by
  unfold maxLen at hs
  by_cases h : 1 ≤ s.size
  · have he := head_ext s c h
    generalize (s.data.toList.head? == some c) = H at *
    have hz : (1 : Int) ≤ (s.size : Int) := by omega
    go_enter Tryd.func13, Tryd.ntmps13
    go_wp2
    go_ret
    exact ⟨rfl, rfl⟩
  · have hd : s.data.toList = [] := List.length_eq_zero_iff.1 (by rw [← Lib.size_eq]; omega)
    rw [hd]
    have hz : ¬ ((1 : Int) ≤ (s.size : Int)) := by omega
    go_enter Tryd.func13, Tryd.ntmps13
    go_wp2
    go_ret
    exact ⟨rfl, rfl⟩

set_option maxHeartbeats 400000 in
theorem beginsWild_any (s : ByteArray) (w : World) (hs : s.size ≤ maxLen) :
    Calls Tryd.prog 14 #[.string s] w fun e w' => e = .returned (.bool (wild s.data.toList)) ∧ w' = w := by
  have c43 := hide fun w => hasPrefix_any s 43 w hs
  have c35 := hide fun w => hasPrefix_any s 35 w hs
  unfold wild
  generalize (s.data.toList.head? == some 43) = P at *
  generalize (s.data.toList.head? == some 35) = Q at *
  cases P
  · go_enter Tryd.func14, Tryd.ntmps14
    go_wp2_with fail
    refine (unhide c43 _).mono ?_
    rintro e w' ⟨rfl, rfl⟩
    go_wp2_with fail
    refine (unhide c35 _).mono ?_
    rintro e w' ⟨rfl, rfl⟩
    go_wp2
    go_ret
    exact ⟨ret_bool (by simp), rfl⟩
  · go_enter Tryd.func14, Tryd.ntmps14
    go_wp2_with fail
    refine (unhide c43 _).mono ?_
    rintro e w' ⟨rfl, rfl⟩
    go_wp2
    go_ret
    exact ⟨ret_bool (by simp), rfl⟩

theorem dl_bs (L : List (List UInt8)) : dl (L.map bs) = L := by
  unfold dl
  rw [List.map_map]
  conv => rhs; rw [← List.map_id L]
  exact List.map_congr_left fun x _ => data_bs x

theorem matchLevels_lev (bf bt : Nat) (F T : List (List UInt8)) (w : World) (hf : LevIn w bf F) (ht : LevIn w bt T) (lf : F.length ≤ maxLen) (cf ct : Nat) :
    Calls Tryd.prog 15 #[.slice (some ⟨bf, 0, none⟩) F.length cf, .slice (some ⟨bt, 0, none⟩) T.length ct] w fun e w' => e = .returned (.bool (lvl F T)) ∧ w' = w := by
  have := matchLevels_any bf 0 cf bt 0 ct (F.map bs) (T.map bs) w
    (fun j X hX => by
      rw [List.getElem?_map] at hX
      obtain ⟨x, hx, rfl⟩ := Option.map_eq_some_iff.1 hX
      rw [Nat.zero_add]; exact hf j x hx)
    (fun j X hX => by
      rw [List.getElem?_map] at hX
      obtain ⟨x, hx, rfl⟩ := Option.map_eq_some_iff.1 hX
      rw [Nat.zero_add]; exact ht j x hx)
    (by rw [List.length_map]; exact lf)
  rw [List.length_map, List.length_map, dl_bs, dl_bs] at this
  exact this

theorem levIn_alloc (w : World) (L : List (List UInt8)) : LevIn (w.alloc (.cells (strs L).toArray 9)) w.heap.size L := fun j x h => alloc_cell w L j x h

set_option maxHeartbeats 1600000 in
set_option maxRecDepth 100000 in
theorem match_any (f t : ByteArray) (w : World) (hf : f.size ≤ 4294967280) (ht : t.size ≤ 4294967280) (hI : Inv w) :
    Calls Tryd.prog 6 #[.string f, .string t] w fun e w' => e = .returned (.bool (mB f.data.toList t.data.toList)) ∧ Below w.heap.size w w' := by
  have mf : f.size ≤ maxLen := by unfold maxLen; omega
  have mt : t.size ≤ maxLen := by unfold maxLen; omega
  have cF := hide (isFilter_any f w (by omega) hI)
  have cT := hide fun w (h : Inv w) => isTopic_any t w (by omega) h
  have cP := hide fun w => hasPrefix_any t 36 w mt
  have cW := hide fun w => beginsWild_any f w mf
  have cSf := hide fun w (h : Inv w) => split_any f w (by omega) h
  have cSt := hide fun w (h : Inv w) => split_any t w (by omega) h
  have hlf := lev_length_le f.data.toList
  have HI := hide hI
  rw [← Lib.size_eq] at hlf
  have hlfm : (lev f.data.toList).length ≤ maxLen := by unfold maxLen; omega
  have HLF := hide hlfm
  clear hI hf ht mf mt hlf hlfm
  unfold mB
  generalize lev f.data.toList = F at *
  generalize lev t.data.toList = T at *
  generalize filterB f.data.toList = bF at *
  generalize topicB t.data.toList = bT at *
  generalize (t.data.toList.head? == some 36) = bP at *
  generalize wild f.data.toList = bW at *
  cases bF
  · go_enter Tryd.func6, Tryd.ntmps6
    go_wp2_with fail
    refine (unhide cF).mono ?_
    rintro e w1 ⟨rfl, hb1⟩
    go_wp2
    go_ret
    exact ⟨ret_bool (by simp), hb1⟩
  · go_enter Tryd.func6, Tryd.ntmps6
    go_wp2_with fail
    refine (unhide cF).mono ?_
    rintro e w1 ⟨rfl, hb1⟩
    have HB1 := hide hb1
    have HI1 := hide (HI.out.below hb1)
    clear hb1
    go_wp2_with fail
    refine (unhide cT _ HI1.out).mono ?_
    rintro e w2 ⟨rfl, hb2⟩
    have HB2 := hide (HB1.out.trans (hb2.mono HB1.out.size))
    have HI2 := hide (HI1.out.below hb2)
    clear hb2 HB1 HI1
    cases bT
    · go_wp2
      go_ret
      exact ⟨ret_bool (by simp), HB2.out⟩
    · go_wp2_with fail
      refine (unhide cP _).mono ?_
      rintro e w' ⟨rfl, rfl⟩
      cases bP
      · go_wp2_with fail
        refine (unhide cSf _ HI2.out).mono ?_
        rintro e w3 ⟨rfl, hw3⟩
        have hb3 : Below w'.heap.size w' w3 := by rw [hw3]; exact (Below.refl _ _).alloc (Nat.le_refl _) _
        have HL3 : Hid (LevIn w3 w'.heap.size F) := by rw [hw3]; exact levIn_alloc _ _
        have HB3 := hide (HB2.out.trans (hb3.mono HB2.out.size))
        have HI3 := hide (HI2.out.below hb3)
        clear hw3 hb3
        go_wp2_with fail
        refine (unhide cSt _ HI3.out).mono ?_
        rintro e w4 ⟨rfl, hw4⟩
        have hb4 : Below w3.heap.size w3 w4 := by rw [hw4]; exact (Below.refl _ _).alloc (Nat.le_refl _) _
        have HT4 : Hid (LevIn w4 w3.heap.size T) := by rw [hw4]; exact levIn_alloc _ _
        have HL4 := hide (HL3.out.below hb4)
        have HB4 := hide (HB3.out.trans (hb4.mono HB3.out.size))
        clear hw4 hb4
        go_wp2_with fail
        refine (matchLevels_lev _ _ F T _ HL4.out HT4.out HLF.out _ _).mono ?_
        rintro e w' ⟨rfl, rfl⟩
        go_wp2
        go_ret
        exact ⟨ret_bool (by simp), HB4.out⟩
      · go_wp2_with fail
        refine (unhide cW _).mono ?_
        rintro e w'' ⟨rfl, rfl⟩
        cases bW
        · go_wp2_with fail
          refine (unhide cSf _ HI2.out).mono ?_
          rintro e w3 ⟨rfl, hw3⟩
          have hb3 : Below w''.heap.size w'' w3 := by rw [hw3]; exact (Below.refl _ _).alloc (Nat.le_refl _) _
          have HL3 : Hid (LevIn w3 w''.heap.size F) := by rw [hw3]; exact levIn_alloc _ _
          have HB3 := hide (HB2.out.trans (hb3.mono HB2.out.size))
          have HI3 := hide (HI2.out.below hb3)
          clear hw3 hb3
          go_wp2_with fail
          refine (unhide cSt _ HI3.out).mono ?_
          rintro e w4 ⟨rfl, hw4⟩
          have hb4 : Below w3.heap.size w3 w4 := by rw [hw4]; exact (Below.refl _ _).alloc (Nat.le_refl _) _
          have HT4 : Hid (LevIn w4 w3.heap.size T) := by rw [hw4]; exact levIn_alloc _ _
          have HL4 := hide (HL3.out.below hb4)
          have HB4 := hide (HB3.out.trans (hb4.mono HB3.out.size))
          clear hw4 hb4
          go_wp2_with fail
          refine (matchLevels_lev _ _ F T _ HL4.out HT4.out HLF.out _ _).mono ?_
          rintro e w' ⟨rfl, rfl⟩
          go_wp2
          go_ret
          exact ⟨ret_bool (by simp), HB4.out⟩
        · go_wp2
          go_ret
          exact ⟨ret_bool (by simp), HB2.out⟩

set_option maxHeartbeats 400000 in
theorem matches_any (f t : ByteArray) (w : World) (hf : f.size ≤ 4294967280) (ht : t.size ≤ 4294967280) (hI : Inv w) :
    Calls Tryd.prog 4 #[.string f, .string t] w fun e w' => e = .returned (.bool (mB f.data.toList t.data.toList)) ∧ Below w.heap.size w w' := by
  have cM := hide (match_any f t w hf ht hI)
  clear hI
  go_enter Tryd.func4, Tryd.ntmps4
  go_wp2_with (go_at_call 6; refine (unhide cM).mono ?_; rintro e w' ⟨rfl, hb⟩)
  go_ret
  exact ⟨rfl, by assumption⟩

theorem sv_lev {w : World} {g cap : Nat} {L : List (List UInt8)} (h : LevIn w g L) (h1 : L.length ≤ cap) (h2 : cap ≤ maxLen) : SV w (.slice (some ⟨g, 0, none⟩) L.length cap) (L.map bs) :=
  ⟨_, cap, by rw [List.length_map], by rw [List.length_map]; exact h1, h2, fun _ => ⟨g, 0, rfl, fun j X hX => by
    rw [List.getElem?_map] at hX
    obtain ⟨x, hx, rfl⟩ := Option.map_eq_some_iff.1 hX
    rw [Nat.zero_add]; exact h j x hx⟩⟩
theorem level_lev {w : World} {g g' cap cap' : Nat} {F T : List (List UInt8)} (hf : LevIn w g F) (ht : LevIn w g' T) (h1 : F.length ≤ cap) (h2 : cap ≤ maxLen) (h3 : T.length ≤ cap') (h4 : cap' ≤ maxLen) :
    Calls Tryd.prog 9 #[.slice (some ⟨g, 0, none⟩) F.length cap, .slice (some ⟨g', 0, none⟩) T.length cap'] w fun e w' => e = .returned (.bool (lvl F T)) ∧ Below w.heap.size w w' := by
  have := level_any (F.map bs) (T.map bs) _ _ w (sv_lev hf h1 h2) (sv_lev ht h3 h4)
  rw [dl_bs, dl_bs] at this
  refine this.mono ?_
  rintro e w' ⟨rfl, n, rfl⟩
  exact ⟨rfl, below_drewN (Below.refl _ _) _⟩

theorem name_pos {l : List UInt8} (h : nameB 1 30 l = true) : 1 ≤ l.length := by
  unfold nameB at h
  simp only [Bool.and_eq_true, decide_eq_true_eq] at h
  omega
theorem head_byte (s : ByteArray) (c : UInt8) (h : 0 < s.size) : (s.data.toList.head? == some c) = (((s[0]'h).toNat : Int) == (c.toNat : Int)) := by
  have hg := get_list s 0 h
  rw [List.head?_eq_getElem?, hg]
  by_cases e : s[0]'h = c
  · rw [e]; simp
  · have e1 : (some (s[0]'h) == some c) = false := by simpa using e
    rw [e1]
    exact (beq_eq_false_iff_ne.2 fun e2 => e (UInt8.toNat_inj.1 (by omega))).symm

set_option maxHeartbeats 1600000 in
set_option maxRecDepth 100000 in
theorem rMatches_any (f t : ByteArray) (w : World) (hf : f.size ≤ 4294967280) (ht : t.size ≤ 4294967280) (hI : Inv w) :
    Calls Tryd.prog 5 #[.string f, .string t] w fun e w' => e = .returned (.bool (mB f.data.toList t.data.toList)) ∧ Below w.heap.size w w' := by
  have cF := hide (rFilter_any f w hf hI)
  have cT := hide fun w (h : Inv w) => rTopic_any t w (by unfold maxLen; omega) h
  have cLf := hide fun w => levels_lev f w hf
  have cLt := hide fun w => levels_lev t w ht
  have HI := hide hI
  clear hI
  cases hbF : filterB f.data.toList
  · have HM : Hid (mB f.data.toList t.data.toList = false) := by unfold Hid mB; rw [hbF]; rfl
    rw [hbF] at cF
    generalize topicB t.data.toList = bT at *
    generalize mB f.data.toList t.data.toList = M at *
    clear hbF
    go_enter Tryd.func5, Tryd.ntmps5
    go_wp2_with fail
    refine (unhide cF).mono ?_
    rintro e w1 ⟨rfl, hb1⟩
    have HB1 := hide hb1
    have HI1 := hide (HI.out.below hb1)
    clear hb1
    go_wp2_with fail
    refine (unhide cT _ HI1.out).mono ?_
    rintro e w2 ⟨rfl, hb2⟩
    have HB2 := hide (HB1.out.trans (hb2.mono HB1.out.size))
    clear hb2
    go_wp2
    go_ret
    exact ⟨ret_bool HM.out.symm, HB2.out⟩
  · cases hbT : topicB t.data.toList
    · have HM : Hid (mB f.data.toList t.data.toList = false) := by unfold Hid mB; rw [hbF, hbT]; rfl
      rw [hbF] at cF
      rw [hbT] at cT
      generalize mB f.data.toList t.data.toList = M at *
      clear hbF hbT
      go_enter Tryd.func5, Tryd.ntmps5
      go_wp2_with fail
      refine (unhide cF).mono ?_
      rintro e w1 ⟨rfl, hb1⟩
      have HB1 := hide hb1
      have HI1 := hide (HI.out.below hb1)
      clear hb1
      go_wp2_with fail
      refine (unhide cT _ HI1.out).mono ?_
      rintro e w2 ⟨rfl, hb2⟩
      have HB2 := hide (HB1.out.trans (hb2.mono HB1.out.size))
      clear hb2
      go_wp2
      go_ret
      exact ⟨ret_bool HM.out.symm, HB2.out⟩
    · have pf : 0 < f.size := by
        have : nameB 1 30 f.data.toList = true := by unfold filterB at hbF; simp only [Bool.and_eq_true] at hbF; exact hbF.1
        have := name_pos this; rw [Lib.size_eq]; omega
      have pt : 0 < t.size := by
        have : nameB 1 30 t.data.toList = true := by unfold topicB at hbT; simp only [Bool.and_eq_true] at hbT; exact hbT.1
        have := name_pos this; rw [Lib.size_eq]; omega
      have h36 := head_byte t 36 pt
      have h43 := head_byte f 43 pf
      have h35 := head_byte f 35 pf
      rw [show ((36 : UInt8).toNat : Int) = 36 from rfl] at h36
      rw [show ((43 : UInt8).toNat : Int) = 43 from rfl] at h43
      rw [show ((35 : UInt8).toNat : Int) = 35 from rfl] at h35
      have HM : Hid (mB f.data.toList t.data.toList = (!((((t[0]'pt).toNat : Int) == 36) && ((((f[0]'pf).toNat : Int) == 43) || (((f[0]'pf).toNat : Int) == 35))) && lvl (lev f.data.toList) (lev t.data.toList))) := by
        unfold Hid mB wild; rw [hbF, hbT, h36, h43, h35]; simp
      rw [hbF] at cF
      rw [hbT] at cT
      clear hbF hbT h36 h43 h35
      have zf : (0 : Int) < (f.size : Int) := by omega
      have zt : (0 : Int) < (t.size : Int) := by omega
      generalize mB f.data.toList t.data.toList = M at *
      generalize lev f.data.toList = F at *
      generalize lev t.data.toList = T at *
      cases h36 : (((t[0]'pt).toNat : Int) == 36) <;> cases h43 : (((f[0]'pf).toNat : Int) == 43) <;> cases h35 : (((f[0]'pf).toNat : Int) == 35)
      all_goals
        rw [h36, h43, h35] at HM
        go_enter Tryd.func5, Tryd.ntmps5
        go_wp2_with fail
        refine (unhide cF).mono ?_
        rintro e w1 ⟨rfl, hb1⟩
        have HB1 := hide hb1
        have HI1 := hide (HI.out.below hb1)
        clear hb1
        go_wp2_with fail
        refine (unhide cT _ HI1.out).mono ?_
        rintro e w2 ⟨rfl, hb2⟩
        have HB2 := hide (HB1.out.trans (hb2.mono HB1.out.size))
        clear hb2
        go_wp2_with fail
      all_goals
        first
          | (go_ret
             exact ⟨ret_bool (by rw [HM.out]; simp), HB2.out⟩)
          | (refine (unhide cLf _).mono ?_
             rintro e w3 ⟨g, cap, rfl, hc1, hc2, hin, hb3⟩
             have HL3 := hide hin
             have HC1 := hide hc1
             have HC2 := hide hc2
             have HB3 := hide (HB2.out.trans (hb3.mono HB2.out.size))
             clear hin hc1 hc2 hb3
             go_wp2_with fail
             refine (unhide cLt _).mono ?_
             rintro e w4 ⟨g', cap', rfl, hd1, hd2, hin', hb4⟩
             have HL4 := hide (HL3.out.below hb4)
             have HT4 := hide hin'
             have HB4 := hide (HB3.out.trans (hb4.mono HB3.out.size))
             have HD1 := hide hd1
             have HD2 := hide hd2
             clear hin' hd1 hd2 hb4
             go_wp2_with fail
             refine (level_lev HL4.out HT4.out HC1.out HC2.out HD1.out HD2.out).mono ?_
             rintro e w5 ⟨rfl, hb5⟩
             have HB5 := hide (HB4.out.trans (hb5.mono HB4.out.size))
             clear hb5
             go_wp2
             go_ret
             exact ⟨ret_bool (by rw [HM.out]; simp), HB5.out⟩)
end Go.Proofs.YtnmfmoimjkoieaaDoor.topWalks
