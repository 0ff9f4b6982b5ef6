/- What topics.matchLevels answers of two lists of levels in memory: whether they match, one by one; memory is as it was. -/
import Derived.Test.YtnmfmoimjkoieaaDoorTopHas
namespace Go.Proofs.YtnmfmoimjkoieaaDoor.topWalks
open Go.RowKit Go.Proofs.YtnmfmoimjkoieaaDoor.topPlain

def dl (l : List ByteArray) : List (List UInt8) := l.map (·.data.toList)
theorem dl_get {l : List ByteArray} {i : Nat} {x : ByteArray} (h : l[i]? = some x) : (dl l)[i]? = some x.data.toList := by simp [dl, h]
theorem dl_length (l : List ByteArray) : (dl l).length = l.length := by simp [dl]

set_option maxHeartbeats 400000 in
theorem matchLevels_any (bf of_ cf bt ot ct : Nat) (fs ts : List ByteArray) (w : World)
    (hf : ∀ (j : Nat) X, fs[j]? = some X → w.cell? ⟨bf, of_ + j, none⟩ = some (.string X)) (ht : ∀ (j : Nat) X, ts[j]? = some X → w.cell? ⟨bt, ot + j, none⟩ = some (.string X))
    (lf : fs.length ≤ maxLen) :
    Calls Tryd.prog 15 #[.slice (some ⟨bf, of_, none⟩) fs.length cf, .slice (some ⟨bt, ot, none⟩) ts.length ct] w fun e w' => e = .returned (.bool (lvl (dl fs) (dl ts))) ∧ w' = w := by
  unfold maxLen at lf
  have HF : Hid (∀ (j : Nat) X, fs[j]? = some X → w.cell? ⟨bf, of_ + j, none⟩ = some (.string X)) := hf
  have HT : Hid (∀ (j : Nat) X, ts[j]? = some X → w.cell? ⟨bt, ot + j, none⟩ = some (.string X)) := ht
  clear hf ht
  obtain ⟨ANS, hANS⟩ : ∃ ANS, lvl (dl fs) (dl ts) = ANS := ⟨_, rfl⟩
  rw [hANS]
  have HA : Hid (lvl (dl fs) (dl ts) = ANS) := hANS
  clear hANS
  go_enter Tryd.func15, Tryd.ntmps15
  go_wp2
  go_loop [9] (fun i => ∃ k : Nat, k ≤ fs.length ∧ k ≤ ts.length ∧ i = .int .i64 k ∧ lvl ((dl fs).drop k) ((dl ts).drop k) = ANS) (fun i => fs.length - (intOf i).toNat)
  case atStart => exact ⟨0, Nat.zero_le _, Nat.zero_le _, rfl, HA.out⟩
  case round =>
    obtain ⟨k, hk, hkt, rfl, hr⟩ := hrel
    have HR : Hid (lvl ((dl fs).drop k) ((dl ts).drop k) = ANS) := hr
    clear hr
    by_cases hlt : k < fs.length
    · obtain ⟨X, hX⟩ : ∃ X, fs[k]? = some X := ⟨_, List.getElem?_eq_getElem hlt⟩
      have cX := HF.out k X hX
      have HX : Hid (fs[k]? = some X) := hX
      clear hX
      by_cases h35 : X.data.toList = [35]
      · have hx : (X.toList == [35]) = true := by rw [Lib.toList_data, h35]; rfl
        have hl := lvl_hash (dl fs) (dl ts) k (by rw [dl_get HX.out, h35])
        have HL : Hid (true = ANS) := by rw [← HR.out]; exact hl.symm
        clear hl h35
        go_wp2
        go_ret
        exact ⟨ret_bool HL.out, rfl⟩
      · have hx : (X.toList == [35]) = false := by rw [Lib.toList_data]; simpa using h35
        by_cases hkl : k < ts.length
        · obtain ⟨Y, hY⟩ : ∃ Y, ts[k]? = some Y := ⟨_, List.getElem?_eq_getElem hkl⟩
          have cY := HT.out k Y hY
          have hl := lvl_step (dl fs) (dl ts) k (dl_get HX.out) h35 (dl_get hY)
          clear hY h35
          have HL : Hid (((X.data.toList == [43] || X.data.toList == Y.data.toList) && lvl ((dl fs).drop (k + 1)) ((dl ts).drop (k + 1))) = ANS) := by rw [← hl]; exact HR.out
          clear hl
          have e43 : (X.toList == [43]) = (X.data.toList == [43]) := by rw [Lib.toList_data]
          have eXY : (X.toList == Y.toList) = (X.data.toList == Y.data.toList) := by rw [Lib.toList_data, Lib.toList_data]
          cases h43 : (X.data.toList == [43]) <;> cases hXY : (X.data.toList == Y.data.toList)
          all_goals
            rw [h43, hXY] at HL
            rw [h43] at e43
            rw [hXY] at eXY
            clear h43 hXY
            go_wp2
          · go_ret
            exact ⟨ret_bool (by have := HL.out; simpa using this), rfl⟩
          all_goals
            go_round
            case rel => exact ⟨k + 1, by omega, by omega, by go_num, by have := HL.out; simpa using this⟩
            case measure => simp [intOf]; omega
        · have hl := lvl_short (dl fs) (dl ts) k (dl_get HX.out) h35 (by rw [dl_length]; omega)
          have HL : Hid (false = ANS) := by rw [← HR.out]; exact hl.symm
          clear hl h35
          go_wp2
          go_ret
          exact ⟨ret_bool HL.out, rfl⟩
    · obtain rfl : k = fs.length := by omega
      have hl := lvl_end (dl fs) (dl ts) (by rw [dl_length, dl_length]; omega)
      rw [dl_length, dl_length] at hl
      have HL : Hid (decide (fs.length = ts.length) = ANS) := by rw [← HR.out]; exact hl.symm
      clear hl
      by_cases he : fs.length = ts.length
      · have heq : ((fs.length : Int) == (ts.length : Int)) = true := beq_iff_eq.2 (by omega)
        have HL2 : Hid (true = ANS) := by rw [← HL.out]; exact (decide_eq_true he).symm
        clear HL HR he
        go_wp2
        go_ret
        exact ⟨ret_bool HL2.out, rfl⟩
      · have heq : ((fs.length : Int) == (ts.length : Int)) = false := beq_eq_false_iff_ne.2 (by omega)
        have HL2 : Hid (false = ANS) := by rw [← HL.out]; exact (decide_eq_false he).symm
        clear HL HR he
        go_wp2
        go_ret
        exact ⟨ret_bool HL2.out, rfl⟩
end Go.Proofs.YtnmfmoimjkoieaaDoor.topWalks
