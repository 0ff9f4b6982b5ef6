/- What courantref.Levels answers: a list of the levels of the text, in memory of its own; what was there is as it was. -/
import Derived.Test.YtnmfmoimjkoieaaDoorTopLevel
import Derived.OwnWalk
namespace Go.Proofs.YtnmfmoimjkoieaaDoor.topWalks
open Go.RowKit Go.Proofs.YtnmfmoimjkoieaaDoor.topPlain

theorem info9 : (Tryd.prog.info? 9).map (fun i => (i.zero, i.size, i.bytes)) = some (some (.string ByteArray.empty), 1, 16) := by kernel_rfl

def strs (l : List (List UInt8)) : List Value := l.map fun x => Value.string (bs x)
theorem strs_length (l : List (List UInt8)) : (strs l).length = l.length := by simp [strs]
theorem strs_snoc (l : List (List UInt8)) (x : List UInt8) : strs (l ++ [x]) = strs l ++ [.string (bs x)] := by simp [strs]

theorem ext_bs (s : ByteArray) (a k : Nat) : s.extract a k = bs ((s.data.toList.drop a).take (k - a)) := by
  apply ba_ext
  rw [data_bs, Lib.extract_data]

/-- an append to what the call owns -/
theorem lv_grown {B : Nat} {w wr w1 : World} {v v' : Value} {acc : List (List UInt8)} {x : List UInt8} {o : Obj} (hbel : Below B w wr) (hB : B ≤ wr.heap.size) (hown : wr.ownsRow B 9 1 v acc.length (strs acc))
    (hown' : w1.ownsRow B 9 1 v' (acc.length + 1) (strs acc ++ [.string (bs x)])) (hg : (wr.alloc o).grownBy w1 v.ownBlock) :
    w1.ownsRow B 9 1 v' (acc ++ [x]).length (strs (acc ++ [x])) ∧ Below B w w1 := by
  refine ⟨by rw [strs_snoc, List.length_append]; exact hown', ?_⟩
  exact (hbel.alloc hB o).grown hg (by simp; omega) (fun k hk => (hown.lt k hk).1)

def LvRel (s : ByteArray) (B : Nat) (w : World) (v t i : Value) (wr : World) : Prop :=
  ∃ (k a : Nat) (acc : List (List UInt8)), i = .int .i64 k ∧ t = .int .i64 a ∧ a ≤ k ∧ acc.length ≤ k ∧ wr.ownsRow B 9 1 v acc.length (strs acc) ∧ Below B w wr ∧
    ((k ≤ s.size ∧ Lv s.data.toList acc a k) ∨ (k = s.size + 1 ∧ acc = lev s.data.toList))

set_option maxHeartbeats 800000 in
set_option maxRecDepth 100000 in
theorem levels_any (s : ByteArray) (w : World) (hs : s.size ≤ 4294967280) :
    Calls Tryd.prog 10 #[.string s] w fun e w' => ∃ v, e = .returned v ∧ w'.ownsRow w.heap.size 9 1 v (lev s.data.toList).length (strs (lev s.data.toList)) ∧ Below w.heap.size w w' := by
  obtain ⟨i0, hi, hz0, hz1, hz2⟩ := info_parts info9
  obtain ⟨B, hB⟩ : ∃ B, w.heap.size = B := ⟨_, rfl⟩
  rw [hB]
  have hBle : B ≤ w.heap.size := by omega
  have HB : Hid (w.heap.size = B) := hB
  clear hB
  go_enter Tryd.func10, Tryd.ntmps10
  go_wp2
  go_loopw [3, 4, 5] (fun v t i wr => LvRel s B w v t i wr) (fun _ _ i _ => s.size + 1 - (intOf i).toNat)
  case atStart => exact ⟨0, 0, [], rfl, rfl, Nat.le_refl _, Nat.le_refl _, World.ownsRow_nil _ _ _ _, Below.refl _ _, Or.inl ⟨Nat.zero_le _, Lv.start _⟩⟩
  case round =>
    obtain ⟨k, a, acc, rfl, rfl, hak, hlen, hown, hbel, hcase⟩ := hrel
    have hsz := hbel.size
    by_cases hend : k = s.size + 1
    · have hnle : ¬ ((k : Int) ≤ (s.size : Int)) := by omega
      have HX : Hid (acc = lev s.data.toList) := by
        rcases hcase with ⟨h, _⟩ | ⟨_, h⟩
        · omega
        · exact h
      have HE : Hid (k = s.size + 1) := hend
      clear hend hcase
      go_wp2
      go_ret
      rw [← HX.out]
      exact ⟨_, rfl, hown, hbel⟩
    · have hkle : k ≤ s.size := by
        rcases hcase with ⟨h, _⟩ | ⟨h, _⟩
        · exact h
        · omega
      have HL : Hid (Lv s.data.toList acc a k) := by
        rcases hcase with ⟨_, h⟩ | ⟨h, _⟩
        · exact h
        · omega
      clear hcase hend
      have hroom : (acc.length + 1) * 16 ≤ 140737488355328 := by omega
      by_cases hks : k = s.size
      · have heq : ((k : Int) == (s.size : Int)) = true := beq_iff_eq.2 (by omega)
        have HK : Hid (k = s.size) := hks
        clear hks
        go_wp2_with (first
          | (at_builtin; refine wpList_append_own _ rfl _ _ 25 rfl B 9 i0 (.string ByteArray.empty) 1 16 Tryd.underlying25 hi hz0 hz1 hz2 rfl (by decide) _ _ _ rfl (hown.alloc _) ⟨wr.heap.size, 0, none⟩ 1 1 [.string (s.extract a k)] rfl rfl ?c1 ?c2 ?c3 ?c4 ?c5 ?_))
        case c1 =>
          intro j u hj
          match j, hj with
          | 0, hj => simp at hj; subst hj; simp [Addr.add]
        case c2 => intro u hu; simp at hu; subst hu; rfl
        case c3 => unfold maxLen; omega
        case c4 => omega
        case c5 => simp; omega
        intro v' w1 hown' hgrow _
        rw [ext_bs] at hown'
        have R := lv_grown hbel (by omega) hown hown' hgrow
        clear hown' hgrow hown
        go_wp2
        go_roundw
        case rel => exact ⟨k + 1, k + 1, acc ++ [(s.data.toList.drop a).take (k - a)], by go_num, by go_num, Nat.le_refl _, by simp; omega, by simpa using R.1, R.2, Or.inr ⟨by rw [HK.out], by have := HL.out; rw [HK.out, Lib.size_eq] at this ⊢; exact this.last⟩⟩
        case measure => simp [intOf]; omega
      · have heq : ((k : Int) == (s.size : Int)) = false := beq_eq_false_iff_ne.2 (by omega)
        have hlt : k < s.size := by omega
        clear hks hkle
        obtain ⟨x, hx⟩ : ∃ x : UInt8, s[k]'hlt = x := ⟨_, rfl⟩
        have HX : Hid (s.data.toList[k]? = some x) := by rw [← hx]; exact get_list s k hlt
        by_cases hc : x = 47
        · subst hc
          go_wp2_with (first
            | (at_builtin; refine wpList_append_own _ rfl _ _ 25 rfl B 9 i0 (.string ByteArray.empty) 1 16 Tryd.underlying25 hi hz0 hz1 hz2 rfl (by decide) _ _ _ rfl (hown.alloc _) ⟨wr.heap.size, 0, none⟩ 1 1 [.string (s.extract a k)] rfl rfl ?c1 ?c2 ?c3 ?c4 ?c5 ?_))
          case c1 =>
            intro j u hj
            match j, hj with
            | 0, hj => simp at hj; subst hj; simp [Addr.add]
          case c2 => intro u hu; simp at hu; subst hu; rfl
          case c3 => unfold maxLen; omega
          case c4 => omega
          case c5 => simp; omega
          intro v' w1 hown' hgrow _
          rw [ext_bs] at hown'
          have R := lv_grown hbel (by omega) hown hown' hgrow
          clear hown' hgrow hown
          go_wp2
          go_roundw
          case rel => exact ⟨k + 1, k + 1, acc ++ [(s.data.toList.drop a).take (k - a)], by go_num, by go_num, Nat.le_refl _, by simp; omega, by simpa using R.1, R.2, Or.inl ⟨by omega, HL.out.cut HX.out⟩⟩
          case measure => simp [intOf]; omega
        · have hne : ((x.toNat : Int) == 47) = false := beq_eq_false_iff_ne.2 (fun e => hc (UInt8.toNat_inj.1 (by have : (47 : UInt8).toNat = 47 := rfl; omega)))
          have HC : Hid (x ≠ 47) := hc
          clear hc
          go_wp2
          go_roundw
          case rel => exact ⟨k + 1, a, acc, by go_num, rfl, by omega, by omega, hown, hbel, Or.inl ⟨by omega, HL.out.next hak HX.out HC.out⟩⟩
          case measure => simp [intOf]; omega
end Go.Proofs.YtnmfmoimjkoieaaDoor.topWalks
