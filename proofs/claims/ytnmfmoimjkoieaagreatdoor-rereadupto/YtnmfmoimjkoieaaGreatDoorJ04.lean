import Derived.Test.YtnmfmoimjkoieaaGreatDoorJ02
import Derived.Deep.QuietTactic
import Derived.BigQuiet
import Derived.OwnWalk
import Derived.Test.YtnmfmoimjkoieaaGreatDoorShelf
import Derived.WalkMore
/- What topics.matchLevels answers of two lists of levels in memory: whether they match, one by one; memory is as it was. What courantref.level answers of two lists of levels in memory: whether they match, one by one; it only reads. What courantref.Levels answers: a list of the levels of the text, in memory of its own; what was there is as it was. What topics.IsName, topics.fits, courantref.Name and courantref.Topic answer, for every text; what was there is as it was. -/
namespace Go.Proofs.YtnmfmoimjkoieaaGreatDoor.topWalks
open Go.RowKit Go.Proofs.YtnmfmoimjkoieaaGreatDoor.topPlain

def dl (l : List ByteArray) : List (List UInt8) := l.map (·.data.toList)
theorem dl_get {l : List ByteArray} {i : Nat} {x : ByteArray} (h : l[i]? = some x) : (dl l)[i]? = some x.data.toList := by simp [dl, h]
theorem dl_length (l : List ByteArray) : (dl l).length = l.length := by simp [dl]

set_option maxHeartbeats 400000 in
theorem matchLevels_any (bf of_ cf bt ot ct : Nat) (fs ts : List ByteArray) (w : World)
    (hf : ∀ (j : Nat) X, fs[j]? = some X → w.cell? ⟨bf, of_ + j, none⟩ = some (.string X)) (ht : ∀ (j : Nat) X, ts[j]? = some X → w.cell? ⟨bt, ot + j, none⟩ = some (.string X))
    (lf : fs.length ≤ maxLen) :
    Calls Tryz.prog 231 #[.slice (some ⟨bf, of_, none⟩) fs.length cf, .slice (some ⟨bt, ot, none⟩) ts.length ct] w fun e w' => e = .returned (.bool (lvl (dl fs) (dl ts))) ∧ w' = w := by
  unfold maxLen at lf
  have HF : Hid (∀ (j : Nat) X, fs[j]? = some X → w.cell? ⟨bf, of_ + j, none⟩ = some (.string X)) := hf
  have HT : Hid (∀ (j : Nat) X, ts[j]? = some X → w.cell? ⟨bt, ot + j, none⟩ = some (.string X)) := ht
  clear hf ht
  obtain ⟨ANS, hANS⟩ : ∃ ANS, lvl (dl fs) (dl ts) = ANS := ⟨_, rfl⟩
  rw [hANS]
  have HA : Hid (lvl (dl fs) (dl ts) = ANS) := hANS
  clear hANS
  go_enter Tryz.func231, Tryz.ntmps231
  go_wp2
  go_loop [9] (fun i => ∃ k : Nat, k ≤ fs.length ∧ k ≤ ts.length ∧ i = .int .i64 k ∧ lvl ((dl fs).drop k) ((dl ts).drop k) = ANS) (fun i => fs.length - (intOf i).toNat)
  case atStart => exact ⟨0, Nat.zero_le _, Nat.zero_le _, rfl, HA.out⟩
  case round =>
    obtain ⟨k, hk, hkt, rfl, hr⟩ := hrel
    have HR : Hid (lvl ((dl fs).drop k) ((dl ts).drop k) = ANS) := hr
    clear hr
    by_cases hlt : k < fs.length
    · obtain ⟨X, hX⟩ : ∃ X, fs[k]? = some X := ⟨_, List.getElem?_eq_getElem hlt⟩
      have cX := HF.out k X hX
      have HX : Hid (fs[k]? = some X) := hX
      clear hX
      by_cases h35 : X.data.toList = [35]
      · have hx : (X.toList == [35]) = true := by rw [Lib.toList_data, h35]; rfl
        have hl := lvl_hash (dl fs) (dl ts) k (by rw [dl_get HX.out, h35])
        have HL : Hid (true = ANS) := by rw [← HR.out]; exact hl.symm
        clear hl h35
        go_wp2
        go_ret
        exact ⟨ret_bool HL.out, rfl⟩
      · have hx : (X.toList == [35]) = false := by rw [Lib.toList_data]; simpa using h35
        by_cases hkl : k < ts.length
        · obtain ⟨Y, hY⟩ : ∃ Y, ts[k]? = some Y := ⟨_, List.getElem?_eq_getElem hkl⟩
          have cY := HT.out k Y hY
          have hl := lvl_step (dl fs) (dl ts) k (dl_get HX.out) h35 (dl_get hY)
          clear hY h35
          have HL : Hid (((X.data.toList == [43] || X.data.toList == Y.data.toList) && lvl ((dl fs).drop (k + 1)) ((dl ts).drop (k + 1))) = ANS) := by rw [← hl]; exact HR.out
          clear hl
          have e43 : (X.toList == [43]) = (X.data.toList == [43]) := by rw [Lib.toList_data]
          have eXY : (X.toList == Y.toList) = (X.data.toList == Y.data.toList) := by rw [Lib.toList_data, Lib.toList_data]
          cases h43 : (X.data.toList == [43]) <;> cases hXY : (X.data.toList == Y.data.toList)
          all_goals
            rw [h43, hXY] at HL
            rw [h43] at e43
            rw [hXY] at eXY
            clear h43 hXY
            go_wp2
          · go_ret
            exact ⟨ret_bool (by have := HL.out; simpa using this), rfl⟩
          all_goals
            go_round
            case rel => exact ⟨k + 1, by omega, by omega, by go_num, by have := HL.out; simpa using this⟩
            case measure => simp [intOf]; omega
        · have hl := lvl_short (dl fs) (dl ts) k (dl_get HX.out) h35 (by rw [dl_length]; omega)
          have HL : Hid (false = ANS) := by rw [← HR.out]; exact hl.symm
          clear hl h35
          go_wp2
          go_ret
          exact ⟨ret_bool HL.out, rfl⟩
    · obtain rfl : k = fs.length := by omega
      have hl := lvl_end (dl fs) (dl ts) (by rw [dl_length, dl_length]; omega)
      rw [dl_length, dl_length] at hl
      have HL : Hid (decide (fs.length = ts.length) = ANS) := by rw [← HR.out]; exact hl.symm
      clear hl
      by_cases he : fs.length = ts.length
      · have heq : ((fs.length : Int) == (ts.length : Int)) = true := beq_iff_eq.2 (by omega)
        have HL2 : Hid (true = ANS) := by rw [← HL.out]; exact (decide_eq_true he).symm
        clear HL HR he
        go_wp2
        go_ret
        exact ⟨ret_bool HL2.out, rfl⟩
      · have heq : ((fs.length : Int) == (ts.length : Int)) = false := beq_eq_false_iff_ne.2 (by omega)
        have HL2 : Hid (false = ANS) := by rw [← HL.out]; exact (decide_eq_false he).symm
        clear HL HR he
        go_wp2
        go_ret
        exact ⟨ret_bool HL2.out, rfl⟩
end Go.Proofs.YtnmfmoimjkoieaaGreatDoor.topWalks

namespace Go.Proofs.YtnmfmoimjkoieaaGreatDoor.topWalks
open Go.RowKit Go.Proofs.YtnmfmoimjkoieaaGreatDoor.topPlain

/-- a slice of texts, as it lies in memory -/
def SV (w : World) (v : Value) (ss : List ByteArray) : Prop :=
  ∃ (p : Option Addr) (cap : Nat), v = .slice p ss.length cap ∧ ss.length ≤ cap ∧ cap ≤ maxLen ∧ (ss ≠ [] → ∃ b off, p = some ⟨b, off, none⟩ ∧ ∀ (j : Nat) X, ss[j]? = some X → w.cell? ⟨b, off + j, none⟩ = some (.string X))

theorem SV.alike {w w' : World} {v : Value} {ss : List ByteArray} (h : SV w v ss) (hc : ∀ a, w'.cell? a = w.cell? a) : SV w' v ss := by
  obtain ⟨p, cap, h1, h2, h3, h4⟩ := h
  refine ⟨p, cap, h1, h2, h3, fun hne => ?_⟩
  obtain ⟨b, off, h5, h6⟩ := h4 hne
  exact ⟨b, off, h5, fun j X hX => by rw [hc]; exact h6 j X hX⟩

theorem SV.tail {w w' : World} {b off cap : Nat} {X : ByteArray} {ss : List ByteArray} (hcap : ss.length + 1 ≤ cap) (hm : cap ≤ maxLen) (hc : ∀ (j : Nat) Z, (X :: ss)[j]? = some Z → w.cell? ⟨b, off + j, none⟩ = some (.string Z)) (hw : ∀ a, w'.cell? a = w.cell? a) :
    SV w' (.slice (if cap = 1 then some ⟨b, off, none⟩ else some ⟨b, off + 1, none⟩) ss.length (cap - 1)) ss :=
  ⟨_, _, rfl, by omega, by omega, fun hne => ⟨b, off + 1, if_neg (fun e => hne (List.length_eq_zero_iff.1 (by omega))), fun j Z hZ => by have := hc (j + 1) Z (by simpa using hZ); rw [hw]; rwa [show off + (j + 1) = off + 1 + j by omega] at this⟩⟩

set_option maxHeartbeats 800000 in
set_option maxRecDepth 100000 in
theorem level_any (fs : List ByteArray) : ∀ (ts : List ByteArray) (vf vt : Value) (w : World), SV w vf fs → SV w vt ts →
    Calls Tryz.prog 221 #[vf, vt] w fun e w' => e = .returned (.bool (lvl (dl fs) (dl ts))) ∧ ∃ n, w' = w.drewN n := by
  induction fs with
  | nil =>
    intro ts vf vt w hf ht
    obtain ⟨p, cf, rfl, _, _, _⟩ := hf
    obtain ⟨q, ct, rfl, hl2, hm2, _⟩ := ht
    unfold maxLen at hm2
    have e : lvl (dl []) (dl ts) = ((ts.length : Int) == 0) := by
      cases ts with
      | nil => rfl
      | cons a r => simp [dl, lvl]; omega
    rw [e]
    go_enter Tryz.func221, Tryz.ntmps221
    go_wp2
    go_ret
    exact ⟨rfl, 0, rfl⟩
  | cons X fs ih =>
    intro ts vf vt w hf ht
    have HI : Hid (∀ (ts : List ByteArray) (vf vt : Value) (w : World), SV w vf fs → SV w vt ts → Calls Tryz.prog 221 #[vf, vt] w fun e w' => e = .returned (.bool (lvl (dl fs) (dl ts))) ∧ ∃ n, w' = w.drewN n) := ih
    clear ih
    obtain ⟨p, cf, rfl, hl1, hm1, hc1⟩ := hf
    obtain ⟨b, off, rfl, hc⟩ := hc1 (by simp)
    clear hc1
    have c0 : w.cell? ⟨b, off, none⟩ = some (.string X) := hc 0 X rfl
    have HC : Hid (∀ (j : Nat) Z, (X :: fs)[j]? = some Z → w.cell? ⟨b, off + j, none⟩ = some (.string Z)) := hc
    clear hc
    have HM1 : Hid (cf ≤ maxLen) := hm1
    unfold maxLen at hm1
    simp only [List.length_cons] at hl1 ⊢
    by_cases h35 : X.data.toList = [35]
    · have hx : (X.toList == [35]) = true := by rw [Lib.toList_data, h35]; rfl
      have HE : Hid (lvl (dl (X :: fs)) (dl ts) = true) := by simp [Hid, dl, lvl, h35]
      obtain ⟨q, ct, rfl, _, _, _⟩ := ht
      clear h35
      go_enter Tryz.func221, Tryz.ntmps221
      go_wp2
      go_ret
      exact ⟨ret_bool HE.out.symm, 0, rfl⟩
    · have hx : (X.toList == [35]) = false := by rw [Lib.toList_data]; simpa using h35
      cases ts with
      | nil =>
        obtain ⟨q, ct, rfl, hl2, hm2, _⟩ := ht
        have HE : Hid (lvl (dl (X :: fs)) (dl []) = false) := by simp [Hid, dl, lvl, h35]
        clear h35
        have hd : decide ((0 : Int) < ((([] : List ByteArray).length : Nat) : Int)) = false := by simp
        go_enter Tryz.func221, Tryz.ntmps221
        go_wp2
        go_quiet (fail)
        go_wp2
        go_ret
        exact ⟨ret_bool HE.out.symm, nq, rfl⟩
      | cons Y ts =>
        obtain ⟨q, ct, rfl, hl2, hm2, hc2⟩ := ht
        obtain ⟨b2, off2, rfl, hc⟩ := hc2 (by simp)
        clear hc2
        have d0 : w.cell? ⟨b2, off2, none⟩ = some (.string Y) := hc 0 Y rfl
        have HD : Hid (∀ (j : Nat) Z, (Y :: ts)[j]? = some Z → w.cell? ⟨b2, off2 + j, none⟩ = some (.string Z)) := hc
        clear hc
        have HM2 : Hid (ct ≤ maxLen) := hm2
        unfold maxLen at hm2
        simp only [List.length_cons] at hl2 ⊢
        have hpos : (0 : Int) < ((ts.length + 1 : Nat) : Int) := by omega
        have e43 : (X.toList == [43]) = (X.data.toList == [43]) := by rw [Lib.toList_data]
        have eXY : (X.toList == Y.toList) = (X.data.toList == Y.data.toList) := by rw [Lib.toList_data, Lib.toList_data]
        have HE : Hid (lvl (dl (X :: fs)) (dl (Y :: ts)) = ((X.data.toList == [43] || X.data.toList == Y.data.toList) && lvl (dl fs) (dl ts))) := by simp [Hid, dl, lvl, h35]
        clear h35
        cases h43 : (X.data.toList == [43]) <;> cases hXY : (X.data.toList == Y.data.toList)
        all_goals
          rw [h43, hXY] at HE
          rw [h43] at e43
          rw [hXY] at eXY
          clear h43 hXY
          go_enter Tryz.func221, Tryz.ntmps221
          go_wp2
        · go_quiet (fail)
          go_wp2
          go_ret
          exact ⟨ret_bool HE.out.symm, nq, rfl⟩
        all_goals
          go_quiet ((go_at_call 221; refine Calls.quiet_of (HI.out ts _ _ _ (SV.tail hl1 HM1.out HC.out fun _ => World.cell?_drewN ..) (SV.tail hl2 HM2.out HD.out fun _ => World.cell?_drewN ..))))
          go_wp2
        all_goals
          go_ret
          exact ⟨ret_bool (by rw [HE.out]; simp), nq, rfl⟩
end Go.Proofs.YtnmfmoimjkoieaaGreatDoor.topWalks

namespace Go.Proofs.YtnmfmoimjkoieaaGreatDoor.topWalks
open Go.RowKit Go.Proofs.YtnmfmoimjkoieaaGreatDoor.topPlain

theorem info9 : (Tryz.prog.info? 9).map (fun i => (i.zero, i.size, i.bytes)) = some (some (.string ByteArray.empty), 1, 16) := by kernel_rfl

def strs (l : List (List UInt8)) : List Value := l.map fun x => Value.string (bs x)
theorem strs_length (l : List (List UInt8)) : (strs l).length = l.length := by simp [strs]
theorem strs_snoc (l : List (List UInt8)) (x : List UInt8) : strs (l ++ [x]) = strs l ++ [.string (bs x)] := by simp [strs]

theorem ext_bs (s : ByteArray) (a k : Nat) : s.extract a k = bs ((s.data.toList.drop a).take (k - a)) := by
  apply ba_ext
  rw [data_bs, Lib.extract_data]

/-- an append to what the call owns -/
theorem lv_grown {B : Nat} {w wr w1 : World} {v v' : Value} {acc : List (List UInt8)} {x : List UInt8} {o : Obj} (hbel : Below B w wr) (hB : B ≤ wr.heap.size) (hown : wr.ownsRow B 9 1 v acc.length (strs acc))
    (hown' : w1.ownsRow B 9 1 v' (acc.length + 1) (strs acc ++ [.string (bs x)])) (hg : (wr.alloc o).grownBy w1 v.ownBlock) :
    w1.ownsRow B 9 1 v' (acc ++ [x]).length (strs (acc ++ [x])) ∧ Below B w w1 := by
  refine ⟨by rw [strs_snoc, List.length_append]; exact hown', ?_⟩
  exact (hbel.alloc hB o).grown hg (by simp; omega) (fun k hk => (hown.lt k hk).1)

def LvRel (s : ByteArray) (B : Nat) (w : World) (v t i : Value) (wr : World) : Prop :=
  ∃ (k a : Nat) (acc : List (List UInt8)), i = .int .i64 k ∧ t = .int .i64 a ∧ a ≤ k ∧ acc.length ≤ k ∧ wr.ownsRow B 9 1 v acc.length (strs acc) ∧ Below B w wr ∧
    ((k ≤ s.size ∧ Lv s.data.toList acc a k) ∨ (k = s.size + 1 ∧ acc = lev s.data.toList))

set_option maxHeartbeats 800000 in
set_option maxRecDepth 100000 in
theorem levels_any (s : ByteArray) (w : World) (hs : s.size ≤ 4294967280) :
    Calls Tryz.prog 176 #[.string s] w fun e w' => ∃ v, e = .returned v ∧ w'.ownsRow w.heap.size 9 1 v (lev s.data.toList).length (strs (lev s.data.toList)) ∧ Below w.heap.size w w' := by
  obtain ⟨i0, hi, hz0, hz1, hz2⟩ := info_parts info9
  obtain ⟨B, hB⟩ : ∃ B, w.heap.size = B := ⟨_, rfl⟩
  rw [hB]
  have hBle : B ≤ w.heap.size := by omega
  have HB : Hid (w.heap.size = B) := hB
  clear hB
  go_enter Tryz.func176, Tryz.ntmps176
  go_wp2
  go_loopw [3, 4, 5] (fun v t i wr => LvRel s B w v t i wr) (fun _ _ i _ => s.size + 1 - (intOf i).toNat)
  case atStart => exact ⟨0, 0, [], rfl, rfl, Nat.le_refl _, Nat.le_refl _, World.ownsRow_nil _ _ _ _, Below.refl _ _, Or.inl ⟨Nat.zero_le _, Lv.start _⟩⟩
  case round =>
    obtain ⟨k, a, acc, rfl, rfl, hak, hlen, hown, hbel, hcase⟩ := hrel
    have hsz := hbel.size
    by_cases hend : k = s.size + 1
    · have hnle : ¬ ((k : Int) ≤ (s.size : Int)) := by omega
      have HX : Hid (acc = lev s.data.toList) := by
        rcases hcase with ⟨h, _⟩ | ⟨_, h⟩
        · omega
        · exact h
      have HE : Hid (k = s.size + 1) := hend
      clear hend hcase
      go_wp2
      go_ret
      rw [← HX.out]
      exact ⟨_, rfl, hown, hbel⟩
    · have hkle : k ≤ s.size := by
        rcases hcase with ⟨h, _⟩ | ⟨h, _⟩
        · exact h
        · omega
      have HL : Hid (Lv s.data.toList acc a k) := by
        rcases hcase with ⟨_, h⟩ | ⟨h, _⟩
        · exact h
        · omega
      clear hcase hend
      have hroom : (acc.length + 1) * 16 ≤ 140737488355328 := by omega
      by_cases hks : k = s.size
      · have heq : ((k : Int) == (s.size : Int)) = true := beq_iff_eq.2 (by omega)
        have HK : Hid (k = s.size) := hks
        clear hks
        go_wp2_with (first
          | (at_builtin; refine wpList_append_own _ rfl _ _ 230 rfl B 9 i0 (.string ByteArray.empty) 1 16 Tryz.underlying230 hi hz0 hz1 hz2 rfl (by decide) _ _ _ rfl (hown.alloc _) ⟨wr.heap.size, 0, none⟩ 1 1 [.string (s.extract a k)] rfl rfl ?c1 ?c2 ?c3 ?c4 ?c5 ?_))
        case c1 =>
          intro j u hj
          match j, hj with
          | 0, hj => simp at hj; subst hj; simp [Addr.add]
        case c2 => intro u hu; simp at hu; subst hu; rfl
        case c3 => unfold maxLen; omega
        case c4 => omega
        case c5 => simp; omega
        intro v' w1 hown' hgrow _
        rw [ext_bs] at hown'
        have R := lv_grown hbel (by omega) hown hown' hgrow
        clear hown' hgrow hown
        go_wp2
        go_roundw
        case rel => exact ⟨k + 1, k + 1, acc ++ [(s.data.toList.drop a).take (k - a)], by go_num, by go_num, Nat.le_refl _, by simp; omega, by simpa using R.1, R.2, Or.inr ⟨by rw [HK.out], by have := HL.out; rw [HK.out, Lib.size_eq] at this ⊢; exact this.last⟩⟩
        case measure => simp [intOf]; omega
      · have heq : ((k : Int) == (s.size : Int)) = false := beq_eq_false_iff_ne.2 (by omega)
        have hlt : k < s.size := by omega
        clear hks hkle
        obtain ⟨x, hx⟩ : ∃ x : UInt8, s[k]'hlt = x := ⟨_, rfl⟩
        have HX : Hid (s.data.toList[k]? = some x) := by rw [← hx]; exact get_list s k hlt
        by_cases hc : x = 47
        · subst hc
          go_wp2_with (first
            | (at_builtin; refine wpList_append_own _ rfl _ _ 230 rfl B 9 i0 (.string ByteArray.empty) 1 16 Tryz.underlying230 hi hz0 hz1 hz2 rfl (by decide) _ _ _ rfl (hown.alloc _) ⟨wr.heap.size, 0, none⟩ 1 1 [.string (s.extract a k)] rfl rfl ?c1 ?c2 ?c3 ?c4 ?c5 ?_))
          case c1 =>
            intro j u hj
            match j, hj with
            | 0, hj => simp at hj; subst hj; simp [Addr.add]
          case c2 => intro u hu; simp at hu; subst hu; rfl
          case c3 => unfold maxLen; omega
          case c4 => omega
          case c5 => simp; omega
          intro v' w1 hown' hgrow _
          rw [ext_bs] at hown'
          have R := lv_grown hbel (by omega) hown hown' hgrow
          clear hown' hgrow hown
          go_wp2
          go_roundw
          case rel => exact ⟨k + 1, k + 1, acc ++ [(s.data.toList.drop a).take (k - a)], by go_num, by go_num, Nat.le_refl _, by simp; omega, by simpa using R.1, R.2, Or.inl ⟨by omega, HL.out.cut HX.out⟩⟩
          case measure => simp [intOf]; omega
        · have hne : ((x.toNat : Int) == 47) = false := beq_eq_false_iff_ne.2 (fun e => hc (UInt8.toNat_inj.1 (by have : (47 : UInt8).toNat = 47 := rfl; omega)))
          have HC : Hid (x ≠ 47) := hc
          clear hc
          go_wp2
          go_roundw
          case rel => exact ⟨k + 1, a, acc, by go_num, rfl, by omega, by omega, hown, hbel, Or.inl ⟨by omega, HL.out.next hak HX.out HC.out⟩⟩
          case measure => simp [intOf]; omega
end Go.Proofs.YtnmfmoimjkoieaaGreatDoor.topWalks

namespace Go.Proofs.YtnmfmoimjkoieaaGreatDoor.topWalks
open Go.RowKit Go.Proofs.YtnmfmoimjkoieaaGreatDoor.topPlain

/-- what the library reads of memory: the tables of UTF-8; some number in one variable -/
def Inv (w : World) : Prop := Lib.Utf8Tabs (Tryz.lays196_ren.g 3) (Tryz.lays196_ren.g 4) w ∧ ∃ m, w.cell? ⟨Tryz.laysM144_ren.g 1, 0, none⟩ = some (.int .i64 m)
theorem cell_lt {w : World} {p : Addr} {v : Value} (h : w.cell? p = some v) : p.block < w.heap.size := by
  rcases Nat.lt_or_ge p.block w.heap.size with hl | hg
  · exact hl
  · have : w.heap[p.block]? = none := Array.getElem?_eq_none hg
    simp [World.cell?, this] at h
theorem Inv.below {w w' : World} (h : Inv w) (hb : Below w.heap.size w w') : Inv w' := by
  obtain ⟨hT, m, hm⟩ := h
  exact ⟨Utf8Tabs_below hT hb, m, by rw [hb.cell (cell_lt hm)]; exact hm⟩

theorem valid_any (s : ByteArray) (w : World) (hs : s.size ≤ maxLen) (hI : Inv w) :
    Calls Tryz.prog 175 #[.string s] w fun e w' => e = .returned (.bool (Lib.validD s.data.toList)) ∧ Below w.heap.size w w' :=
  Any.utf8_ValidString Tryz.lays196 s w (by unfold maxLen at hs; omega) hI.1

theorem index0_any (s : ByteArray) (w : World) :
    Calls Tryz.prog 234 #[.string s, .int .u8 0] w fun e w' => e = .returned (.int .i64 (Lib.indexByte s.data.toList 0)) ∧ w' = w :=
  Tryz.strings_IndexByte s 0 w

set_option maxHeartbeats 400000 in
theorem isName_any (s : ByteArray) (w : World) (hs : s.size ≤ maxLen) (hI : Inv w) :
    Calls Tryz.prog 203 #[.string s] w fun e w' => e = .returned (.bool (Lib.validD s.data.toList && !hasB s.data.toList 0)) ∧ Below w.heap.size w w' := by
  have cV := valid_any s w hs hI
  rw [← indexByte_neg]
  have hge := Lib.indexByte_ge s.data.toList 0
  have cI := fun w' => index0_any s w'
  generalize Lib.indexByte s.data.toList 0 = I at cI hge ⊢
  generalize Lib.validD s.data.toList = V at cV ⊢
  cases V
  · clear cI
    have HV := hide cV
    clear cV hI
    go_enter Tryz.func203, Tryz.ntmps203
    go_wp2_with (go_at_call 175; refine (unhide HV).mono ?_; rintro e w' ⟨rfl, hb⟩)
    go_ret
    exact ⟨rfl, by assumption⟩
  · have HV := hide cV
    have HI := hide cI
    clear cV cI hI
    go_enter Tryz.func203, Tryz.ntmps203
    go_wp2_with (first
      | (go_at_call 175; refine (unhide HV).mono ?_; rintro e w' ⟨rfl, hb⟩)
      | (go_at_call 234; refine (unhide HI _).mono ?_; rintro e w' ⟨rfl, rfl⟩))
    go_ret
    exact ⟨rfl, by assumption⟩

set_option maxHeartbeats 400000 in
theorem fits_any (s : ByteArray) (w : World) (hs : s.size ≤ maxLen) (hI : Inv w) :
    Calls Tryz.prog 235 #[.string s] w fun e w' => e = .returned (.bool (nameB 1 30 s.data.toList)) ∧ Below w.heap.size w w' := by
  have cN := hide (isName_any s w hs hI)
  unfold maxLen at hs
  unfold nameB
  rw [← Lib.size_eq]
  clear hI
  by_cases h1 : (1 : Int) ≤ (s.size : Int)
  · by_cases h2 : (s.size : Int) ≤ 30
    · rw [decide_eq_true h1, decide_eq_true h2]
      go_enter Tryz.func235, Tryz.ntmps235
      go_wp2_with (go_at_call 203; refine (unhide cN).mono ?_; rintro e w' ⟨rfl, hb⟩)
      go_ret
      exact ⟨ret_bool (by rw [Bool.true_and, Bool.true_and, Bool.and_comm]), by assumption⟩
    · rw [decide_eq_false h2, Bool.and_false, Bool.false_and, Bool.false_and]
      clear cN
      go_enter Tryz.func235, Tryz.ntmps235
      go_wp2
      go_ret
      exact ⟨rfl, Below.refl _ _⟩
  · rw [decide_eq_false h1, Bool.false_and, Bool.false_and, Bool.false_and]
    clear cN
    go_enter Tryz.func235, Tryz.ntmps235
    go_wp2
    go_ret
    exact ⟨rfl, Below.refl _ _⟩

set_option maxHeartbeats 400000 in
theorem rName_any (s : ByteArray) (least most : Int) (w : World) (hs : s.size ≤ maxLen) (hI : Inv w) :
    Calls Tryz.prog 134 #[.string s, .int .i64 least, .int .i64 most] w fun e w' => e = .returned (.bool (nameB least most s.data.toList)) ∧ Below w.heap.size w w' := by
  have cN := hide (valid_any s w hs hI)
  have cH := hide (has_0 s w hs)
  unfold maxLen at hs
  unfold nameB
  rw [← Lib.size_eq]
  clear hI
  generalize hasB s.data.toList 0 = H at cH ⊢
  by_cases h1 : least ≤ (s.size : Int)
  · by_cases h2 : (s.size : Int) ≤ most
    · rw [decide_eq_true h1, decide_eq_true h2]
      cases H
      · go_enter Tryz.func134, Tryz.ntmps134
        go_wp2_with (first
          | (go_at_call 135; refine (unhide cH).mono ?_; rintro e w' ⟨rfl, rfl⟩)
          | (go_at_call 175; refine (unhide cN).mono ?_; rintro e w' ⟨rfl, hb⟩))
        go_ret
        exact ⟨ret_bool (by simp), by assumption⟩
      · clear cN
        go_enter Tryz.func134, Tryz.ntmps134
        go_wp2_with (go_at_call 135; refine (unhide cH).mono ?_; rintro e w' ⟨rfl, rfl⟩)
        go_ret
        exact ⟨rfl, Below.refl _ _⟩
    · rw [decide_eq_false h2, Bool.and_false, Bool.false_and, Bool.false_and]
      clear cN
      go_enter Tryz.func134, Tryz.ntmps134
      go_wp2_with (go_at_call 135; refine (unhide cH).mono ?_; rintro e w' ⟨rfl, rfl⟩)
      go_ret
      exact ⟨rfl, Below.refl _ _⟩
  · rw [decide_eq_false h1, Bool.false_and, Bool.false_and, Bool.false_and]
    clear cN
    go_enter Tryz.func134, Tryz.ntmps134
    go_wp2_with (go_at_call 135; refine (unhide cH).mono ?_; rintro e w' ⟨rfl, rfl⟩)
    go_ret
    exact ⟨rfl, Below.refl _ _⟩

set_option maxHeartbeats 400000 in
theorem rTopic_any (s : ByteArray) (w : World) (hs : s.size ≤ maxLen) (hI : Inv w) :
    Calls Tryz.prog 95 #[.string s] w fun e w' => e = .returned (.bool (topicB s.data.toList)) ∧ Below w.heap.size w w' := by
  have cN := hide (rName_any s 1 30 w hs hI)
  have c43 := hide (has_43 s w hs)
  have c35 := hide (has_35 s w hs)
  unfold topicB
  clear hI hs
  generalize hasB s.data.toList 43 = P at c43 ⊢
  generalize hasB s.data.toList 35 = Q at c35 ⊢
  generalize nameB 1 30 s.data.toList = V at cN ⊢
  cases P <;> cases Q
  all_goals
    go_enter Tryz.func95, Tryz.ntmps95
    go_wp2_with fail
    refine (unhide c43).mono ?_
    rintro e w' ⟨rfl, rfl⟩
    go_wp2_with fail
    refine (unhide c35).mono ?_
    rintro e w' ⟨rfl, rfl⟩
  · go_wp2_with (go_at_call 134; refine (unhide cN).mono ?_; rintro e w' ⟨rfl, hb⟩)
    go_ret
    exact ⟨ret_bool (by simp), by assumption⟩
  all_goals
    clear cN
    go_wp2
    go_ret
    exact ⟨ret_bool (by simp), Below.refl _ _⟩
end Go.Proofs.YtnmfmoimjkoieaaGreatDoor.topWalks
