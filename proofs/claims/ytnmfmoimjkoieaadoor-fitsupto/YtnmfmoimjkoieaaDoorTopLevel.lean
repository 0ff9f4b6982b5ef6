/- What courantref.level answers of two lists of levels in memory: whether they match, one by one; it only reads. -/
import Derived.Test.YtnmfmoimjkoieaaDoorTopMatch
import Derived.Deep.QuietTactic
import Derived.BigQuiet
namespace Go.Proofs.YtnmfmoimjkoieaaDoor.topWalks
open Go.RowKit Go.Proofs.YtnmfmoimjkoieaaDoor.topPlain

/-- a slice of texts, as it lies in memory -/
def SV (w : World) (v : Value) (ss : List ByteArray) : Prop :=
  ∃ (p : Option Addr) (cap : Nat), v = .slice p ss.length cap ∧ ss.length ≤ cap ∧ cap ≤ maxLen ∧ (ss ≠ [] → ∃ b off, p = some ⟨b, off, none⟩ ∧ ∀ (j : Nat) X, ss[j]? = some X → w.cell? ⟨b, off + j, none⟩ = some (.string X))

theorem SV.alike {w w' : World} {v : Value} {ss : List ByteArray} (h : SV w v ss) (hc : ∀ a, w'.cell? a = w.cell? a) : SV w' v ss := by
  obtain ⟨p, cap, h1, h2, h3, h4⟩ := h
  refine ⟨p, cap, h1, h2, h3, fun hne => ?_⟩
  obtain ⟨b, off, h5, h6⟩ := h4 hne
  exact ⟨b, off, h5, fun j X hX => by rw [hc]; exact h6 j X hX⟩

theorem SV.tail {w w' : World} {b off cap : Nat} {X : ByteArray} {ss : List ByteArray} (hcap : ss.length + 1 ≤ cap) (hm : cap ≤ maxLen) (hc : ∀ (j : Nat) Z, (X :: ss)[j]? = some Z → w.cell? ⟨b, off + j, none⟩ = some (.string Z)) (hw : ∀ a, w'.cell? a = w.cell? a) :
    SV w' (.slice (if cap = 1 then some ⟨b, off, none⟩ else some ⟨b, off + 1, none⟩) ss.length (cap - 1)) ss :=
  ⟨_, _, rfl, by omega, by omega, fun hne => ⟨b, off + 1, if_neg (fun e => hne (List.length_eq_zero_iff.1 (by omega))), fun j Z hZ => by have := hc (j + 1) Z (by simpa using hZ); rw [hw]; rwa [show off + (j + 1) = off + 1 + j by omega] at this⟩⟩

set_option maxHeartbeats 800000 in
set_option maxRecDepth 100000 in
theorem level_any (fs : List ByteArray) : ∀ (ts : List ByteArray) (vf vt : Value) (w : World), SV w vf fs → SV w vt ts →
    Calls Tryd.prog 9 #[vf, vt] w fun e w' => e = .returned (.bool (lvl (dl fs) (dl ts))) ∧ ∃ n, w' = w.drewN n := by
  induction fs with
  | nil =>
    intro ts vf vt w hf ht
    obtain ⟨p, cf, rfl, _, _, _⟩ := hf
    obtain ⟨q, ct, rfl, hl2, hm2, _⟩ := ht
    unfold maxLen at hm2
    have e : lvl (dl []) (dl ts) = ((ts.length : Int) == 0) := by
      cases ts with
      | nil => rfl
      | cons a r => simp [dl, lvl]; omega
    rw [e]
    go_enter Tryd.func9, Tryd.ntmps9
    go_wp2
    go_ret
    exact ⟨rfl, 0, rfl⟩
  | cons X fs ih =>
    intro ts vf vt w hf ht
    have HI : Hid (∀ (ts : List ByteArray) (vf vt : Value) (w : World), SV w vf fs → SV w vt ts → Calls Tryd.prog 9 #[vf, vt] w fun e w' => e = .returned (.bool (lvl (dl fs) (dl ts))) ∧ ∃ n, w' = w.drewN n) := ih
    clear ih
    obtain ⟨p, cf, rfl, hl1, hm1, hc1⟩ := hf
    obtain ⟨b, off, rfl, hc⟩ := hc1 (by simp)
    clear hc1
    have c0 : w.cell? ⟨b, off, none⟩ = some (.string X) := hc 0 X rfl
    have HC : Hid (∀ (j : Nat) Z, (X :: fs)[j]? = some Z → w.cell? ⟨b, off + j, none⟩ = some (.string Z)) := hc
    clear hc
    have HM1 : Hid (cf ≤ maxLen) := hm1
    unfold maxLen at hm1
    simp only [List.length_cons] at hl1 ⊢
    by_cases h35 : X.data.toList = [35]
    · have hx : (X.toList == [35]) = true := by rw [Lib.toList_data, h35]; rfl
      have HE : Hid (lvl (dl (X :: fs)) (dl ts) = true) := by simp [Hid, dl, lvl, h35]
      obtain ⟨q, ct, rfl, _, _, _⟩ := ht
      clear h35
      go_enter Tryd.func9, Tryd.ntmps9
      go_wp2
      go_ret
      exact ⟨ret_bool HE.out.symm, 0, rfl⟩
    · have hx : (X.toList == [35]) = false := by rw [Lib.toList_data]; simpa using h35
      cases ts with
      | nil =>
        obtain ⟨q, ct, rfl, hl2, hm2, _⟩ := ht
        have HE : Hid (lvl (dl (X :: fs)) (dl []) = false) := by simp [Hid, dl, lvl, h35]
        clear h35
        have hd : decide ((0 : Int) < ((([] : List ByteArray).length : Nat) : Int)) = false := by simp
        go_enter Tryd.func9, Tryd.ntmps9
        go_wp2
        go_quiet (fail)
        go_wp2
        go_ret
        exact ⟨ret_bool HE.out.symm, nq, rfl⟩
      | cons Y ts =>
        obtain ⟨q, ct, rfl, hl2, hm2, hc2⟩ := ht
        obtain ⟨b2, off2, rfl, hc⟩ := hc2 (by simp)
        clear hc2
        have d0 : w.cell? ⟨b2, off2, none⟩ = some (.string Y) := hc 0 Y rfl
        have HD : Hid (∀ (j : Nat) Z, (Y :: ts)[j]? = some Z → w.cell? ⟨b2, off2 + j, none⟩ = some (.string Z)) := hc
        clear hc
        have HM2 : Hid (ct ≤ maxLen) := hm2
        unfold maxLen at hm2
        simp only [List.length_cons] at hl2 ⊢
        have hpos : (0 : Int) < ((ts.length + 1 : Nat) : Int) := by omega
        have e43 : (X.toList == [43]) = (X.data.toList == [43]) := by rw [Lib.toList_data]
        have eXY : (X.toList == Y.toList) = (X.data.toList == Y.data.toList) := by rw [Lib.toList_data, Lib.toList_data]
        have HE : Hid (lvl (dl (X :: fs)) (dl (Y :: ts)) = ((X.data.toList == [43] || X.data.toList == Y.data.toList) && lvl (dl fs) (dl ts))) := by simp [Hid, dl, lvl, h35]
        clear h35
        cases h43 : (X.data.toList == [43]) <;> cases hXY : (X.data.toList == Y.data.toList)
        all_goals
          rw [h43, hXY] at HE
          rw [h43] at e43
          rw [hXY] at eXY
          clear h43 hXY
          go_enter Tryd.func9, Tryd.ntmps9
          go_wp2
        · go_quiet (fail)
          go_wp2
          go_ret
          exact ⟨ret_bool HE.out.symm, nq, rfl⟩
        all_goals
          go_quiet ((go_at_call 9; refine Calls.quiet_of (HI.out ts _ _ _ (SV.tail hl1 HM1.out HC.out fun _ => World.cell?_drewN ..) (SV.tail hl2 HM2.out HD.out fun _ => World.cell?_drewN ..))))
          go_wp2
        all_goals
          go_ret
          exact ⟨ret_bool (by rw [HE.out]; simp), nq, rfl⟩
end Go.Proofs.YtnmfmoimjkoieaaDoor.topWalks
