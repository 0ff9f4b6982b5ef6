import Derived.Test.YtnmfmoimjkoieaaGreatDoorProg
import Derived.Test.YtnmfmoimjkoieaaGreatDoorJ01
import Derived.WalkKit
import Derived.Below
/- What courantref.has answers, for every text and byte: whether the text has the byte; memory is as it was. -/
namespace Go.Proofs.YtnmfmoimjkoieaaGreatDoor.topWalks
open Go.RowKit Go.Proofs.YtnmfmoimjkoieaaGreatDoor.topPlain

theorem hide {p : Prop} (h : p) : Hid p := h
theorem unhide {p : Prop} (h : Hid p) : p := h
theorem ret_bool {a b : Bool} (h : a = b) : Ending.returned (.bool a) = .returned (.bool b) := by rw [h]
theorem get_list (s : ByteArray) (k : Nat) (h : k < s.size) : s.data.toList[k]? = some s[k] := Lib.data_getElem? s k h

/-- none of the first i bytes is c -/
def NoB (l : List UInt8) (c : UInt8) (i : Nat) : Prop := ∀ (j : Nat) b, j < i → l[j]? = some b → b ≠ c
theorem NoB.zero (l : List UInt8) (c : UInt8) : NoB l c 0 := fun _ _ h => absurd h (Nat.not_lt_zero _)
theorem NoB.succ {l : List UInt8} {c : UInt8} {i : Nat} {x : UInt8} (h : NoB l c i) (hx : l[i]? = some x) (hn : x ≠ c) : NoB l c (i + 1) := fun j b hj hb => by
  by_cases e : j = i
  · subst e; rw [hx] at hb; cases hb; exact hn
  · exact h j b (by omega) hb
theorem NoB.done {l : List UInt8} {c : UInt8} (h : NoB l c l.length) : hasB l c = false := by
  cases hh : hasB l c
  · rfl
  · have hm : c ∈ l := List.contains_iff_mem.1 hh
    obtain ⟨j, hj, e⟩ := List.getElem_of_mem hm
    exact absurd rfl (h j c hj (by rw [List.getElem?_eq_getElem hj, e]))
theorem has_at {l : List UInt8} {c : UInt8} {i : Nat} (h : l[i]? = some c) : hasB l c = true := List.contains_iff_mem.2 (List.mem_of_getElem? h)

set_option maxHeartbeats 400000 in
theorem has_any (s : ByteArray) (c : UInt8) (w : World) (hs : s.size ≤ maxLen) :
    Calls Tryz.prog 135 #[.string s, .int .u8 (c.toNat : Int)] w fun e w' => e = .returned (.bool (hasB s.data.toList c)) ∧ w' = w := by
  unfold maxLen at hs
  go_enter Tryz.func135, Tryz.ntmps135
  go_wp2
  go_loop [5] (fun i => ∃ k : Nat, k ≤ s.size ∧ i = .int .i64 k ∧ NoB s.data.toList c k) (fun i => s.size - (intOf i).toNat)
  case atStart => exact ⟨0, Nat.zero_le _, rfl, NoB.zero _ _⟩
  case round =>
    obtain ⟨k, hk, rfl, hno⟩ := hrel
    have HN : Hid (NoB s.data.toList c k) := hno
    clear hno
    by_cases hlt : k < s.size
    · obtain ⟨x, hx⟩ : ∃ x : UInt8, s[k]'hlt = x := ⟨_, rfl⟩
      have HX : Hid (s.data.toList[k]? = some x) := by rw [← hx]; exact get_list s k hlt
      by_cases hc : x = c
      · subst hc
        go_wp2
        go_ret
        exact ⟨ret_bool (has_at HX.out).symm, rfl⟩
      · have hne : ((x.toNat : Int) == (c.toNat : Int)) = false := beq_eq_false_iff_ne.2 (fun e => hc (UInt8.toNat_inj.1 (by omega)))
        have HC : Hid (x ≠ c) := hc
        clear hc
        go_wp2
        go_round
        case rel => exact ⟨k + 1, by omega, by go_num, HN.out.succ HX.out HC.out⟩
        case measure => simp [intOf]; omega
    · go_wp2
      go_ret
      obtain rfl : k = s.size := by omega
      exact ⟨ret_bool (NoB.done (by rw [← Lib.size_eq]; exact HN.out)).symm, rfl⟩

theorem has_43 (s : ByteArray) (w : World) (hs : s.size ≤ maxLen) :
    Calls Tryz.prog 135 #[.string s, .int .u8 43] w fun e w' => e = .returned (.bool (hasB s.data.toList 43)) ∧ w' = w := has_any s 43 w hs
theorem has_35 (s : ByteArray) (w : World) (hs : s.size ≤ maxLen) :
    Calls Tryz.prog 135 #[.string s, .int .u8 35] w fun e w' => e = .returned (.bool (hasB s.data.toList 35)) ∧ w' = w := has_any s 35 w hs
theorem has_0 (s : ByteArray) (w : World) (hs : s.size ≤ maxLen) :
    Calls Tryz.prog 135 #[.string s, .int .u8 0] w fun e w' => e = .returned (.bool (hasB s.data.toList 0)) ∧ w' = w := has_any s 0 w hs
end Go.Proofs.YtnmfmoimjkoieaaGreatDoor.topWalks
