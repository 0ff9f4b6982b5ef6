/- Plain laws on lists of bytes: names, levels between slashes, what a filter is, when a filter matches a topic. No program is named here. -/
import Derived.Lib.Split
import Derived.Lib.IndexAny
import Derived.Lib.IndexBytes
import Derived.Lib.ValidU
namespace Go.Proofs.YtnmfmoimjkoieaaDoor.topPlain
open Go

def bs (l : List UInt8) : ByteArray := ⟨l.toArray⟩
theorem bs_data (s : ByteArray) : bs s.data.toList = s := by cases s; rfl
theorem data_bs (l : List UInt8) : (bs l).data.toList = l := rfl
theorem ba_ext {a b : ByteArray} (h : a.data.toList = b.data.toList) : a = b := by rw [← bs_data a, h, bs_data]

/-- has a text a byte? -/
def hasB (l : List UInt8) (c : UInt8) : Bool := l.contains c

/-- a name of 1 to 30 bytes -/
def nameB (least most : Int) (l : List UInt8) : Bool := decide (least ≤ (l.length : Int)) && decide ((l.length : Int) ≤ most) && !hasB l 0 && Lib.validD l

/-- put in front of the first piece -/
def pre (p : List UInt8) : List (List UInt8) → List (List UInt8)
  | [] => [p]
  | h :: t => (p ++ h) :: t
/-- what stands between the slashes -/
def lev : List UInt8 → List (List UInt8)
  | [] => [[]]
  | c :: l => if c == 47 then [] :: lev l else pre [c] (lev l)

theorem lev_ne (l : List UInt8) : lev l ≠ [] := by
  cases l with
  | nil => simp [lev]
  | cons c l =>
    unfold lev
    split
    · simp
    · cases lev l <;> simp [pre]
theorem pre_nil {x : List (List UInt8)} (h : x ≠ []) : pre [] x = x := by cases x with
  | nil => exact absurd rfl h
  | cons a t => rfl
theorem pre_pre (p q : List UInt8) (x : List (List UInt8)) (h : x ≠ []) : pre p (pre q x) = pre (p ++ q) x := by cases x with
  | nil => exact absurd rfl h
  | cons a t => simp [pre]
theorem lev_slash (l : List UInt8) : lev (47 :: l) = [] :: lev l := by simp [lev]
theorem lev_other {c : UInt8} (l : List UInt8) (h : c ≠ 47) : lev (c :: l) = pre [c] (lev l) := by simp [lev, h]
theorem lev_length_le (l : List UInt8) : (lev l).length ≤ l.length + 1 := by
  induction l with
  | nil => simp [lev]
  | cons c l ih =>
    unfold lev
    split
    · simpa using ih
    · cases h : lev l with
      | nil => simp [pre]
      | cons a t => rw [h] at ih; simp [pre] at ih ⊢; omega

theorem lev_mem_le (l : List UInt8) : ∀ x ∈ lev l, x.length ≤ l.length := by
  induction l with
  | nil => intro x hx; simp [lev] at hx; subst hx; simp
  | cons c l ih =>
    intro x hx
    unfold lev at hx
    split at hx
    · simp at hx
      rcases hx with rfl | hx
      · simp
      · have := ih x hx; simp; omega
    · cases hl : lev l with
      | nil => exact absurd hl (lev_ne l)
      | cons a t =>
        rw [hl] at hx ih
        simp [pre] at hx
        rcases hx with rfl | hx
        · have := ih a (by simp); simp; omega
        · have := ih x (by simp [hx]); simp; omega

/-- behind the first i bytes, 'at' where the piece under way begins -/
def Lv (s : List UInt8) (acc : List (List UInt8)) (k i : Nat) : Prop := lev s = acc ++ pre ((s.drop k).take (i - k)) (lev (s.drop i))
theorem Lv.start (s : List UInt8) : Lv s [] 0 0 := by simp [Lv, pre_nil (lev_ne s)]
theorem Lv.next {s : List UInt8} {acc : List (List UInt8)} {k i : Nat} (h : Lv s acc k i) (hk : k ≤ i) {c : UInt8} (hc : s[i]? = some c) (hn : c ≠ 47) : Lv s acc k (i + 1) := by
  unfold Lv at h ⊢
  have hi : i < s.length := (List.getElem?_eq_some_iff.1 hc).1
  have hd : s.drop i = c :: s.drop (i + 1) := by
    rw [List.drop_eq_getElem_cons hi]
    congr 1
    exact (List.getElem?_eq_some_iff.1 hc).2
  rw [h, hd, lev_other _ hn, pre_pre _ _ _ (lev_ne _)]
  congr 2
  have e : i + 1 - k = (i - k) + 1 := by omega
  rw [e, List.take_add_one]
  congr 1
  rw [List.getElem?_drop, show k + (i - k) = i by omega, hc]
  rfl
theorem Lv.cut {s : List UInt8} {acc : List (List UInt8)} {k i : Nat} (h : Lv s acc k i) (hc : s[i]? = some 47) : Lv s (acc ++ [(s.drop k).take (i - k)]) (i + 1) (i + 1) := by
  unfold Lv at h ⊢
  have hi : i < s.length := (List.getElem?_eq_some_iff.1 hc).1
  have hd : s.drop i = 47 :: s.drop (i + 1) := by
    rw [List.drop_eq_getElem_cons hi]
    congr 1
    exact (List.getElem?_eq_some_iff.1 hc).2
  rw [h, hd, lev_slash, Nat.sub_self, List.take_zero, pre_nil (lev_ne _)]
  simp [pre]
theorem Lv.last {s : List UInt8} {acc : List (List UInt8)} {k : Nat} (h : Lv s acc k s.length) : acc ++ [(s.drop k).take (s.length - k)] = lev s := by
  unfold Lv at h
  rw [h, List.drop_length]
  simp [lev, pre]

/-- strings.Split at a slash cuts the same levels -/
theorem lev_miss : ∀ (l : List UInt8), Lib.indexByte l 47 = -1 → lev l = [l]
  | [], _ => rfl
  | c :: l, h => by
    unfold Lib.indexByte at h
    by_cases hc : c = 47
    · subst hc; simp at h
    · have hb : (c == 47) = false := by simpa using hc
      rw [hb] at h
      have hge := Lib.indexByte_ge l 47
      by_cases e : Lib.indexByte l 47 = -1
      · rw [lev_other _ hc, lev_miss l e]; rfl
      · have e' : (Lib.indexByte l 47 == -1) = false := by simpa using e
        simp [e'] at h
        omega
theorem lev_hit : ∀ (l : List UInt8) (i : Nat), Lib.indexByte l 47 = i → lev l = l.take i :: lev (l.drop (i + 1))
  | [], i, h => by simp [Lib.indexByte] at h
  | c :: l, i, h => by
    unfold Lib.indexByte at h
    by_cases hc : c = 47
    · subst hc
      simp at h
      obtain rfl : i = 0 := by omega
      simp [lev_slash]
    · have hb : (c == 47) = false := by simpa using hc
      rw [hb] at h
      by_cases e : Lib.indexByte l 47 = -1
      · simp [e] at h
      · have e' : (Lib.indexByte l 47 == -1) = false := by simpa using e
        simp [e'] at h
        have hge := Lib.indexByte_ge l 47
        obtain ⟨j, rfl⟩ : ∃ j, i = j + 1 := ⟨i - 1, by omega⟩
        have ih := lev_hit l j (by omega)
        rw [lev_other _ hc, ih]
        simp [pre]
theorem splitK_lev : ∀ (n : Nat) (l : List UInt8), l.length ≤ n → Lib.splitK [47] 0 (Lib.count l [47]) l = lev l
  | n, l, hn => by
    rcases Int.lt_or_le (Lib.index l [47]) 0 with h | h
    · have hge := Lib.index_ge l [47]
      have e : Lib.index l [47] = -1 := by omega
      rw [Lib.count_miss e]
      rw [Lib.index_one] at e
      rw [lev_miss l e]
      rfl
    · obtain ⟨i, hi⟩ : ∃ i : Nat, Lib.index l [47] = i := ⟨(Lib.index l [47]).toNat, by omega⟩
      rw [Lib.count_hit (by simp) hi]
      have hr := Lib.index_room l [47] h
      simp only [List.length_cons, List.length_nil] at hr
      have hd : (l.drop (i + [(47 : UInt8)].length)).length < l.length := by simp; omega
      rw [Nat.add_comm, Lib.splitK, if_neg (by rw [hi]; simp), hi]
      simp only [Int.toNat_natCast, Nat.add_zero, List.length_cons, List.length_nil] at hd ⊢
      have e1 : Lib.indexByte l 47 = i := by rw [← Lib.index_one]; exact hi
      rw [lev_hit l i e1]
      cases n with
      | zero => omega
      | succ n => rw [splitK_lev n _ (by omega)]
theorem count_lev : ∀ (n : Nat) (l : List UInt8), l.length ≤ n → Lib.count l [47] + 1 = (lev l).length
  | n, l, hn => by
    rcases Int.lt_or_le (Lib.index l [47]) 0 with h | h
    · have hge := Lib.index_ge l [47]
      have e : Lib.index l [47] = -1 := by omega
      rw [Lib.count_miss e]
      rw [Lib.index_one] at e
      rw [lev_miss l e]
      rfl
    · obtain ⟨i, hi⟩ : ∃ i : Nat, Lib.index l [47] = i := ⟨(Lib.index l [47]).toNat, by omega⟩
      rw [Lib.count_hit (by simp) hi]
      have hr := Lib.index_room l [47] h
      simp only [List.length_cons, List.length_nil] at hr
      have hd : (l.drop (i + 1)).length < l.length := by simp; omega
      simp only [List.length_cons, List.length_nil, Nat.zero_add]
      have e1 : Lib.indexByte l 47 = i := by rw [← Lib.index_one]; exact hi
      rw [lev_hit l i e1]
      cases n with
      | zero => omega
      | succ n =>
        have := count_lev n (l.drop (i + 1)) (by omega)
        simp only [List.length_cons] at this ⊢
        omega
theorem splitB_lev (s : ByteArray) : Lib.splitB (bs [47]) 0 (Lib.countB s (bs [47])) s = (lev s.data.toList).map bs := by
  have h := Lib.splitB_data (bs [47]) 0 (Lib.countB s (bs [47])) s
  have h2 : Lib.splitK [47] 0 (Lib.count s.data.toList [47]) s.data.toList = lev s.data.toList := splitK_lev _ _ (Nat.le_refl _)
  have h3 : (Lib.splitB (bs [47]) 0 (Lib.countB s (bs [47])) s).map (·.data.toList) = lev s.data.toList := h.trans h2
  rw [← h3, List.map_map]
  conv => lhs; rw [← List.map_id (Lib.splitB (bs [47]) 0 (Lib.countB s (bs [47])) s)]
  apply List.map_congr_left
  intro x _
  exact (bs_data x).symm

/-- may a level stand in a filter? 'last': it is the last one -/
def okLev (x : List UInt8) (last : Bool) : Bool := if hasB x 35 then x == [35] && last else x == [43] || !hasB x 43
/-- all levels from place i of n on -/
def okLevs : List (List UInt8) → Bool
  | [] => true
  | x :: r => okLev x r.isEmpty && okLevs r
theorem okLevs_drop (l : List (List UInt8)) (i : Nat) (h : i < l.length) : okLevs (l.drop i) = (okLev l[i] (decide (i + 1 = l.length)) && okLevs (l.drop (i + 1))) := by
  rw [List.drop_eq_getElem_cons h, okLevs]
  congr 2
  cases hd : l.drop (i + 1) with
  | nil => have := List.drop_eq_nil_iff.1 hd; rw [List.isEmpty_nil]; exact (decide_eq_true (by omega)).symm
  | cons a t =>
    have : (l.drop (i + 1)).length = (a :: t).length := by rw [hd]
    simp only [List.length_drop, List.length_cons] at this
    rw [List.isEmpty_cons]
    exact (decide_eq_false (by omega)).symm
theorem okLev_ref (x : List UInt8) (last : Bool) : okLev x last = !(hasB x 43 && !(x == [43]) || hasB x 35 && (!(x == [35]) || !last)) := by
  unfold okLev
  by_cases e : x = [35]
  · subst e; cases last <;> decide
  · have e' : (x == [35]) = false := by simpa using e
    rw [e']
    cases hasB x 35 <;> cases hasB x 43 <;> cases (x == [43]) <;> cases last <;> rfl

def filterB (l : List UInt8) : Bool := nameB 1 30 l && okLevs (lev l)
def topicB (l : List UInt8) : Bool := nameB 1 30 l && !(hasB l 43 || hasB l 35)

/-- levels of a filter and of a topic, one by one -/
def lvl : List (List UInt8) → List (List UInt8) → Bool
  | [], t => t.isEmpty
  | f :: fs, t => f == [35] || (match t with
    | [] => false
    | x :: ts => (f == [43] || f == x) && lvl fs ts)
def wild (l : List UInt8) : Bool := l.head? == some 43 || l.head? == some 35
def mB (f t : List UInt8) : Bool := filterB f && topicB t && !(t.head? == some 36 && wild f) && lvl (lev f) (lev t)

theorem lvl_hash (f t : List (List UInt8)) (i : Nat) (h : f[i]? = some [35]) : lvl (f.drop i) (t.drop i) = true := by
  have hi : i < f.length := (List.getElem?_eq_some_iff.1 h).1
  rw [List.drop_eq_getElem_cons hi, (List.getElem?_eq_some_iff.1 h).2]
  simp [lvl]
theorem lvl_short (f t : List (List UInt8)) (i : Nat) {x : List UInt8} (h : f[i]? = some x) (hx : x ≠ [35]) (ht : t.length ≤ i) : lvl (f.drop i) (t.drop i) = false := by
  have hi : i < f.length := (List.getElem?_eq_some_iff.1 h).1
  rw [List.drop_eq_getElem_cons hi, (List.getElem?_eq_some_iff.1 h).2, List.drop_eq_nil_of_le ht]
  simp [lvl, hx]
theorem lvl_step (f t : List (List UInt8)) (i : Nat) {x y : List UInt8} (h : f[i]? = some x) (hx : x ≠ [35]) (ht : t[i]? = some y) : lvl (f.drop i) (t.drop i) = ((x == [43] || x == y) && lvl (f.drop (i + 1)) (t.drop (i + 1))) := by
  have hi : i < f.length := (List.getElem?_eq_some_iff.1 h).1
  have hj : i < t.length := (List.getElem?_eq_some_iff.1 ht).1
  have e : (x == [35]) = false := by simpa using hx
  rw [List.drop_eq_getElem_cons hi, (List.getElem?_eq_some_iff.1 h).2, List.drop_eq_getElem_cons hj, (List.getElem?_eq_some_iff.1 ht).2]
  simp [lvl, e]
theorem lvl_end (f t : List (List UInt8)) (h : f.length ≤ t.length) : lvl (f.drop f.length) (t.drop f.length) = decide (f.length = t.length) := by
  rw [List.drop_length, lvl]
  cases hd : t.drop f.length with
  | nil => have := List.drop_eq_nil_iff.1 hd; rw [List.isEmpty_nil]; exact (decide_eq_true (by omega)).symm
  | cons a r =>
    have : (t.drop f.length).length = (a :: r).length := by rw [hd]
    simp only [List.length_drop, List.length_cons] at this
    rw [List.isEmpty_cons]
    exact (decide_eq_false (by omega)).symm

theorem indexByte_neg (l : List UInt8) (c : UInt8) : decide (Lib.indexByte l c < 0) = !hasB l c := by
  induction l with
  | nil => rfl
  | cons b l ih =>
    unfold Lib.indexByte hasB
    have hge := Lib.indexByte_ge l c
    by_cases h : b = c
    · subst h; simp
    · have hb : (b == c) = false := by simpa using h
      have hc : (c == b) = false := by simpa using fun e => h e.symm
      rw [hb, List.contains_cons, hc, Bool.false_or]
      change _ = !hasB l c
      rw [← ih]
      by_cases e : Lib.indexByte l c = -1
      · simp [e]
      · have e' : (Lib.indexByte l c == -1) = false := by simpa using e
        simp [e']
        omega
theorem indexByte_pos (l : List UInt8) (c : UInt8) : decide (0 ≤ Lib.indexByte l c) = hasB l c := by
  have h := indexByte_neg l c
  by_cases e : 0 ≤ Lib.indexByte l c
  · rw [decide_eq_true e]
    rw [decide_eq_false (by omega)] at h
    cases hh : hasB l c
    · rw [hh] at h; cases h
    · rfl
  · rw [decide_eq_false e]
    rw [decide_eq_true (by omega)] at h
    cases hh : hasB l c
    · rfl
    · rw [hh] at h; cases h

theorem indexAny_pos (l : List UInt8) : decide (0 ≤ Lib.indexAny l [43, 35]) = (hasB l 43 || hasB l 35) := by
  induction l with
  | nil => rfl
  | cons b l ih =>
    unfold Lib.indexAny
    have hge := Lib.indexAny_ge [43, 35] l
    by_cases h : ([43, 35] : List UInt8).contains b = true
    · rw [if_pos h]
      simp at h
      rcases h with h | h <;> subst h <;> simp [hasB]
    · rw [if_neg h]
      simp at h
      have h1 : ((43 : UInt8) == b) = false := by simpa using fun e => h.1 e.symm
      have h2 : ((35 : UInt8) == b) = false := by simpa using fun e => h.2 e.symm
      have e1 : hasB (b :: l) 43 = hasB l 43 := by unfold hasB; rw [List.contains_cons, h1, Bool.false_or]
      have e2 : hasB (b :: l) 35 = hasB l 35 := by unfold hasB; rw [List.contains_cons, h2, Bool.false_or]
      rw [e1, e2, ← ih]
      by_cases e : Lib.indexAny l [43, 35] = -1
      · simp [e]
      · have e' : (Lib.indexAny l [43, 35] == -1) = false := by simpa using e
        rw [e']
        simp
        omega

end Go.Proofs.YtnmfmoimjkoieaaDoor.topPlain
