import Derived.Lib.Split
import Derived.Lib.IndexAny
import Derived.Lib.IndexBytes
import Derived.Lib.ValidU
/- Plain laws on lists of bytes: names, levels between slashes, what a filter is, when a filter matches a topic. No program is named here. Plain: how a body of bytes is read, step by step, as the reader of package packets does it. No program is named here. Plain: how the document's answer reads a body place by place, and that it comes to what the reader of package packets reads. No program is named here. Plain: the bytes of a packet as package packets writes them and as the document writes them. No program is named here. -/
namespace Go.Proofs.YtnmfmoimjkoieaaGreatDoor.topPlain
open Go

def bs (l : List UInt8) : ByteArray := ⟨l.toArray⟩
theorem bs_data (s : ByteArray) : bs s.data.toList = s := by cases s; rfl
theorem data_bs (l : List UInt8) : (bs l).data.toList = l := rfl
theorem ba_ext {a b : ByteArray} (h : a.data.toList = b.data.toList) : a = b := by rw [← bs_data a, h, bs_data]

/-- has a text a byte? -/
def hasB (l : List UInt8) (c : UInt8) : Bool := l.contains c

/-- a name of 1 to 30 bytes -/
def nameB (least most : Int) (l : List UInt8) : Bool := decide (least ≤ (l.length : Int)) && decide ((l.length : Int) ≤ most) && !hasB l 0 && Lib.validD l

/-- put in front of the first piece -/
def pre (p : List UInt8) : List (List UInt8) → List (List UInt8)
  | [] => [p]
  | h :: t => (p ++ h) :: t
/-- what stands between the slashes -/
def lev : List UInt8 → List (List UInt8)
  | [] => [[]]
  | c :: l => if c == 47 then [] :: lev l else pre [c] (lev l)

theorem lev_ne (l : List UInt8) : lev l ≠ [] := by
  cases l with
  | nil => simp [lev]
  | cons c l =>
    unfold lev
    split
    · simp
    · cases lev l <;> simp [pre]
theorem pre_nil {x : List (List UInt8)} (h : x ≠ []) : pre [] x = x := by cases x with
  | nil => exact absurd rfl h
  | cons a t => rfl
theorem pre_pre (p q : List UInt8) (x : List (List UInt8)) (h : x ≠ []) : pre p (pre q x) = pre (p ++ q) x := by cases x with
  | nil => exact absurd rfl h
  | cons a t => simp [pre]
theorem lev_slash (l : List UInt8) : lev (47 :: l) = [] :: lev l := by simp [lev]
theorem lev_other {c : UInt8} (l : List UInt8) (h : c ≠ 47) : lev (c :: l) = pre [c] (lev l) := by simp [lev, h]
theorem lev_length_le (l : List UInt8) : (lev l).length ≤ l.length + 1 := by
  induction l with
  | nil => simp [lev]
  | cons c l ih =>
    unfold lev
    split
    · simpa using ih
    · cases h : lev l with
      | nil => simp [pre]
      | cons a t => rw [h] at ih; simp [pre] at ih ⊢; omega

theorem lev_mem_le (l : List UInt8) : ∀ x ∈ lev l, x.length ≤ l.length := by
  induction l with
  | nil => intro x hx; simp [lev] at hx; subst hx; simp
  | cons c l ih =>
    intro x hx
    unfold lev at hx
    split at hx
    · simp at hx
      rcases hx with rfl | hx
      · simp
      · have := ih x hx; simp; omega
    · cases hl : lev l with
      | nil => exact absurd hl (lev_ne l)
      | cons a t =>
        rw [hl] at hx ih
        simp [pre] at hx
        rcases hx with rfl | hx
        · have := ih a (by simp); simp; omega
        · have := ih x (by simp [hx]); simp; omega

/-- behind the first i bytes, 'at' where the piece under way begins -/
def Lv (s : List UInt8) (acc : List (List UInt8)) (k i : Nat) : Prop := lev s = acc ++ pre ((s.drop k).take (i - k)) (lev (s.drop i))
theorem Lv.start (s : List UInt8) : Lv s [] 0 0 := by simp [Lv, pre_nil (lev_ne s)]
theorem Lv.next {s : List UInt8} {acc : List (List UInt8)} {k i : Nat} (h : Lv s acc k i) (hk : k ≤ i) {c : UInt8} (hc : s[i]? = some c) (hn : c ≠ 47) : Lv s acc k (i + 1) := by
  unfold Lv at h ⊢
  have hi : i < s.length := (List.getElem?_eq_some_iff.1 hc).1
  have hd : s.drop i = c :: s.drop (i + 1) := by
    rw [List.drop_eq_getElem_cons hi]
    congr 1
    exact (List.getElem?_eq_some_iff.1 hc).2
  rw [h, hd, lev_other _ hn, pre_pre _ _ _ (lev_ne _)]
  congr 2
  have e : i + 1 - k = (i - k) + 1 := by omega
  rw [e, List.take_add_one]
  congr 1
  rw [List.getElem?_drop, show k + (i - k) = i by omega, hc]
  rfl
theorem Lv.cut {s : List UInt8} {acc : List (List UInt8)} {k i : Nat} (h : Lv s acc k i) (hc : s[i]? = some 47) : Lv s (acc ++ [(s.drop k).take (i - k)]) (i + 1) (i + 1) := by
  unfold Lv at h ⊢
  have hi : i < s.length := (List.getElem?_eq_some_iff.1 hc).1
  have hd : s.drop i = 47 :: s.drop (i + 1) := by
    rw [List.drop_eq_getElem_cons hi]
    congr 1
    exact (List.getElem?_eq_some_iff.1 hc).2
  rw [h, hd, lev_slash, Nat.sub_self, List.take_zero, pre_nil (lev_ne _)]
  simp [pre]
theorem Lv.last {s : List UInt8} {acc : List (List UInt8)} {k : Nat} (h : Lv s acc k s.length) : acc ++ [(s.drop k).take (s.length - k)] = lev s := by
  unfold Lv at h
  rw [h, List.drop_length]
  simp [lev, pre]

/-- strings.Split at a slash cuts the same levels -/
theorem lev_miss : ∀ (l : List UInt8), Lib.indexByte l 47 = -1 → lev l = [l]
  | [], _ => rfl
  | c :: l, h => by
    unfold Lib.indexByte at h
    by_cases hc : c = 47
    · subst hc; simp at h
    · have hb : (c == 47) = false := by simpa using hc
      rw [hb] at h
      have hge := Lib.indexByte_ge l 47
      by_cases e : Lib.indexByte l 47 = -1
      · rw [lev_other _ hc, lev_miss l e]; rfl
      · have e' : (Lib.indexByte l 47 == -1) = false := by simpa using e
        simp [e'] at h
        omega
theorem lev_hit : ∀ (l : List UInt8) (i : Nat), Lib.indexByte l 47 = i → lev l = l.take i :: lev (l.drop (i + 1))
  | [], i, h => by simp [Lib.indexByte] at h
  | c :: l, i, h => by
    unfold Lib.indexByte at h
    by_cases hc : c = 47
    · subst hc
      simp at h
      obtain rfl : i = 0 := by omega
      simp [lev_slash]
    · have hb : (c == 47) = false := by simpa using hc
      rw [hb] at h
      by_cases e : Lib.indexByte l 47 = -1
      · simp [e] at h
      · have e' : (Lib.indexByte l 47 == -1) = false := by simpa using e
        simp [e'] at h
        have hge := Lib.indexByte_ge l 47
        obtain ⟨j, rfl⟩ : ∃ j, i = j + 1 := ⟨i - 1, by omega⟩
        have ih := lev_hit l j (by omega)
        rw [lev_other _ hc, ih]
        simp [pre]
theorem splitK_lev : ∀ (n : Nat) (l : List UInt8), l.length ≤ n → Lib.splitK [47] 0 (Lib.count l [47]) l = lev l
  | n, l, hn => by
    rcases Int.lt_or_le (Lib.index l [47]) 0 with h | h
    · have hge := Lib.index_ge l [47]
      have e : Lib.index l [47] = -1 := by omega
      rw [Lib.count_miss e]
      rw [Lib.index_one] at e
      rw [lev_miss l e]
      rfl
    · obtain ⟨i, hi⟩ : ∃ i : Nat, Lib.index l [47] = i := ⟨(Lib.index l [47]).toNat, by omega⟩
      rw [Lib.count_hit (by simp) hi]
      have hr := Lib.index_room l [47] h
      simp only [List.length_cons, List.length_nil] at hr
      have hd : (l.drop (i + [(47 : UInt8)].length)).length < l.length := by simp; omega
      rw [Nat.add_comm, Lib.splitK, if_neg (by rw [hi]; simp), hi]
      simp only [Int.toNat_natCast, Nat.add_zero, List.length_cons, List.length_nil] at hd ⊢
      have e1 : Lib.indexByte l 47 = i := by rw [← Lib.index_one]; exact hi
      rw [lev_hit l i e1]
      cases n with
      | zero => omega
      | succ n => rw [splitK_lev n _ (by omega)]
theorem count_lev : ∀ (n : Nat) (l : List UInt8), l.length ≤ n → Lib.count l [47] + 1 = (lev l).length
  | n, l, hn => by
    rcases Int.lt_or_le (Lib.index l [47]) 0 with h | h
    · have hge := Lib.index_ge l [47]
      have e : Lib.index l [47] = -1 := by omega
      rw [Lib.count_miss e]
      rw [Lib.index_one] at e
      rw [lev_miss l e]
      rfl
    · obtain ⟨i, hi⟩ : ∃ i : Nat, Lib.index l [47] = i := ⟨(Lib.index l [47]).toNat, by omega⟩
      rw [Lib.count_hit (by simp) hi]
      have hr := Lib.index_room l [47] h
      simp only [List.length_cons, List.length_nil] at hr
      have hd : (l.drop (i + 1)).length < l.length := by simp; omega
      simp only [List.length_cons, List.length_nil, Nat.zero_add]
      have e1 : Lib.indexByte l 47 = i := by rw [← Lib.index_one]; exact hi
      rw [lev_hit l i e1]
      cases n with
      | zero => omega
      | succ n =>
        have := count_lev n (l.drop (i + 1)) (by omega)
        simp only [List.length_cons] at this ⊢
        omega
theorem splitB_lev (s : ByteArray) : Lib.splitB (bs [47]) 0 (Lib.countB s (bs [47])) s = (lev s.data.toList).map bs := by
  have h := Lib.splitB_data (bs [47]) 0 (Lib.countB s (bs [47])) s
  have h2 : Lib.splitK [47] 0 (Lib.count s.data.toList [47]) s.data.toList = lev s.data.toList := splitK_lev _ _ (Nat.le_refl _)
  have h3 : (Lib.splitB (bs [47]) 0 (Lib.countB s (bs [47])) s).map (·.data.toList) = lev s.data.toList := h.trans h2
  rw [← h3, List.map_map]
  conv => lhs; rw [← List.map_id (Lib.splitB (bs [47]) 0 (Lib.countB s (bs [47])) s)]
  apply List.map_congr_left
  intro x _
  exact (bs_data x).symm

/-- may a level stand in a filter? 'last': it is the last one -/
def okLev (x : List UInt8) (last : Bool) : Bool := if hasB x 35 then x == [35] && last else x == [43] || !hasB x 43
/-- all levels from place i of n on -/
def okLevs : List (List UInt8) → Bool
  | [] => true
  | x :: r => okLev x r.isEmpty && okLevs r
theorem okLevs_drop (l : List (List UInt8)) (i : Nat) (h : i < l.length) : okLevs (l.drop i) = (okLev l[i] (decide (i + 1 = l.length)) && okLevs (l.drop (i + 1))) := by
  rw [List.drop_eq_getElem_cons h, okLevs]
  congr 2
  cases hd : l.drop (i + 1) with
  | nil => have := List.drop_eq_nil_iff.1 hd; rw [List.isEmpty_nil]; exact (decide_eq_true (by omega)).symm
  | cons a t =>
    have : (l.drop (i + 1)).length = (a :: t).length := by rw [hd]
    simp only [List.length_drop, List.length_cons] at this
    rw [List.isEmpty_cons]
    exact (decide_eq_false (by omega)).symm
theorem okLev_ref (x : List UInt8) (last : Bool) : okLev x last = !(hasB x 43 && !(x == [43]) || hasB x 35 && (!(x == [35]) || !last)) := by
  unfold okLev
  by_cases e : x = [35]
  · subst e; cases last <;> decide
  · have e' : (x == [35]) = false := by simpa using e
    rw [e']
    cases hasB x 35 <;> cases hasB x 43 <;> cases (x == [43]) <;> cases last <;> rfl

def filterB (l : List UInt8) : Bool := nameB 1 30 l && okLevs (lev l)
def topicB (l : List UInt8) : Bool := nameB 1 30 l && !(hasB l 43 || hasB l 35)

/-- levels of a filter and of a topic, one by one -/
def lvl : List (List UInt8) → List (List UInt8) → Bool
  | [], t => t.isEmpty
  | f :: fs, t => f == [35] || (match t with
    | [] => false
    | x :: ts => (f == [43] || f == x) && lvl fs ts)
def wild (l : List UInt8) : Bool := l.head? == some 43 || l.head? == some 35
def mB (f t : List UInt8) : Bool := filterB f && topicB t && !(t.head? == some 36 && wild f) && lvl (lev f) (lev t)

theorem lvl_hash (f t : List (List UInt8)) (i : Nat) (h : f[i]? = some [35]) : lvl (f.drop i) (t.drop i) = true := by
  have hi : i < f.length := (List.getElem?_eq_some_iff.1 h).1
  rw [List.drop_eq_getElem_cons hi, (List.getElem?_eq_some_iff.1 h).2]
  simp [lvl]
theorem lvl_short (f t : List (List UInt8)) (i : Nat) {x : List UInt8} (h : f[i]? = some x) (hx : x ≠ [35]) (ht : t.length ≤ i) : lvl (f.drop i) (t.drop i) = false := by
  have hi : i < f.length := (List.getElem?_eq_some_iff.1 h).1
  rw [List.drop_eq_getElem_cons hi, (List.getElem?_eq_some_iff.1 h).2, List.drop_eq_nil_of_le ht]
  simp [lvl, hx]
theorem lvl_step (f t : List (List UInt8)) (i : Nat) {x y : List UInt8} (h : f[i]? = some x) (hx : x ≠ [35]) (ht : t[i]? = some y) : lvl (f.drop i) (t.drop i) = ((x == [43] || x == y) && lvl (f.drop (i + 1)) (t.drop (i + 1))) := by
  have hi : i < f.length := (List.getElem?_eq_some_iff.1 h).1
  have hj : i < t.length := (List.getElem?_eq_some_iff.1 ht).1
  have e : (x == [35]) = false := by simpa using hx
  rw [List.drop_eq_getElem_cons hi, (List.getElem?_eq_some_iff.1 h).2, List.drop_eq_getElem_cons hj, (List.getElem?_eq_some_iff.1 ht).2]
  simp [lvl, e]
theorem lvl_end (f t : List (List UInt8)) (h : f.length ≤ t.length) : lvl (f.drop f.length) (t.drop f.length) = decide (f.length = t.length) := by
  rw [List.drop_length, lvl]
  cases hd : t.drop f.length with
  | nil => have := List.drop_eq_nil_iff.1 hd; rw [List.isEmpty_nil]; exact (decide_eq_true (by omega)).symm
  | cons a r =>
    have : (t.drop f.length).length = (a :: r).length := by rw [hd]
    simp only [List.length_drop, List.length_cons] at this
    rw [List.isEmpty_cons]
    exact (decide_eq_false (by omega)).symm

theorem indexByte_neg (l : List UInt8) (c : UInt8) : decide (Lib.indexByte l c < 0) = !hasB l c := by
  induction l with
  | nil => rfl
  | cons b l ih =>
    unfold Lib.indexByte hasB
    have hge := Lib.indexByte_ge l c
    by_cases h : b = c
    · subst h; simp
    · have hb : (b == c) = false := by simpa using h
      have hc : (c == b) = false := by simpa using fun e => h e.symm
      rw [hb, List.contains_cons, hc, Bool.false_or]
      change _ = !hasB l c
      rw [← ih]
      by_cases e : Lib.indexByte l c = -1
      · simp [e]
      · have e' : (Lib.indexByte l c == -1) = false := by simpa using e
        simp [e']
        omega
theorem indexByte_pos (l : List UInt8) (c : UInt8) : decide (0 ≤ Lib.indexByte l c) = hasB l c := by
  have h := indexByte_neg l c
  by_cases e : 0 ≤ Lib.indexByte l c
  · rw [decide_eq_true e]
    rw [decide_eq_false (by omega)] at h
    cases hh : hasB l c
    · rw [hh] at h; cases h
    · rfl
  · rw [decide_eq_false e]
    rw [decide_eq_true (by omega)] at h
    cases hh : hasB l c
    · rfl
    · rw [hh] at h; cases h

theorem indexAny_pos (l : List UInt8) : decide (0 ≤ Lib.indexAny l [43, 35]) = (hasB l 43 || hasB l 35) := by
  induction l with
  | nil => rfl
  | cons b l ih =>
    unfold Lib.indexAny
    have hge := Lib.indexAny_ge [43, 35] l
    by_cases h : ([43, 35] : List UInt8).contains b = true
    · rw [if_pos h]
      simp at h
      rcases h with h | h <;> subst h <;> simp [hasB]
    · rw [if_neg h]
      simp at h
      have h1 : ((43 : UInt8) == b) = false := by simpa using fun e => h.1 e.symm
      have h2 : ((35 : UInt8) == b) = false := by simpa using fun e => h.2 e.symm
      have e1 : hasB (b :: l) 43 = hasB l 43 := by unfold hasB; rw [List.contains_cons, h1, Bool.false_or]
      have e2 : hasB (b :: l) 35 = hasB l 35 := by unfold hasB; rw [List.contains_cons, h2, Bool.false_or]
      rw [e1, e2, ← ih]
      by_cases e : Lib.indexAny l [43, 35] = -1
      · simp [e]
      · have e' : (Lib.indexAny l [43, 35] == -1) = false := by simpa using e
        rw [e']
        simp
        omega

end Go.Proofs.YtnmfmoimjkoieaaGreatDoor.topPlain

namespace Go.Proofs.YtnmfmoimjkoieaaGreatDoor.decPlain
open Go Go.Proofs.YtnmfmoimjkoieaaGreatDoor.topPlain

/-- what is left to read; none: something was wrong -/
def wantS (so : Bool) (st : Option (List UInt8)) : Option (List UInt8) := if so then st else none
def octS : Option (List UInt8) → Nat × Option (List UInt8)
  | some (x :: r) => (x.toNat, some r)
  | _ => (0, none)
def numS (st : Option (List UInt8)) : Nat × Option (List UInt8) := (256 * (octS st).1 + (octS (octS st).2).1, (octS (octS st).2).2)
def bytS (n : Nat) : Option (List UInt8) → List UInt8 × Option (List UInt8)
  | some l => if n ≤ l.length then (l.take n, some (l.drop n)) else ([], none)
  | none => ([], none)
def txtS (st : Option (List UInt8)) : List UInt8 × Option (List UInt8) := bytS (numS st).1 (numS st).2
def idS (st : Option (List UInt8)) : Nat × Option (List UInt8) := ((numS st).1, wantS (decide (0 < (numS st).1)) (numS st).2)
def topS (st : Option (List UInt8)) : List UInt8 × Option (List UInt8) := ((txtS st).1, wantS (topicB (txtS st).1) (txtS st).2)
def lenS : Option (List UInt8) → Nat
  | some l => l.length
  | none => 0

theorem wantS_none (so : Bool) : wantS so none = none := by cases so <;> rfl
theorem octS_lt (st : Option (List UInt8)) : (octS st).1 < 256 := by
  unfold octS
  split
  · rename_i x r; exact x.toNat_lt
  · decide
theorem numS_lt (st : Option (List UInt8)) : (numS st).1 < 65536 := by
  have h1 := octS_lt st
  have h2 := octS_lt (octS st).2
  unfold numS
  omega
theorem octS_len (st : Option (List UInt8)) : lenS (octS st).2 ≤ lenS st := by
  unfold octS
  split <;> simp [lenS]
theorem numS_len (st : Option (List UInt8)) : lenS (numS st).2 ≤ lenS st := Nat.le_trans (octS_len _) (octS_len _)
theorem bytS_len (n : Nat) (st : Option (List UInt8)) : lenS (bytS n st).2 ≤ lenS st := by
  unfold bytS
  split
  · split <;> simp [lenS]
  · simp [lenS]
theorem bytS_le (n : Nat) (st : Option (List UInt8)) : (bytS n st).1.length ≤ lenS st := by
  unfold bytS
  split
  · split
    · simp [lenS]; omega
    · simp [lenS]
  · simp [lenS]
theorem wantS_len (so : Bool) (st : Option (List UInt8)) : lenS (wantS so st) ≤ lenS st := by
  cases so <;> simp [wantS, lenS]
theorem txtS_len (st : Option (List UInt8)) : lenS (txtS st).2 ≤ lenS st := Nat.le_trans (bytS_len _ _) (numS_len _)
theorem txtS_le (st : Option (List UInt8)) : (txtS st).1.length ≤ lenS st := Nat.le_trans (bytS_le _ _) (numS_len _)

/-- a packet; its two lists as they lie in memory -/
structure Pkt where
  kind : Int
  clean : Bool
  will : Bool
  keep : Int
  client : List UInt8
  present : Bool
  code : Int
  dup : Bool
  qos : Int
  retain : Bool
  topic : List UInt8
  payload : List UInt8
  id : Int
  fv : Value
  cv : Value

def clientOk (l : List UInt8) : Bool := decide ((l.length : Int) ≤ 10) && (Lib.validD l && !hasB l 0)
def connackS (p : Pkt) (st : Option (List UInt8)) : Pkt × Option (List UInt8) :=
  ({ p with present := decide ((octS st).1 = 1), code := ((octS (wantS (decide ((octS st).1 ≤ 1)) (octS st).2)).1 : Int) },
    wantS (decide ((octS (wantS (decide ((octS st).1 ≤ 1)) (octS st).2)).1 ≤ 5)) (octS (wantS (decide ((octS st).1 ≤ 1)) (octS st).2)).2)
def restS (st : Option (List UInt8)) : List UInt8 × Option (List UInt8) := bytS (lenS st) st
def publishS (p : Pkt) (st : Option (List UInt8)) : Pkt × Option (List UInt8) :=
  if 0 < p.qos then ({ p with topic := (topS st).1, id := ((idS (topS st).2).1 : Int), payload := (restS (idS (topS st).2).2).1 }, (restS (idS (topS st).2).2).2)
  else ({ p with topic := (topS st).1, payload := (restS (topS st).2).1 }, (restS (topS st).2).2)
/-- the byte of bits -/
def bitP (p : Pkt) (b : Nat) : Pkt := { p with clean := decide (b / 2 % 2 = 1), will := decide (b / 4 % 2 = 1), qos := ((b / 8 % 4 : Nat) : Int), retain := decide (b / 32 % 2 = 1) }
def bitOk (b : Nat) : Bool := (decide (b % 2 = 0) && decide (b < 64)) && decide (b / 8 % 4 ≤ 2) && (decide (b / 4 % 2 = 1) || decide (b / 8 % 4 = 0) && !decide (b / 32 % 2 = 1))
def bitsS (p : Pkt) (st : Option (List UInt8)) : Pkt × Option (List UInt8) := (bitP p (octS st).1, wantS (bitOk (octS st).1) (octS st).2)
def protoS (st : Option (List UInt8)) : Option (List UInt8) := wantS ((txtS st).1 == [77, 81, 84, 84]) (txtS st).2
def levelS (st : Option (List UInt8)) : Option (List UInt8) := wantS (decide ((octS st).1 = 4)) (octS st).2
def connectS (p : Pkt) (st : Option (List UInt8)) : Pkt × Option (List UInt8) :=
  let b := bitsS p (levelS (protoS st))
  let n := numS b.2
  let c := txtS n.2
  let s := wantS (clientOk c.1) c.2
  let q : Pkt := { b.1 with keep := (n.1 : Int), client := c.1 }
  if b.1.will then ({ q with topic := (topS s).1, payload := (txtS (topS s).2).1 }, (txtS (topS s).2).2) else (q, s)
def codeOk (x : Nat) : Bool := decide (x ≤ 2) || decide (x = 128)
def codL : List UInt8 → List Int → List Int × Option (List UInt8)
  | [], acc => (acc, some [])
  | x :: r, acc => if codeOk x.toNat then codL r (acc ++ [(x.toNat : Int)]) else (acc ++ [(x.toNat : Int)], none)
def codR (st : Option (List UInt8)) (acc : List Int) : List Int × Option (List UInt8) := match st with
  | some l => codL l acc
  | none => (acc, none)
/-- the codes of a SUBACK, behind its Id -/
def codesS (st : Option (List UInt8)) : List Int × Option (List UInt8) := codR (wantS (decide (0 < lenS st)) st) []
theorem codR_step (x : UInt8) (r : List UInt8) (acc : List Int) : codR (some (x :: r)) acc = codR (wantS (codeOk x.toNat) (some r)) (acc ++ [(x.toNat : Int)]) := by
  show codL (x :: r) acc = _
  rw [codL]
  cases codeOk x.toNat <;> simp [wantS, codR]

/-- one filter of a SUBSCRIBE (asked: with its QoS), or an UNSUBSCRIBE -/
def filStep (k8 : Bool) (st : Option (List UInt8)) : (List UInt8 × Int) × Option (List UInt8) :=
  if k8 then (((txtS st).1, ((octS (wantS (filterB (txtS st).1) (txtS st).2)).1 : Int)), wantS (decide ((octS (wantS (filterB (txtS st).1) (txtS st).2)).1 ≤ 2)) (octS (wantS (filterB (txtS st).1) (txtS st).2)).2)
  else (((txtS st).1, 0), wantS (filterB (txtS st).1) (txtS st).2)
def filF (k8 : Bool) : Nat → Option (List UInt8) → List (List UInt8 × Int) → List (List UInt8 × Int) × Option (List UInt8)
  | 0, st, acc => (acc, st)
  | n + 1, st, acc => if lenS st = 0 then (acc, st) else filF k8 n (filStep k8 st).2 (acc ++ [(filStep k8 st).1])
def filR (k8 : Bool) (st : Option (List UInt8)) (acc : List (List UInt8 × Int)) : List (List UInt8 × Int) × Option (List UInt8) := filF k8 (lenS st) st acc
def filtersS (k8 : Bool) (st : Option (List UInt8)) : List (List UInt8 × Int) × Option (List UInt8) := filR k8 (wantS (decide (0 < lenS st)) st) []
theorem numS_lt_len (st : Option (List UInt8)) (h : 0 < lenS st) : lenS (numS st).2 < lenS st := by
  unfold numS
  cases st with
  | none => simp [lenS] at h
  | some l => match l, h with
    | [x], _ => simp [octS, lenS]
    | x :: y :: r, _ => simp [octS, lenS]; omega
theorem txtS_lt_len (st : Option (List UInt8)) (h : 0 < lenS st) : lenS (txtS st).2 < lenS st := Nat.lt_of_le_of_lt (bytS_len _ _) (numS_lt_len st h)
theorem filStep_lt (k8 : Bool) (st : Option (List UInt8)) (h : 0 < lenS st) : lenS (filStep k8 st).2 < lenS st := by
  have h1 := txtS_lt_len st h
  have h2 := wantS_len (filterB (txtS st).1) (txtS st).2
  have h3 := octS_len (wantS (filterB (txtS st).1) (txtS st).2)
  have h4 := wantS_len (decide ((octS (wantS (filterB (txtS st).1) (txtS st).2)).1 ≤ 2)) (octS (wantS (filterB (txtS st).1) (txtS st).2)).2
  unfold filStep
  cases k8
  · simp only [Bool.false_eq_true, if_false]; omega
  · simp only [if_true]; omega
theorem filF_fuel (k8 : Bool) : ∀ (n m : Nat) (st : Option (List UInt8)) (acc : List (List UInt8 × Int)), lenS st ≤ n → lenS st ≤ m → filF k8 n st acc = filF k8 m st acc
  | 0, 0, _, _, _, _ => rfl
  | 0, m + 1, st, acc, h, _ => by rw [filF, filF, if_pos (by omega)]
  | n + 1, 0, st, acc, _, h => by rw [filF, filF, if_pos (by omega)]
  | n + 1, m + 1, st, acc, h1, h2 => by
    rw [filF, filF]
    by_cases hz : lenS st = 0
    · rw [if_pos hz, if_pos hz]
    · rw [if_neg hz, if_neg hz]
      have := filStep_lt k8 st (by omega)
      exact filF_fuel k8 n m _ _ (by omega) (by omega)
theorem filR_end (k8 : Bool) (st : Option (List UInt8)) (acc : List (List UInt8 × Int)) (h : lenS st = 0) : filR k8 st acc = (acc, st) := by
  unfold filR; rw [h]; rfl
theorem filR_step (k8 : Bool) (st : Option (List UInt8)) (acc : List (List UInt8 × Int)) (h : 0 < lenS st) : filR k8 st acc = filR k8 (filStep k8 st).2 (acc ++ [(filStep k8 st).1]) := by
  unfold filR
  obtain ⟨n, hn⟩ : ∃ n, lenS st = n + 1 := ⟨lenS st - 1, by omega⟩
  have := filStep_lt k8 st h
  rw [hn, filF, if_neg (by omega)]
  exact filF_fuel k8 _ _ _ _ (by omega) (Nat.le_refl _)

/-- the body of a packet by its kind: the packet, its filters, its codes, what is left -/
def packetS (p : Pkt) (st : Option (List UInt8)) : Pkt × List (List UInt8 × Int) × List Int × Option (List UInt8) :=
  if p.kind = 1 then ((connectS p st).1, [], [], (connectS p st).2)
  else if p.kind = 2 then ((connackS p st).1, [], [], (connackS p st).2)
  else if p.kind = 3 then ((publishS p st).1, [], [], (publishS p st).2)
  else if p.kind = 4 ∨ p.kind = 5 ∨ p.kind = 6 ∨ p.kind = 7 ∨ p.kind = 11 then ({ p with id := ((idS st).1 : Int) }, [], [], (idS st).2)
  else if p.kind = 8 ∨ p.kind = 10 then ({ p with id := ((idS st).1 : Int) }, (filtersS (p.kind == 8) (idS st).2).1, [], (filtersS (p.kind == 8) (idS st).2).2)
  else if p.kind = 9 then ({ p with id := ((idS st).1 : Int) }, [], (codesS (idS st).2).1, (codesS (idS st).2).2)
  else (p, [], [], st)
def bodyS (p : Pkt) (l : List UInt8) : Option (Pkt × List (List UInt8 × Int) × List Int) :=
  if lenS (packetS p (some l)).2.2.2 = 0 ∧ (packetS p (some l)).2.2.2 ≠ none then some ((packetS p (some l)).1, (packetS p (some l)).2.1, (packetS p (some l)).2.2.1) else none

theorem topS_len (st : Option (List UInt8)) : lenS (topS st).2 ≤ lenS st := Nat.le_trans (wantS_len _ _) (txtS_len _)
theorem idS_len (st : Option (List UInt8)) : lenS (idS st).2 ≤ lenS st := Nat.le_trans (wantS_len _ _) (numS_len _)
end Go.Proofs.YtnmfmoimjkoieaaGreatDoor.decPlain

namespace Go.Proofs.YtnmfmoimjkoieaaGreatDoor.rf
open Go Go.Proofs.YtnmfmoimjkoieaaGreatDoor.topPlain Go.Proofs.YtnmfmoimjkoieaaGreatDoor.decPlain

/-- two bytes at a place; -1: they are not there -/
def numAt (l : List UInt8) (k : Nat) : Int := match (numS (some (l.drop k))).2 with
  | some _ => ((numS (some (l.drop k))).1 : Int)
  | none => -1
theorem numAt_short (l : List UInt8) (k : Nat) (h : l.length < k + 2) : numAt l k = -1 := by
  unfold numAt numS
  have hd : (l.drop k).length < 2 := by simp; omega
  match hl : l.drop k, hd with
  | [], _ => rfl
  | [x], _ => rfl
theorem numAt_long (l : List UInt8) (k : Nat) (h : k + 2 ≤ l.length) : numAt l k = 256 * ((l[k]'(by omega)).toNat : Int) + ((l[k + 1]'(by omega)).toNat : Int) := by
  have e : l.drop k = l[k]'(by omega) :: l[k + 1]'(by omega) :: l.drop (k + 2) := by
    rw [List.drop_eq_getElem_cons (by omega), List.drop_eq_getElem_cons (by omega)]
  unfold numAt
  rw [e]
  show ((256 * (l[k]'(by omega)).toNat + (l[k + 1]'(by omega)).toNat : Nat) : Int) = _
  omega

/-- a text at a place, and the place behind it; -1: there is none -/
def txtAt (l : List UInt8) (k : Nat) : List UInt8 × Int := match (txtS (some (l.drop k))).2 with
  | some r => ((txtS (some (l.drop k))).1, (l.length : Int) - (r.length : Int))
  | none => ([], -1)
theorem txtAt_short (l : List UInt8) (k : Nat) (h : l.length < k + 2) : txtAt l k = ([], -1) := by
  unfold txtAt txtS
  have hd : (l.drop k).length < 2 := by simp; omega
  match hl : l.drop k, hd with
  | [], _ => rfl
  | [x], _ => rfl
theorem txtAt_long (l : List UInt8) (k n : Nat) (h : k + 2 ≤ l.length) (hn : numAt l k = n) : txtAt l k = if k + 2 + n ≤ l.length then ((l.drop (k + 2)).take n, ((k + 2 + n : Nat) : Int)) else ([], -1) := by
  have e : l.drop k = l[k]'(by omega) :: l[k + 1]'(by omega) :: l.drop (k + 2) := by
    rw [List.drop_eq_getElem_cons (by omega), List.drop_eq_getElem_cons (by omega)]
  have hn' : numS (some (l.drop k)) = (n, some (l.drop (k + 2))) := by
    rw [numAt_long l k h] at hn
    rw [e]
    show (256 * (l[k]'(by omega)).toNat + (l[k + 1]'(by omega)).toNat, some (l.drop (k + 2))) = _
    rw [show 256 * (l[k]'(by omega)).toNat + (l[k + 1]'(by omega)).toNat = n by omega]
  unfold txtAt txtS
  rw [hn']
  simp only [bytS, List.length_drop]
  by_cases hle : n ≤ l.length - (k + 2)
  · rw [if_pos hle, if_pos (by omega)]
    simp
    omega
  · rw [if_neg hle, if_neg (by omega)]


theorem octS_some {st : Option (List UInt8)} {r : List UInt8} (h : (octS st).2 = some r) : ∃ x, st = some (x :: r) ∧ (octS st).1 = x.toNat := by
  match st, h with
  | some (x :: t), h => simp [octS] at h; subst h; exact ⟨x, rfl, rfl⟩
  | some [], h => simp [octS] at h
  | none, h => simp [octS] at h
theorem numS_some {st : Option (List UInt8)} {r : List UInt8} (h : (numS st).2 = some r) : ∃ x y, st = some (x :: y :: r) ∧ (numS st).1 = 256 * x.toNat + y.toNat := by
  obtain ⟨y, hy, hy1⟩ := octS_some (st := (octS st).2) h
  obtain ⟨x, hx, hx1⟩ := octS_some hy
  refine ⟨x, y, hx, ?_⟩
  show 256 * (octS st).1 + (octS (octS st).2).1 = _
  rw [hx1, hy1]
theorem wantS_some {so : Bool} {st : Option (List UInt8)} {r : List UInt8} (h : wantS so st = some r) : so = true ∧ st = some r := by
  cases so
  · simp [wantS] at h
  · exact ⟨rfl, by simpa [wantS] using h⟩
theorem bytS_some {n : Nat} {st : Option (List UInt8)} {r : List UInt8} (h : (bytS n st).2 = some r) : ∃ t, st = some (t ++ r) ∧ t.length = n ∧ (bytS n st).1 = t := by
  match st, h with
  | none, h => simp [bytS] at h
  | some l, h =>
    unfold bytS at h ⊢
    by_cases hn : n ≤ l.length
    · simp only [if_pos hn] at h ⊢
      cases h
      exact ⟨l.take n, by rw [List.take_append_drop], by simp; omega, rfl⟩
    · simp [if_neg hn] at h
theorem txtS_some {st : Option (List UInt8)} {r : List UInt8} (h : (txtS st).2 = some r) : ∃ x y t, st = some (x :: y :: (t ++ r)) ∧ t.length = 256 * x.toNat + y.toNat ∧ (txtS st).1 = t := by
  obtain ⟨t, ht, hl, h1⟩ := bytS_some (n := (numS st).1) (st := (numS st).2) h
  obtain ⟨x, y, hx, hn⟩ := numS_some ht
  exact ⟨x, y, t, hx, by omega, h1⟩
theorem octS_none : octS none = (0, none) := rfl
theorem numS_none : numS none = (0, none) := rfl
theorem txtS_none : txtS none = ([], none) := rfl
theorem topS_none2 : (topS none).2 = none := wantS_none (topicB (txtS none).1)
theorem idS_none2 : (idS none).2 = none := wantS_none (decide (0 < (numS none).1))
theorem drop_tail {l u r : List UInt8} (h : l = u ++ r) : l.drop (l.length - r.length) = r := by
  subst h
  rw [List.length_append, Nat.add_sub_cancel, List.drop_left]

/-- a text at a place: it is there -/
theorem txtAt_some {l : List UInt8} {k : Nat} {r : List UInt8} (h : (txtS (some (l.drop k))).2 = some r) :
    ∃ at' : Nat, txtAt l k = ((txtS (some (l.drop k))).1, (at' : Int)) ∧ l.drop at' = r ∧ at' ≤ l.length ∧ at' + r.length = l.length := by
  obtain ⟨x, y, t, hd, _, _⟩ := txtS_some h
  have hd' := Option.some.inj hd
  have hl : l = (l.take k ++ x :: y :: t) ++ r := by
    have := List.take_append_drop k l
    rw [hd'] at this
    simpa using this.symm
  have hle : r.length ≤ l.length := by have := congrArg List.length hl; simp at this; omega
  refine ⟨l.length - r.length, ?_, drop_tail hl, by omega, by omega⟩
  unfold txtAt
  rw [h]
  simp only
  congr 1
  omega
theorem txtAt_none {l : List UInt8} {k : Nat} (h : (txtS (some (l.drop k))).2 = none) : txtAt l k = ([], -1) := by
  unfold txtAt; rw [h]

/-- what a body comes to: the packet, if all is read -/
def whole {α : Type} (q : α) : Option (List UInt8) → Option α
  | some [] => some q
  | _ => none
theorem whole_none {α : Type} (q : α) : whole q none = none := rfl

/-- the document's CONNECT -/
def docWill (l : List UInt8) (p : Pkt) (k : Nat) : Option Pkt :=
  if (txtAt l k).2 < 0 ∨ topicB (txtAt l k).1 = false then none
  else if (txtAt l (txtAt l k).2.toNat).2 < 0 then none
  else if (txtAt l (txtAt l k).2.toNat).2 = (l.length : Int) then some { p with topic := (txtAt l k).1, payload := (txtAt l (txtAt l k).2.toNat).1 } else none
def docRest (l : List UInt8) (p : Pkt) (b : Nat) : Option Pkt :=
  if bitOk b = false ∨ (txtAt l 10).2 < 0 ∨ nameB 0 10 (txtAt l 10).1 = false then none
  else if b / 4 % 2 = 1 then docWill l { bitP p b with keep := numAt l 8, client := (txtAt l 10).1 } (txtAt l 10).2.toNat
  else if (txtAt l 10).2 = (l.length : Int) then some { bitP p b with keep := numAt l 8, client := (txtAt l 10).1 } else none
def docConnect (l : List UInt8) (p : Pkt) : Option Pkt :=
  if l.length < 12 ∨ l.take 7 ≠ [0, 4, 77, 81, 84, 84, 4] then none else docRest l p (l.getD 7 0).toNat

theorem clientOk_name (t : List UInt8) : clientOk t = nameB 0 10 t := by
  unfold clientOk nameB
  rw [decide_eq_true (show (0 : Int) ≤ (t.length : Int) by omega)]
  cases decide ((t.length : Int) ≤ 10) <;> cases hasB t 0 <;> cases Lib.validD t <;> rfl

theorem docWill_eq (l : List UInt8) (p : Pkt) (k : Nat) (r : List UInt8) (hr : l.drop k = r) :
    docWill l p k = whole ({ p with topic := (topS (some r)).1, payload := (txtS (topS (some r)).2).1 } : Pkt) (txtS (topS (some r)).2).2 := by
  subst hr
  unfold docWill
  cases h1 : (txtS (some (l.drop k))).2 with
  | none =>
    rw [txtAt_none h1, if_pos (Or.inl (by decide))]
    have : (topS (some (l.drop k))).2 = none := by unfold topS; rw [h1]; exact wantS_none _
    rw [this, txtS_none, whole_none]
  | some r1 =>
    obtain ⟨a1, e1, hd1, hl1, _⟩ := txtAt_some h1
    rw [e1]
    simp only
    have ht : (topS (some (l.drop k))).2 = wantS (topicB (txtS (some (l.drop k))).1) (some r1) := by unfold topS; rw [h1]
    have ht1 : (topS (some (l.drop k))).1 = (txtS (some (l.drop k))).1 := rfl
    rw [ht, ht1]
    cases hT : topicB (txtS (some (l.drop k))).1 with
    | false => rw [if_pos (Or.inr rfl)]; simp [wantS, txtS_none, whole]
    | true =>
      rw [if_neg (by simp)]
      simp only [wantS, if_true]
      have e2 : ((a1 : Int)).toNat = a1 := by omega
      rw [e2, ← hd1]
      cases h2 : (txtS (some (l.drop a1))).2 with
      | none => rw [txtAt_none h2, if_pos (by decide), whole_none]
      | some r2 =>
        obtain ⟨a2, e3, hd2, hl2, hs2⟩ := txtAt_some h2
        rw [e3]
        simp only
        rw [if_neg (by omega)]
        match r2, hs2 with
        | [], hs2 =>
          rw [if_pos (by simp at hs2; omega)]
          rfl
        | z :: zs, hs2 =>
          rw [if_neg (by simp at hs2; omega)]
          rfl

theorem docConnect_eq (l : List UInt8) (p : Pkt) : docConnect l p = whole (connectS p (some l)).1 (connectS p (some l)).2 := by
  unfold docConnect
  by_cases hpre : l.length < 12 ∨ l.take 7 ≠ [0, 4, 77, 81, 84, 84, 4]
  · rw [if_pos hpre]
    suffices h : (connectS p (some l)).2 = none by rw [h]; rfl
    cases hc : (connectS p (some l)).2 with
    | none => rfl
    | some r =>
      exfalso
      have hcl : ∃ s, wantS (clientOk (txtS (numS (bitsS p (levelS (protoS (some l)))).2).2).1) (txtS (numS (bitsS p (levelS (protoS (some l)))).2).2).2 = some s := by
        cases hs : wantS (clientOk (txtS (numS (bitsS p (levelS (protoS (some l)))).2).2).1) (txtS (numS (bitsS p (levelS (protoS (some l)))).2).2).2 with
        | some s => exact ⟨s, rfl⟩
        | none =>
          exfalso
          unfold connectS at hc
          simp only [hs] at hc
          split at hc
          · rw [topS_none2, txtS_none] at hc; cases hc
          · cases hc
      obtain ⟨s, hs⟩ := hcl
      obtain ⟨_, h2⟩ := wantS_some hs
      obtain ⟨c1, c2, t, h3, _, _⟩ := txtS_some h2
      obtain ⟨n1, n2, h4, _⟩ := numS_some h3
      obtain ⟨_, h5⟩ := wantS_some (show wantS (bitOk (octS (levelS (protoS (some l)))).1) (octS (levelS (protoS (some l)))).2 = _ from h4)
      obtain ⟨b, h6, _⟩ := octS_some h5
      obtain ⟨hv, h7⟩ := wantS_some (show wantS (decide ((octS (protoS (some l))).1 = 4)) (octS (protoS (some l))).2 = _ from h6)
      obtain ⟨v, h8, hv1⟩ := octS_some h7
      obtain ⟨hq, h9⟩ := wantS_some (show wantS ((txtS (some l)).1 == [77, 81, 84, 84]) (txtS (some l)).2 = _ from h8)
      obtain ⟨x, y, m, h10, hm, hm1⟩ := txtS_some h9
      have hq' : m = [77, 81, 84, 84] := by rw [← hm1]; exact beq_iff_eq.1 hq
      subst hq'
      have hv' : v.toNat = 4 := by rw [← hv1]; exact of_decide_eq_true hv
      simp at hm
      have hyl := y.toNat_lt
      have hx0 : x = 0 := by apply UInt8.toNat_inj.1; show x.toNat = 0; omega
      have hy4 : y = 4 := by apply UInt8.toNat_inj.1; show y.toNat = 4; omega
      have hv4 : v = 4 := by apply UInt8.toNat_inj.1; exact hv'
      subst hx0 hy4 hv4
      have hl := Option.some.inj h10
      subst hl
      rcases hpre with hp | hp
      · simp at hp; omega
      · exact hp rfl
  · rw [if_neg hpre]
    obtain ⟨hlen, htk⟩ := not_or.1 hpre
    have htk := Classical.not_not.1 htk
    match l, hlen, htk with
    | [_, _, _, _, _, _, _, _], hlen, _ => simp at hlen
    | [_, _, _, _, _, _, _, _, _], hlen, _ => simp at hlen
    | a0 :: a1 :: a2 :: a3 :: a4 :: a5 :: a6 :: b :: k1 :: k2 :: rest, hlen, htk =>
      simp only [List.take_succ_cons, List.take_zero, List.cons.injEq, and_true] at htk
      obtain ⟨rfl, rfl, rfl, rfl, rfl, rfl, rfl⟩ := htk
      have hp : levelS (protoS (some (0 :: 4 :: 77 :: 81 :: 84 :: 84 :: 4 :: b :: k1 :: k2 :: rest))) = some (b :: k1 :: k2 :: rest) := by
        simp [levelS, protoS, txtS, numS, octS, bytS, wantS]
      have hnum : numAt (0 :: 4 :: 77 :: 81 :: 84 :: 84 :: 4 :: b :: k1 :: k2 :: rest) 8 = ((256 * k1.toNat + k2.toNat : Nat) : Int) := rfl
      generalize hL : (0 :: 4 :: 77 :: 81 :: 84 :: 84 :: 4 :: b :: k1 :: k2 :: rest : List UInt8) = L at *
      have hb : L.getD 7 0 = b := by rw [← hL]; rfl
      have hd : L.drop 10 = rest := by rw [← hL]; rfl
      rw [hb]
      unfold docRest connectS
      rw [hp]
      show _ = whole _ _
      unfold bitsS
      simp only [octS]
      cases hbo : bitOk b.toNat with
      | false =>
        rw [if_pos (Or.inl rfl)]
        by_cases hwl : (bitP p b.toNat).will = true <;> simp [hwl, wantS, numS_none, txtS_none, topS_none2, whole]
      | true =>
        simp only [wantS, if_true]
        have hn2 : numS (some (k1 :: k2 :: rest)) = (256 * k1.toNat + k2.toNat, some rest) := rfl
        rw [hn2]
        simp only
        rw [← hd]
        cases h1 : (txtS (some (L.drop 10))).2 with
        | none =>
          rw [txtAt_none h1, if_pos (Or.inr (Or.inl (by decide)))]
          by_cases hwl : (bitP p b.toNat).will = true <;> simp [hwl, topS_none2, txtS_none, whole]
        | some r1 =>
          obtain ⟨a1, e1, hd1, hl1, hs1⟩ := txtAt_some h1
          rw [e1]
          simp only
          rw [clientOk_name]
          cases hN : nameB 0 10 (txtS (some (L.drop 10))).1 with
          | false =>
            rw [if_pos (Or.inr (Or.inr rfl))]
            by_cases hwl : (bitP p b.toNat).will = true <;> simp [hwl, topS_none2, txtS_none, whole]
          | true =>
            rw [if_neg (by simp)]
            simp only [if_true]
            have e2 : ((a1 : Int)).toNat = a1 := by omega
            rw [e2, hnum]
            by_cases hw : b.toNat / 4 % 2 = 1
            · rw [if_pos hw, docWill_eq L _ a1 r1 hd1]
              have hw' : (bitP p b.toNat).will = true := decide_eq_true hw
              rw [hw']
              rfl
            · rw [if_neg hw]
              have hw' : (bitP p b.toNat).will = false := decide_eq_false hw
              rw [hw']
              match r1, hs1 with
              | [], hs1 =>
                rw [if_pos (by simp at hs1; omega)]
                rfl
              | z :: zs, hs1 =>
                rw [if_neg (by simp at hs1; omega)]
                rfl

theorem whole_if {α : Type} (q : α) (st : Option (List UInt8)) : (if lenS st = 0 ∧ st ≠ none then some q else none) = whole q st := by
  match st with
  | none => simp [whole]
  | some [] => simp [whole, lenS]
  | some (x :: r) => simp [whole, lenS]
theorem bodyS_whole (p : Pkt) (l : List UInt8) : bodyS p l = whole ((packetS p (some l)).1, (packetS p (some l)).2.1, (packetS p (some l)).2.2.1) (packetS p (some l)).2.2.2 := whole_if _ _
theorem whole_map {α β : Type} (f : α → β) (q : α) (st : Option (List UInt8)) : whole (f q) st = (whole q st).map f := by
  match st with
  | none => rfl
  | some [] => rfl
  | some (x :: r) => rfl

/-- the document's CONNACK -/
theorem body_connack (p : Pkt) (l : List UInt8) (hk : p.kind = 2) : bodyS p l = if l.length = 2 ∧ (l.getD 0 0).toNat ≤ 1 ∧ (l.getD 1 0).toNat ≤ 5 then some ({ p with present := decide ((l.getD 0 0).toNat = 1), code := ((l.getD 1 0).toNat : Int) }, [], []) else none := by
  rw [bodyS_whole]
  have e : packetS p (some l) = ((connackS p (some l)).1, [], [], (connackS p (some l)).2) := by unfold packetS; rw [hk]; rfl
  rw [e]
  simp only
  match l with
  | [] => simp [connackS, octS, wantS, whole]
  | [x] => by_cases h1 : x.toNat ≤ 1 <;> simp [connackS, octS, wantS, whole, h1]
  | [x, y] =>
    by_cases h1 : x.toNat ≤ 1
    · by_cases h2 : y.toNat ≤ 5
      · rw [if_pos ⟨rfl, h1, h2⟩]
        have e1 : connackS p (some [x, y]) = ({ p with present := decide (x.toNat = 1), code := (y.toNat : Int) }, some []) := by
          have o1 : wantS (decide ((octS (some [x, y])).1 ≤ 1)) (octS (some [x, y])).2 = some [y] := by
            show wantS (decide (x.toNat ≤ 1)) (some [y]) = _
            rw [decide_eq_true h1]; rfl
          unfold connackS
          rw [o1]
          show (({ p with present := decide (x.toNat = 1), code := (y.toNat : Int) } : Pkt), wantS (decide (y.toNat ≤ 5)) (some [])) = _
          rw [decide_eq_true h2]; rfl
        rw [e1]
        rfl
      · simp [connackS, octS, wantS, whole, h1, h2]
    · simp [connackS, octS, wantS, whole, h1]
  | x :: y :: z :: r => by_cases h1 : x.toNat ≤ 1 <;> by_cases h2 : y.toNat ≤ 5 <;> simp [connackS, octS, wantS, whole, h1, h2]

theorem restS_some (l : List UInt8) : restS (some l) = (l, some []) := by
  simp [restS, bytS, lenS]
theorem restS_none : restS none = ([], none) := rfl
theorem topS_some {l : List UInt8} {k : Nat} (h0 : 0 ≤ (txtAt l k).2) (ht : topicB (txtAt l k).1 = true) : topS (some (l.drop k)) = ((txtAt l k).1, some (l.drop (txtAt l k).2.toNat)) := by
  cases h : (txtS (some (l.drop k))).2 with
  | none => rw [txtAt_none h] at h0; simp at h0
  | some r =>
    obtain ⟨a, e, hd, _, _⟩ := txtAt_some h
    rw [e] at ht ⊢
    unfold topS
    rw [h]
    simp only at ht ⊢
    rw [ht, show ((a : Int)).toNat = a by omega, hd]
    rfl
theorem topS_bad {l : List UInt8} {k : Nat} (hb : (txtAt l k).2 < 0 ∨ topicB (txtAt l k).1 = false) : (topS (some (l.drop k))).2 = none := by
  cases h : (txtS (some (l.drop k))).2 with
  | none => unfold topS; rw [h]; exact wantS_none _
  | some r =>
    obtain ⟨a, e, hd, _, _⟩ := txtAt_some h
    rw [e] at hb
    rcases hb with hb | hb
    · simp only at hb; omega
    · unfold topS
      simp only at hb ⊢
      rw [hb]; rfl
theorem idS_at {l : List UInt8} {k : Nat} : idS (some (l.drop k)) = if numAt l k < 1 then ((numS (some (l.drop k))).1, none) else ((numAt l k).toNat, some (l.drop (k + 2))) := by
  by_cases h : k + 2 ≤ l.length
  · have hn := numAt_long l k h
    have e : l.drop k = l[k]'(by omega) :: l[k + 1]'(by omega) :: l.drop (k + 2) := by
      rw [List.drop_eq_getElem_cons (by omega), List.drop_eq_getElem_cons (by omega)]
    have hs : numS (some (l.drop k)) = (256 * (l[k]'(by omega)).toNat + (l[k + 1]'(by omega)).toNat, some (l.drop (k + 2))) := by rw [e]; rfl
    have h1 : numAt l k = (((numS (some (l.drop k))).1 : Nat) : Int) := by rw [hn, hs]; simp only; omega
    unfold idS
    rw [h1]
    by_cases hz : 0 < (numS (some (l.drop k))).1
    · rw [decide_eq_true hz, if_neg (by omega), hs]
      simp [wantS]
      omega
    · rw [decide_eq_false hz, if_pos (by omega)]
      simp [wantS]
  · rw [numAt_short l k (by omega), if_pos (by decide)]
    have : (numS (some (l.drop k))).2 = none := by
      have hd : (l.drop k).length < 2 := by simp; omega
      match hl : l.drop k, hd with
      | [], _ => rfl
      | [x], _ => rfl
    unfold idS
    rw [this, wantS_none]

/-- the document's PUBLISH -/
def docPub (p : Pkt) (l : List UInt8) : Option Pkt :=
  if (txtAt l 0).2 < 0 ∨ topicB (txtAt l 0).1 = false then none
  else if 0 < p.qos then (if numAt l (txtAt l 0).2.toNat < 1 then none else some { p with topic := (txtAt l 0).1, id := numAt l (txtAt l 0).2.toNat, payload := l.drop ((txtAt l 0).2.toNat + 2) })
  else some { p with topic := (txtAt l 0).1, payload := l.drop (txtAt l 0).2.toNat }
theorem body_publish (p : Pkt) (l : List UInt8) (hk : p.kind = 3) : bodyS p l = (docPub p l).map fun q => (q, [], []) := by
  rw [bodyS_whole]
  have e : packetS p (some l) = ((publishS p (some l)).1, [], [], (publishS p (some l)).2) := by unfold packetS; rw [hk]; rfl
  rw [e]
  simp only
  rw [whole_map (fun q : Pkt => (q, ([] : List (List UInt8 × Int)), ([] : List Int)))]
  congr 1
  have h0 : l.drop 0 = l := rfl
  unfold docPub publishS
  by_cases hb : (txtAt l 0).2 < 0 ∨ topicB (txtAt l 0).1 = false
  · rw [if_pos hb]
    have := topS_bad (l := l) (k := 0) hb
    rw [h0] at this
    rw [this]
    by_cases hq : 0 < p.qos
    · rw [if_pos hq, idS_none2, restS_none]; rfl
    · rw [if_neg hq, restS_none]; rfl
  · rw [if_neg hb]
    obtain ⟨hb1, hb2⟩ := not_or.1 hb
    have hb2 : topicB (txtAt l 0).1 = true := by cases hx : topicB (txtAt l 0).1 <;> simp_all
    have ht := topS_some (l := l) (k := 0) (by omega) hb2
    rw [h0] at ht
    rw [ht]
    simp only
    by_cases hq : 0 < p.qos
    · rw [if_pos hq, if_pos hq, idS_at]
      by_cases hn : numAt l (txtAt l 0).2.toNat < 1
      · rw [if_pos hn, if_pos hn]
        simp [restS_none, whole]
      · rw [if_neg hn, if_neg hn]
        simp only [restS_some, whole]
        rw [show (((numAt l (txtAt l 0).2.toNat).toNat : Nat) : Int) = numAt l (txtAt l 0).2.toNat by omega]
    · rw [if_neg hq, if_neg hq]
      simp [restS_some, whole]

/-- nothing in it -/
theorem body_empty (p : Pkt) (l : List UInt8) (hk : p.kind = 12 ∨ p.kind = 13 ∨ p.kind = 14) : bodyS p l = if l.length = 0 then some (p, [], []) else none := by
  rw [bodyS_whole]
  have e : packetS p (some l) = (p, [], [], some l) := by
    unfold packetS
    rcases hk with h | h | h <;> rw [h] <;> rfl
  rw [e]
  cases l <;> simp [whole]
/-- an Id alone -/
theorem body_id (p : Pkt) (l : List UInt8) (hk : p.kind = 4 ∨ p.kind = 5 ∨ p.kind = 6 ∨ p.kind = 7 ∨ p.kind = 11) : bodyS p l = if numAt l 0 < 1 then none else if (l.drop 2).length = 0 then some ({ p with id := numAt l 0 }, [], []) else none := by
  rw [bodyS_whole]
  have e : packetS p (some l) = ({ p with id := ((idS (some l)).1 : Int) }, [], [], (idS (some l)).2) := by
    unfold packetS
    rcases hk with h | h | h | h | h <;> rw [h] <;> rfl
  rw [e]
  simp only
  have hi := idS_at (l := l) (k := 0)
  rw [show l.drop 0 = l from rfl] at hi
  rw [hi]
  by_cases hn : numAt l 0 < 1
  · rw [if_pos hn, if_pos hn]; rfl
  · rw [if_neg hn, if_neg hn]
    simp only
    rw [show (((numAt l 0).toNat : Nat) : Int) = numAt l 0 by omega, Nat.zero_add]
    cases l.drop 2 <;> simp [whole]
/-- Id and filters -/
theorem body_filters (p : Pkt) (l : List UInt8) (hk : p.kind = 8 ∨ p.kind = 10) : bodyS p l = if numAt l 0 < 1 then none else whole ({ p with id := numAt l 0 }, (filtersS (p.kind == 8) (some (l.drop 2))).1, []) (filtersS (p.kind == 8) (some (l.drop 2))).2 := by
  rw [bodyS_whole]
  have e : packetS p (some l) = ({ p with id := ((idS (some l)).1 : Int) }, (filtersS (p.kind == 8) (idS (some l)).2).1, [], (filtersS (p.kind == 8) (idS (some l)).2).2) := by
    unfold packetS
    rcases hk with h | h <;> rw [h] <;> rfl
  rw [e]
  simp only
  have hi := idS_at (l := l) (k := 0)
  rw [show l.drop 0 = l from rfl] at hi
  rw [hi]
  by_cases hn : numAt l 0 < 1
  · rw [if_pos hn, if_pos hn]
    simp only
    have : (filtersS (p.kind == 8) none).2 = none := by
      unfold filtersS; rw [wantS_none, filR_end _ _ _ rfl]
    rw [this]; rfl
  · rw [if_neg hn, if_neg hn]
    simp only
    rw [show (((numAt l 0).toNat : Nat) : Int) = numAt l 0 by omega, Nat.zero_add]
/-- Id and codes -/
theorem body_codes (p : Pkt) (l : List UInt8) (hk : p.kind = 9) : bodyS p l = if numAt l 0 < 1 then none else whole ({ p with id := numAt l 0 }, [], (codesS (some (l.drop 2))).1) (codesS (some (l.drop 2))).2 := by
  rw [bodyS_whole]
  have e : packetS p (some l) = ({ p with id := ((idS (some l)).1 : Int) }, [], (codesS (idS (some l)).2).1, (codesS (idS (some l)).2).2) := by
    unfold packetS
    rw [hk]; rfl
  rw [e]
  simp only
  have hi := idS_at (l := l) (k := 0)
  rw [show l.drop 0 = l from rfl] at hi
  rw [hi]
  by_cases hn : numAt l 0 < 1
  · rw [if_pos hn, if_pos hn]; rfl
  · rw [if_neg hn, if_neg hn]
    simp only
    rw [show (((numAt l 0).toNat : Nat) : Int) = numAt l 0 by omega, Nat.zero_add]
theorem body_connect (p : Pkt) (l : List UInt8) (hk : p.kind = 1) : bodyS p l = (docConnect l p).map fun q => (q, [], []) := by
  rw [bodyS_whole, docConnect_eq]
  have e : packetS p (some l) = ((connectS p (some l)).1, [], [], (connectS p (some l)).2) := by unfold packetS; rw [hk]; rfl
  rw [e]
  exact whole_map (fun q : Pkt => (q, ([] : List (List UInt8 × Int)), ([] : List Int))) _ _
/-- the codes: all of them are read, or one is wrong -/
theorem codL_all (l : List UInt8) (acc : List Int) (h : ∀ x ∈ l, codeOk x.toNat = true) : codL l acc = (acc ++ l.map fun x => (x.toNat : Int), some []) := by
  induction l generalizing acc with
  | nil => simp [codL]
  | cons x r ih =>
    rw [codL, if_pos (h x (by simp)), ih _ (fun y hy => h y (by simp [hy]))]
    simp
theorem codL_bad (l : List UInt8) (acc : List Int) (x : UInt8) (hx : x ∈ l) (h : codeOk x.toNat = false) : (codL l acc).2 = none := by
  induction l generalizing acc with
  | nil => simp at hx
  | cons y r ih =>
    rw [codL]
    by_cases hy : codeOk y.toNat = true
    · rw [if_pos hy]
      refine ih _ ?_
      rcases List.mem_cons.1 hx with rfl | h'
      · rw [h] at hy; cases hy
      · exact h'
    · rw [if_neg hy]
end Go.Proofs.YtnmfmoimjkoieaaGreatDoor.rf

namespace Go.Proofs.YtnmfmoimjkoieaaGreatDoor.encPlain
open Go Go.Proofs.YtnmfmoimjkoieaaGreatDoor.topPlain Go.Proofs.YtnmfmoimjkoieaaGreatDoor.decPlain

def byt8 (n : Int) : UInt8 := UInt8.ofNat (n % 256).toNat
def bitI (b : Bool) (n : Int) : Int := if b then n else 0
def twoW (n : Int) : List UInt8 := [byt8 (n / 256), byt8 n]
def twoR (n : Int) : List UInt8 := [byt8 ((n.tdiv 256).tmod 256), byt8 (n.tmod 256)]
def txtW (l : List UInt8) : List UInt8 := twoW (l.length : Int) ++ l
def txtR (l : List UInt8) : List UInt8 := twoR (l.length : Int) ++ l
def filW (k8 : Bool) (f : List UInt8 × Int) : List UInt8 := txtW f.1 ++ if k8 then [byt8 f.2] else []
def filR' (k8 : Bool) (f : List UInt8 × Int) : List UInt8 := txtR f.1 ++ if k8 then [byt8 f.2] else []
/-- the body as the program writes it; cb: the byte of bits of a CONNECT -/
def bodyW (cb : UInt8) (p : Pkt) (fs : List (List UInt8 × Int)) (cs : List Int) : List UInt8 :=
  if p.kind = 1 then txtW [77, 81, 84, 84] ++ [byt8 4] ++ [cb] ++ twoW p.keep ++ txtW p.client ++ (if p.will then txtW p.topic ++ txtW p.payload else [])
  else if p.kind = 2 then [byt8 (bitI p.present 1)] ++ [byt8 p.code]
  else if p.kind = 3 then txtW p.topic ++ (if 0 < p.qos then twoW p.id else []) ++ p.payload
  else if p.kind = 4 ∨ p.kind = 5 ∨ p.kind = 6 ∨ p.kind = 7 ∨ p.kind = 11 then twoW p.id
  else if p.kind = 8 ∨ p.kind = 10 then twoW p.id ++ fs.flatMap (filW (p.kind == 8))
  else if p.kind = 9 then twoW p.id ++ cs.map byt8
  else []
def lenW (n : Nat) : List UInt8 := if n < 128 then [byt8 n] else [byt8 (n % 128 + 128 : Nat), byt8 (n / 128 : Nat)]
def sameP (p q : Pkt) : Prop := p.kind = q.kind ∧ p.clean = q.clean ∧ p.will = q.will ∧ p.keep = q.keep ∧ p.client = q.client ∧ p.present = q.present ∧ p.code = q.code ∧ p.dup = q.dup ∧ p.qos = q.qos ∧ p.retain = q.retain ∧ p.topic = q.topic ∧ p.payload = q.payload ∧ p.id = q.id
instance (p q : Pkt) : Decidable (sameP p q) := by unfold sameP; infer_instance
/-- the document's -/
def cbR (p : Pkt) : UInt8 := byt8 (bitI p.clean 2 + bitI p.will 4 + 8 * p.qos + bitI p.retain 32)
def bodyR (p : Pkt) (fs : List (List UInt8 × Int)) (cs : List Int) : List UInt8 :=
  if p.kind = 1 then [0, 4, 77, 81, 84, 84, 4] ++ [cbR p] ++ twoR p.keep ++ txtR p.client ++ (if p.will then txtR p.topic ++ txtR p.payload else [])
  else if p.kind = 2 then [byt8 (bitI p.present 1)] ++ [byt8 p.code]
  else if p.kind = 3 then txtR p.topic ++ (if 0 < p.qos then twoR p.id else []) ++ p.payload
  else if p.kind = 12 ∨ p.kind = 13 ∨ p.kind = 14 then []
  else twoR p.id ++ fs.flatMap (filR' (p.kind == 8)) ++ cs.map byt8
def lenR (n : Nat) : List UInt8 := if 127 < n then [byt8 (128 + n % 128 : Nat), byt8 (n / 128 : Nat)] else [byt8 n]
def filN : List (List UInt8 × Int) → Nat
  | [] => 0
  | f :: r => 1 + f.1.length + filN r
def weight (p : Pkt) (fs : List (List UInt8 × Int)) (cs : List Int) : Nat := p.client.length + p.topic.length + p.payload.length + cs.length + filN fs
def rangeB (p : Pkt) : Prop := 1 ≤ p.kind ∧ p.kind ≤ 14 ∧ 0 ≤ p.qos ∧ p.qos ≤ 2 ∧ 0 ≤ p.keep ∧ 0 ≤ p.id ∧ 0 ≤ p.code
instance (p : Pkt) : Decidable (rangeB p) := by unfold rangeB; infer_instance
theorem byt8_mod (n : Int) : byt8 (n % 256) = byt8 n := by unfold byt8; rw [Int.emod_emod]
theorem two_same {n : Int} (h : 0 ≤ n) : twoR n = twoW n := by
  unfold twoR twoW
  have h2 : 0 ≤ n / 256 := by omega
  rw [Int.tdiv_eq_ediv_of_nonneg h, Int.tmod_eq_emod_of_nonneg h2, Int.tmod_eq_emod_of_nonneg h, byt8_mod, byt8_mod]
theorem txt_same (l : List UInt8) : txtR l = txtW l := by unfold txtR txtW; rw [two_same (by omega)]
theorem fil_same (k8 : Bool) : filR' k8 = filW k8 := by funext f; unfold filR' filW; rw [txt_same]
theorem len_same {n : Nat} : lenR n = lenW n := by
  unfold lenR lenW
  by_cases h : n < 128
  · rw [if_neg (by omega), if_pos h]
  · rw [if_pos (by omega), if_neg h, Nat.add_comm 128]
theorem byt8_nat {n : Nat} (h : n < 256) : (byt8 (n : Int)).toNat = n := by
  unfold byt8
  rw [show ((n : Int) % 256).toNat = n by omega, UInt8.toNat_ofNat', Nat.mod_eq_of_lt (by omega)]
theorem lenW_len {m : Nat} : (lenW m).length = if m < 128 then 1 else 2 := by
  unfold lenW; split <;> rfl
end Go.Proofs.YtnmfmoimjkoieaaGreatDoor.encPlain
