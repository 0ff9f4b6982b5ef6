import Derived.Test.YtnmfmoimjkoieaaGreatDoorJ21
import Derived.Deep.OwnRows
import Derived.IntWalk
import Derived.Test.YtnmfmoimjkoieaaGreatDoorJ11
import Derived.Test.YtnmfmoimjkoieaaGreatDoorJ01
import Derived.Test.YtnmfmoimjkoieaaGreatDoorJ09
/- The document's small functions on bytes: one, bit, Two, Text. -/
namespace Go.Proofs.YtnmfmoimjkoieaaGreatDoor.rfe
open Go.RowKit Go.Proofs.YtnmfmoimjkoieaaGreatDoor.topPlain Go.Proofs.YtnmfmoimjkoieaaGreatDoor.topWalks Go.Proofs.YtnmfmoimjkoieaaGreatDoor.decPlain Go.Proofs.YtnmfmoimjkoieaaGreatDoor.encPlain Go.Proofs.YtnmfmoimjkoieaaGreatDoor.ew

set_option maxHeartbeats 400000 in
theorem rbit_any (b : Bool) (n : Int) (w : World) : Calls Tryz.prog 99 #[.bool b, .int .i64 n] w fun e w' => e = .returned (.int .i64 (bitI b n)) ∧ w' = w := by
  unfold bitI
  cases b
  · go_enter Tryz.func99, Tryz.ntmps99
    go_wp2
    go_ret
    exact ⟨rfl, rfl⟩
  · go_enter Tryz.func99, Tryz.ntmps99
    go_wp2
    go_ret
    exact ⟨rfl, rfl⟩

theorem conv_bytes {w : World} {b off cap n : Nat} {l : List UInt8} (hn : n ≤ l.length) (hc : ∀ (j : Nat) x, l[j]? = some x → w.cell? ⟨b, off + j, none⟩ = some (.int .u8 (x.toNat : Int))) :
    (convert 45 9 (.slice (some ⟨b, off, none⟩) n cap)).run Tryz.prog w = .ok (.string (bs (l.take n))) w := by
  have h := run_convert_bytes_arg (P := Tryz.prog) w 45 5 Tryz.underlying45 Tryz.underlying5 b off n cap ((l.take n).map fun x => (x.toNat : Int)) (by simp; omega)
    (fun i hi => by
      have hil : i < l.length := by omega
      rw [hc i l[i] (List.getElem?_eq_getElem hil)]
      simp [List.getD, hi, List.getElem?_eq_getElem hil]) 9 Tryz.underlying9
  have e : strOfNums ((l.take n).map fun x => (x.toNat : Int)) = bs (l.take n) := by
    apply ba_ext
    rw [strOfNums_data, data_bs, List.map_map]
    conv => rhs; rw [← List.map_id (l.take n)]
    exact List.map_congr_left fun x _ => by simp
  rw [h, e]
theorem conv_new (w : World) (l : List UInt8) : (convert 45 9 (.slice (some ⟨w.heap.size, 0, none⟩) l.length l.length)).run Tryz.prog (w.alloc (.cells (u8s l).toArray 5)) = .ok (.string (bs l)) (w.alloc (.cells (u8s l).toArray 5)) := by
  have h := conv_bytes (w := w.alloc (.cells (u8s l).toArray 5)) (b := w.heap.size) (off := 0) (cap := l.length) (n := l.length) (l := l) (Nat.le_refl _) (fun j x hx => by
    have hb : (w.alloc (.cells (u8s l).toArray 5)).heap[w.heap.size]? = some (.cells (u8s l).toArray 5) := Go.Deep.blk_alloc_new _ _
    simp only [World.cell?, hb]
    simp [u8s, hx])
  rw [List.take_of_length_le (Nat.le_refl _)] at h
  exact h

set_option maxHeartbeats 400000 in
set_option maxRecDepth 100000 in
theorem one_any (n : Int) (w : World) : Calls Tryz.prog 98 #[.int .i64 n] w fun e w' => e = .returned (.string (bs [byt8 n])) ∧ Below w.heap.size w w' := by
  have hw8 := u8_wrap n
  have hcv : (convert 45 9 (.slice (some ⟨w.heap.size, 0, none⟩) 1 1)).run Tryz.prog (w.alloc (.cells #[.int .u8 ((byt8 n).toNat : Int)] 5)) = _ := conv_new w [byt8 n]
  have HB : Hid (Below w.heap.size w (w.alloc (.cells #[.int .u8 ((byt8 n).toNat : Int)] 5))) := (Below.refl _ _).alloc (Nat.le_refl _) _
  go_enter Tryz.func98, Tryz.ntmps98
  go_wp2
  go_ret
  exact ⟨rfl, HB.out⟩

theorem tdiv_in {n : Int} (h0 : -9223372036854775808 ≤ n) (h1 : n ≤ 9223372036854775807) : -9223372036854775808 ≤ n.tdiv 256 ∧ n.tdiv 256 ≤ 9223372036854775807 := by
  rcases Int.le_total 0 n with h | h
  · rw [Int.tdiv_eq_ediv_of_nonneg h]; omega
  · have e : n = -(-n) := by omega
    rw [e, Int.neg_tdiv, Int.tdiv_eq_ediv_of_nonneg (by omega)]; omega
set_option maxHeartbeats 400000 in
set_option maxRecDepth 100000 in
theorem two_any (n : Int) (w : World) (h0 : -9223372036854775808 ≤ n) (h1 : n ≤ 9223372036854775807) : Calls Tryz.prog 100 #[.int .i64 n] w fun e w' => e = .returned (.string (bs (twoR n))) ∧ Below w.heap.size w w' := by
  have hq : wrap64 (n.tdiv 256) = n.tdiv 256 := by have := tdiv_in h0 h1; unfold wrap64; omega
  have hw8 := u8_wrap (n.tmod 256)
  have hw9 := u8_wrap ((n.tdiv 256).tmod 256)
  have hcv : (convert 45 9 (.slice (some ⟨w.heap.size, 0, none⟩) 2 2)).run Tryz.prog (w.alloc (.cells #[.int .u8 ((byt8 ((n.tdiv 256).tmod 256)).toNat : Int), .int .u8 ((byt8 (n.tmod 256)).toNat : Int)] 5)) = _ := conv_new w (twoR n)
  have HB : Hid (Below w.heap.size w (w.alloc (.cells #[.int .u8 ((byt8 ((n.tdiv 256).tmod 256)).toNat : Int), .int .u8 ((byt8 (n.tmod 256)).toNat : Int)] 5))) := (Below.refl _ _).alloc (Nat.le_refl _) _
  go_enter Tryz.func100, Tryz.ntmps100
  clear h0 h1
  go_wp2
  go_ret
  exact ⟨rfl, HB.out⟩

theorem bs_append (a b : List UInt8) : bs a ++ bs b = bs (a ++ b) := by
  apply ba_ext
  simp [bs]
set_option maxHeartbeats 400000 in
set_option maxRecDepth 100000 in
theorem text_any (l : List UInt8) (w : World) (hl : l.length ≤ 1099511627776) : Calls Tryz.prog 101 #[.string (bs l)] w fun e w' => e = .returned (.string (bs (txtR l))) ∧ Below w.heap.size w w' := by
  have hs : (bs l).size = l.length := by simp [bs, ByteArray.size]
  have h2 : (bs (twoR (l.length : Int))).size = 2 := rfl
  have c := hide fun w => two_any (l.length : Int) w (by omega) (by omega)
  go_enter Tryz.func101, Tryz.ntmps101
  go_wp2_with fail
  refine (c.out w).mono ?_
  rintro e w1 ⟨rfl, hb⟩
  have HB := hide hb
  clear hb
  go_wp2
  go_ret
  exact ⟨by unfold txtR; rw [bs_append]; rfl, HB.out⟩
end Go.Proofs.YtnmfmoimjkoieaaGreatDoor.rfe

/- Plain: the bytes of a packet as package packets writes them and as the document writes them: both give bytes to the same packets, and the same ones. No program is named here. -/
namespace Go.Proofs.YtnmfmoimjkoieaaGreatDoor.encPlain
open Go Go.Proofs.YtnmfmoimjkoieaaGreatDoor.topPlain Go.Proofs.YtnmfmoimjkoieaaGreatDoor.decPlain Go.Proofs.YtnmfmoimjkoieaaGreatDoor.rd

/-- the program's answer -/
def encL (fw cb : UInt8) (p : Pkt) (fs : List (List UInt8 × Int)) (cs : List Int) : Option (List UInt8) :=
  if 300 < (bodyW cb p fs cs).length then none
  else match decL (fw :: (lenW (bodyW cb p fs cs).length ++ bodyW cb p fs cs)) with
    | .inl _ => none
    | .inr (q, _) => if sameP p q.1 ∧ fs = q.2.1 ∧ cs = q.2.2 then some (fw :: (lenW (bodyW cb p fs cs).length ++ bodyW cb p fs cs)) else none

/-- the document's -/
def flagsR (p : Pkt) : Int := if p.kind = 3 then bitI p.dup 8 + 2 * p.qos + bitI p.retain 1 else fixedF p.kind
def firstR (p : Pkt) : UInt8 := byt8 (16 * p.kind + flagsR p)
def bytesR (p : Pkt) (fs : List (List UInt8 × Int)) (cs : List Int) : List UInt8 := firstR p :: (lenR (bodyR p fs cs).length ++ bodyR p fs cs)
def refL (p : Pkt) (fs : List (List UInt8 × Int)) (cs : List Int) : Option (List UInt8) :=
  if weight p fs cs ≤ 300 ∧ rangeB p then match decL (bytesR p fs cs) with
    | .inl _ => none
    | .inr (q, n) => if n = (bytesR p fs cs).length ∧ sameP p q.1 ∧ fs = q.2.1 ∧ cs = q.2.2 then some (bytesR p fs cs) else none
  else none

theorem lenL_lenW {m : Nat} (h : m ≤ 300) (r : List UInt8) : lenL (lenW m ++ r) = some (some (m, (lenW m).length)) := by
  unfold lenW
  by_cases hm : m < 128
  · rw [if_pos hm]
    simp only [List.cons_append, List.nil_append, lenL, byt8_nat (show m < 256 by omega), if_pos hm, List.length_cons, List.length_nil]
  · rw [if_neg hm]
    have e1 := byt8_nat (show m % 128 + 128 < 256 by omega)
    have e2 := byt8_nat (show m / 128 < 256 by omega)
    simp only [List.cons_append, List.nil_append, lenL, e1, e2, List.length_cons, List.length_nil]
    rw [if_neg (by omega), if_neg (by omega), show m % 128 + 128 - 128 + 128 * (m / 128) = m by omega]

/-- what a packet that was read is like -/
structure Shape (q : Pkt) (gs : List (List UInt8 × Int)) (ds : List Int) : Prop where
  rng : rangeB q
  gs0 : q.kind ≠ 8 → q.kind ≠ 10 → gs = []
  ds0 : q.kind ≠ 9 → ds = []
  will : q.kind = 1 → q.will = false → q.topic = [] ∧ q.payload = []
  cl0 : q.kind ≠ 1 → q.client = []
  tp0 : q.kind ≠ 1 → q.kind ≠ 3 → q.topic = [] ∧ q.payload = []

theorem octS_none : octS none = (0, none) := rfl
theorem numS_none : numS none = (0, none) := rfl
theorem bytS_none (n : Nat) : bytS n none = ([], none) := rfl
theorem txtS_none : txtS none = ([], none) := rfl
theorem topS_none' : (topS none).2 = none := by
  have h : (topS none).2 = wantS (topicB (txtS none).1) (txtS none).2 := rfl
  rw [h, txtS_none]
  generalize topicB ([], none).1 = b
  cases b <;> rfl
theorem want_some {so : Bool} {st : Option (List UInt8)} (h : wantS so st ≠ none) : so = true ∧ st ≠ none := by
  cases so
  · exact absurd rfl h
  · exact ⟨rfl, h⟩

theorem firstL_shape {k f : Nat} {p : Pkt} (h : firstL k f = some p) : (1 ≤ p.kind ∧ p.kind ≤ 14) ∧ (0 ≤ p.qos ∧ p.qos ≤ 2) ∧ p.keep = 0 ∧ p.id = 0 ∧ p.code = 0 ∧ p.client = [] ∧ p.topic = [] ∧ p.payload = [] := by
  unfold firstL at h
  split at h
  · cases h
  · split at h
    · split at h
      · cases h; exact ⟨⟨by simp only; omega, by simp only; omega⟩, ⟨by simp [zeroP], by simp [zeroP]⟩, rfl, rfl, rfl, rfl, rfl, rfl⟩
      · cases h
    · split at h
      · cases h
      · cases h; exact ⟨⟨by simp only; omega, by simp only; omega⟩, ⟨by simp only; omega, by simp only; omega⟩, rfl, rfl, rfl, rfl, rfl, rfl⟩

theorem connect_qos {p : Pkt} {l : List UInt8} (h : (connectS p (some l)).2 ≠ none) : 0 ≤ (connectS p (some l)).1.qos ∧ (connectS p (some l)).1.qos ≤ 2 := by
  have hb : bitOk (octS (levelS (protoS (some l)))).1 = true := by
    cases hB : bitOk (octS (levelS (protoS (some l)))).1 with
    | true => rfl
    | false =>
      exfalso; apply h
      have e : (bitsS p (levelS (protoS (some l)))).2 = none := by unfold bitsS; rw [hB]; rfl
      unfold connectS
      simp only [e, numS_none, txtS_none, wantS_none]
      split
      · show (txtS (topS none).2).2 = none
        rw [topS_none', txtS_none]
      · rfl
  have hq : (connectS p (some l)).1.qos = (((octS (levelS (protoS (some l)))).1 / 8 % 4 : Nat) : Int) := by
    unfold connectS bitsS bitP
    simp only
    split <;> rfl
  unfold bitOk at hb
  simp only [Bool.and_eq_true, decide_eq_true_eq] at hb
  rw [hq]
  omega

theorem body_shape {k f : Nat} {p q : Pkt} {l : List UInt8} {gs : List (List UInt8 × Int)} {ds : List Int} (h1 : firstL k f = some p) (h2 : bodyS p l = some (q, gs, ds)) : Shape q gs ds := by
  obtain ⟨⟨hk1, hk2⟩, ⟨hq1, hq2⟩, hkeep, hid, hcode, hcl, htp, hpl⟩ := firstL_shape h1
  unfold bodyS at h2
  split at h2
  · rename_i hc
    have hn := hc.2
    clear hc
    obtain ⟨rfl, rfl, rfl⟩ : (packetS p (some l)).1 = q ∧ (packetS p (some l)).2.1 = gs ∧ (packetS p (some l)).2.2.1 = ds := by
      injection h2 with h2
      injection h2 with h2 h3
      injection h3 with h3 h4
      exact ⟨h2, h3, h4⟩
    clear h2
    unfold packetS at hn ⊢
    by_cases e1 : p.kind = 1
    · rw [if_pos e1] at hn ⊢
      have hk : (connectS p (some l)).1.kind = p.kind := by unfold connectS bitsS bitP; simp only; split <;> rfl
      have hid' : (connectS p (some l)).1.id = p.id := by unfold connectS bitsS bitP; simp only; split <;> rfl
      have hcd' : (connectS p (some l)).1.code = p.code := by unfold connectS bitsS bitP; simp only; split <;> rfl
      have hkp' : (connectS p (some l)).1.keep = ((numS (bitsS p (levelS (protoS (some l)))).2).1 : Int) := by unfold connectS; simp only; split <;> rfl
      have hq := connect_qos (p := p) hn
      refine ⟨⟨by simp only [hk]; omega, by simp only [hk]; omega, hq.1, hq.2, by simp only [hkp']; omega, by simp only [hid']; omega, by simp only [hcd']; omega⟩, fun _ _ => rfl, fun _ => rfl, fun _ hw => ?_, fun h => absurd (hk.trans e1) h, fun h => absurd (hk.trans e1) h⟩
      revert hw
      unfold connectS
      simp only
      split
      · rename_i hw; intro hw2; simp only at hw2; exact absurd (hw2.symm.trans hw) (by decide)
      · intro _
        exact ⟨htp, hpl⟩
    · rw [if_neg e1] at hn ⊢
      by_cases e2 : p.kind = 2
      · rw [if_pos e2] at hn ⊢
        refine ⟨⟨hk1, hk2, hq1, hq2, ?_, ?_, ?_⟩, fun _ _ => rfl, fun _ => rfl, fun h _ => absurd h e1, fun _ => hcl, fun _ _ => ⟨htp, hpl⟩⟩
        · show 0 ≤ p.keep; omega
        · show 0 ≤ p.id; omega
        · simp only [connackS]; omega
      · rw [if_neg e2] at hn ⊢
        by_cases e3 : p.kind = 3
        · rw [if_pos e3] at hn ⊢
          have hk : (publishS p (some l)).1.kind = p.kind := by unfold publishS; split <;> rfl
          have hq : (publishS p (some l)).1.qos = p.qos := by unfold publishS; split <;> rfl
          have hkp : (publishS p (some l)).1.keep = p.keep := by unfold publishS; split <;> rfl
          have hcd : (publishS p (some l)).1.code = p.code := by unfold publishS; split <;> rfl
          have hc' : (publishS p (some l)).1.client = p.client := by unfold publishS; split <;> rfl
          have hi : 0 ≤ (publishS p (some l)).1.id := by unfold publishS; split <;> simp only <;> omega
          refine ⟨⟨by simp only [hk]; omega, by simp only [hk]; omega, by simp only [hq]; omega, by simp only [hq]; omega, by simp only [hkp]; omega, hi, by simp only [hcd]; omega⟩, fun _ _ => rfl, fun _ => rfl, fun h _ => absurd (hk.symm.trans h) e1, fun _ => hc'.trans hcl, fun _ h => absurd (hk.trans e3) h⟩
        · rw [if_neg e3] at hn ⊢
          by_cases e4 : p.kind = 4 ∨ p.kind = 5 ∨ p.kind = 6 ∨ p.kind = 7 ∨ p.kind = 11
          · rw [if_pos e4] at hn ⊢
            exact ⟨⟨hk1, hk2, hq1, hq2, by simp only; omega, by simp only; omega, by simp only; omega⟩, fun _ _ => rfl, fun _ => rfl, fun h _ => absurd h e1, fun _ => hcl, fun _ _ => ⟨htp, hpl⟩⟩
          · rw [if_neg e4] at hn ⊢
            by_cases e5 : p.kind = 8 ∨ p.kind = 10
            · rw [if_pos e5] at hn ⊢
              exact ⟨⟨hk1, hk2, hq1, hq2, by simp only; omega, by simp only; omega, by simp only; omega⟩, fun h h' => absurd e5 (by simp only at h h'; omega), fun _ => rfl, fun h _ => absurd h e1, fun _ => hcl, fun _ _ => ⟨htp, hpl⟩⟩
            · rw [if_neg e5] at hn ⊢
              by_cases e6 : p.kind = 9
              · rw [if_pos e6] at hn ⊢
                exact ⟨⟨hk1, hk2, hq1, hq2, by simp only; omega, by simp only; omega, by simp only; omega⟩, fun _ _ => rfl, fun h => absurd e6 h, fun h _ => absurd h e1, fun _ => hcl, fun _ _ => ⟨htp, hpl⟩⟩
              · rw [if_neg e6] at hn ⊢
                exact ⟨⟨hk1, hk2, hq1, hq2, by simp only; omega, by simp only; omega, by simp only; omega⟩, fun _ _ => rfl, fun _ => rfl, fun h _ => absurd h e1, fun _ => hcl, fun _ _ => ⟨htp, hpl⟩⟩
  · cases h2

theorem dec_inr {l : List UInt8} {q : Pkt × List (List UInt8 × Int) × List Int} {n : Nat} (h : decL l = .inr (q, n)) : Shape q.1 q.2.1 q.2.2 ∧ ∃ x r m k, l = x :: r ∧ lenL r = some (some (m, k)) ∧ n = 1 + k + m := by
  unfold decL at h
  split at h
  · cases h
  · rename_i x r
    split at h
    · cases h
    · rename_i p hp
      split at h
      · cases h
      · cases h
      · rename_i m k hm
        split at h
        · cases h
        · split at h
          · cases h
          · rename_i q' hq
            injection h with h
            injection h with h h'
            subst h h'
            exact ⟨body_shape hp hq, x, r, m, k, rfl, hm, rfl⟩

theorem Shape.same {p q : Pkt} {gs : List (List UInt8 × Int)} {ds : List Int} (h : Shape q gs ds) (hs : sameP p q) : Shape p gs ds := by
  obtain ⟨h1, h2, h3, h4, h5, h6, h7, h8, h9, h10, h11, h12, h13⟩ := hs
  obtain ⟨a, b, c, d, e, f⟩ := h
  unfold rangeB at a
  rw [← h1, ← h4, ← h7, ← h9, ← h13] at a
  rw [← h1] at b c d e f
  rw [← h3, ← h11, ← h12] at d
  rw [← h5] at e
  rw [← h11, ← h12] at f
  exact ⟨a, b, c, d, e, f⟩

theorem body_same {cb : UInt8} {p : Pkt} {fs : List (List UInt8 × Int)} {cs : List Int} (h : Shape p fs cs) (hc : cb = cbR p) : bodyR p fs cs = bodyW cb p fs cs := by
  obtain ⟨⟨hk1, hk2, hq1, hq2, hkp, hid, hcd⟩, hgs, hds, hw, hcl, htp⟩ := h
  subst hc
  unfold bodyR bodyW
  by_cases e1 : p.kind = 1
  · rw [if_pos e1, if_pos e1, two_same hkp, txt_same, txt_same, txt_same]
    rfl
  · rw [if_neg e1, if_neg e1]
    by_cases e2 : p.kind = 2
    · rw [if_pos e2, if_pos e2]
    · rw [if_neg e2, if_neg e2]
      by_cases e3 : p.kind = 3
      · rw [if_pos e3, if_pos e3, txt_same, two_same hid]
      · rw [if_neg e3, if_neg e3]
        by_cases e4 : p.kind = 4 ∨ p.kind = 5 ∨ p.kind = 6 ∨ p.kind = 7 ∨ p.kind = 11
        · rw [if_neg (by omega), if_pos e4, hgs (by omega) (by omega), hds (by omega), two_same hid]
          simp
        · rw [if_neg e4]
          by_cases e5 : p.kind = 8 ∨ p.kind = 10
          · rw [if_neg (by omega), if_pos e5, hds (by omega), two_same hid, fil_same]
            simp
          · rw [if_neg e5]
            by_cases e6 : p.kind = 9
            · rw [if_neg (by omega), if_pos e6, hgs (by omega) (by omega), two_same hid]
              simp
            · rw [if_pos (by omega), if_neg e6]

theorem filN_le (k8 : Bool) : ∀ fs : List (List UInt8 × Int), filN fs ≤ (fs.flatMap (filW k8)).length
  | [] => by simp [filN]
  | f :: r => by
    have := filN_le k8 r
    simp only [filN, List.flatMap_cons, List.length_append, filW, txtW, twoW, List.length_cons, List.length_nil]
    omega
theorem weight_le {cb : UInt8} {p : Pkt} {fs : List (List UInt8 × Int)} {cs : List Int} (h : Shape p fs cs) : weight p fs cs ≤ (bodyW cb p fs cs).length := by
  obtain ⟨⟨hk1, hk2, hq1, hq2, hkp, hid, hcd⟩, hgs, hds, hw, hcl, htp⟩ := h
  unfold weight bodyW
  by_cases e1 : p.kind = 1
  · rw [if_pos e1, hgs (by omega) (by omega), hds (by omega)]
    cases hW : p.will with
    | false =>
      rw [(hw e1 hW).1, (hw e1 hW).2]
      simp [filN, txtW, twoW]
      omega
    | true =>
      simp [filN, txtW, twoW]
      omega
  · rw [if_neg e1, hcl e1]
    by_cases e3 : p.kind = 3
    · rw [if_neg (by omega), if_pos e3, hgs (by omega) (by omega), hds (by omega)]
      simp [filN, txtW, twoW]
      omega
    · rw [(htp e1 e3).1, (htp e1 e3).2]
      by_cases e5 : p.kind = 8 ∨ p.kind = 10
      · rw [if_neg (by omega), if_neg (by omega), if_neg (by omega), if_pos e5, hds (by omega)]
        have := filN_le (p.kind == 8) fs
        simp only [List.length_append, List.length_nil]
        omega
      · rw [hgs (by omega) (by omega)]
        by_cases e6 : p.kind = 9
        · rw [if_neg (by omega), if_neg (by omega), if_neg (by omega), if_neg (by omega), if_pos e6]
          simp [filN]
        · rw [hds e6]
          simp [filN]

theorem enc_same (fw cb : UInt8) (p : Pkt) (fs : List (List UInt8 × Int)) (cs : List Int) (hf : rangeB p → fw = firstR p) (hc : rangeB p → cb = cbR p) : encL fw cb p fs cs = refL p fs cs := by
  have key1 : ∀ b, encL fw cb p fs cs = some b → refL p fs cs = some b := fun b h => by
    unfold encL at h
    split at h
    · cases h
    · rename_i hlen
      split at h
      · cases h
      · rename_i q n hd
        split at h
        · rename_i hs
          injection h with h
          subst h
          obtain ⟨hS, x, r, m, k, hxr, hlm, hn⟩ := dec_inr hd
          obtain ⟨hs1, hs2, hs3⟩ := hs
          have hS' := hS.same hs1
          rw [← hs2, ← hs3] at hS'
          have eb := body_same hS' (hc hS'.rng)
          have ef := hf hS'.rng
          have hB : bytesR p fs cs = fw :: (lenW (bodyW cb p fs cs).length ++ bodyW cb p fs cs) := by
            unfold bytesR; rw [eb, len_same, ← ef]
          unfold refL
          rw [if_pos ⟨Nat.le_trans (weight_le hS') (Nat.le_of_not_lt hlen), hS'.rng⟩, hB, hd]
          simp only
          rw [if_pos]
          refine ⟨?_, hs1, hs2, hs3⟩
          injection hxr with _ hxr
          rw [← hxr, lenL_lenW (Nat.le_of_not_lt hlen)] at hlm
          injection hlm with hlm
          injection hlm with hlm
          injection hlm with hm hk
          rw [hn, ← hm, ← hk]
          simp only [List.length_cons, List.length_append]
          omega
        · cases h
  have key2 : ∀ b, refL p fs cs = some b → encL fw cb p fs cs = some b := fun b h => by
    unfold refL at h
    split at h
    · split at h
      · cases h
      · rename_i q n hd
        split at h
        · rename_i hs
          injection h with h
          subst h
          obtain ⟨hS, x, r, m, k, hxr, hlm, hn⟩ := dec_inr hd
          obtain ⟨hs0, hs1, hs2, hs3⟩ := hs
          have hS' := hS.same hs1
          rw [← hs2, ← hs3] at hS'
          have eb := body_same hS' (hc hS'.rng)
          have ef := hf hS'.rng
          have hB : bytesR p fs cs = fw :: (lenW (bodyW cb p fs cs).length ++ bodyW cb p fs cs) := by
            unfold bytesR; rw [eb, len_same, ← ef]
          have hle := lenL_le hlm
          have hlen : ¬ 300 < (bodyW cb p fs cs).length := by
            have hL : (bytesR p fs cs).length = 1 + ((lenW (bodyW cb p fs cs).length).length + (bodyW cb p fs cs).length) := by
              rw [hB]; simp only [List.length_cons, List.length_append]; omega
            rw [lenW_len] at hL
            split at hL <;> omega
          unfold encL
          rw [if_neg hlen, ← hB, hd]
          simp only
          rw [if_pos ⟨hs1, hs2, hs3⟩]
        · cases h
    · cases h
  cases h1 : encL fw cb p fs cs with
  | some b => exact (key1 b h1).symm
  | none =>
    cases h2 : refL p fs cs with
    | none => rfl
    | some b => rw [key2 b h2] at h1; cases h1
end Go.Proofs.YtnmfmoimjkoieaaGreatDoor.encPlain

/- courantref.Bytes: the packet that came in, in memory, beside what is made. -/
namespace Go.Proofs.YtnmfmoimjkoieaaGreatDoor.rfe
open Go.RowKit Go.Proofs.YtnmfmoimjkoieaaGreatDoor.topPlain Go.Proofs.YtnmfmoimjkoieaaGreatDoor.topWalks Go.Proofs.YtnmfmoimjkoieaaGreatDoor.decPlain Go.Proofs.YtnmfmoimjkoieaaGreatDoor.encPlain Go.Proofs.YtnmfmoimjkoieaaGreatDoor.ew
open Go.Proofs.YtnmfmoimjkoieaaGreatDoor.rd (pkCells)

theorem bsz (l : List UInt8) : (bs l).size = l.length := by simp [bs, ByteArray.size]
theorem pk15 {w : World} {b : Nat} {t : TypeId} {v0 v1 v2 v3 v4 v5 v6 v7 v8 v9 v10 v11 v12 v13 v14 : Value} (h : w.heap[b]? = some (.cells #[v0, v1, v2, v3, v4, v5, v6, v7, v8, v9, v10, v11, v12, v13, v14] t)) : w.cell? ⟨b, 0, none⟩ = some v0 ∧ w.cell? ⟨b, 1, none⟩ = some v1 ∧ w.cell? ⟨b, 2, none⟩ = some v2 ∧ w.cell? ⟨b, 3, none⟩ = some v3 ∧ w.cell? ⟨b, 4, none⟩ = some v4 ∧ w.cell? ⟨b, 5, none⟩ = some v5 ∧ w.cell? ⟨b, 6, none⟩ = some v6 ∧ w.cell? ⟨b, 7, none⟩ = some v7 ∧ w.cell? ⟨b, 8, none⟩ = some v8 ∧ w.cell? ⟨b, 9, none⟩ = some v9 ∧ w.cell? ⟨b, 10, none⟩ = some v10 ∧ w.cell? ⟨b, 11, none⟩ = some v11 ∧ w.cell? ⟨b, 12, none⟩ = some v12 ∧ w.cell? ⟨b, 13, none⟩ = some v13 ∧ w.cell? ⟨b, 14, none⟩ = some v14 := by
  refine ⟨?_, ?_, ?_, ?_, ?_, ?_, ?_, ?_, ?_, ?_, ?_, ?_, ?_, ?_, ?_⟩
  all_goals simp [World.cell?, h]
/-- the packet in block w.heap.size, all that was there as it was -/
structure St (w wx : World) (o : Obj) : Prop where
  below : Below w.heap.size w wx
  blk : wx.heap[w.heap.size]? = some o
theorem St.new (w : World) (o : Obj) : St w (w.alloc o) o := ⟨(Below.refl _ _).alloc (Nat.le_refl _) o, Go.Deep.blk_alloc_new _ _⟩
theorem St.lt {w wx : World} {o : Obj} (h : St w wx o) : w.heap.size < wx.heap.size := (Array.getElem?_eq_some_iff.1 h.blk).1
theorem St.drew {w wx : World} {o : Obj} (h : St w wx o) : St w wx.drew o := ⟨h.below.drew, h.blk⟩
theorem St.drewN {w wx : World} {o : Obj} (h : St w wx o) (n : Nat) : St w (wx.drewN n) o := ⟨below_drewN h.below n, h.blk⟩
theorem St.call {w wx w' : World} {o : Obj} (h : St w wx o) (hb : Below wx.heap.size wx w') : St w w' o := ⟨h.below.trans (hb.mono (Nat.le_of_lt h.lt)), (hb.block _ h.lt).trans h.blk⟩
/-- filters, and numbers, as they lie in memory, anywhere -/
def FilX (w : World) (v : Value) (fs : List (List UInt8 × Int)) : Prop := ∃ q cap, v = .slice q fs.length cap ∧ fs.length ≤ maxLen ∧ ∀ (j : Nat) f, fs[j]? = some f → ∃ g o, q = some ⟨g, o, none⟩ ∧ g < w.heap.size ∧ w.cell? ⟨g, o + j * 2, none⟩ = some (.string (bs f.1)) ∧ w.cell? ⟨g, o + j * 2 + 1, none⟩ = some (.int .i64 f.2)
def IntX (w : World) (v : Value) (cs : List Int) : Prop := ∃ q cap, v = .slice q cs.length cap ∧ cs.length ≤ maxLen ∧ ∀ (j : Nat) c, cs[j]? = some c → ∃ g o, q = some ⟨g, o, none⟩ ∧ g < w.heap.size ∧ w.cell? ⟨g, o + j, none⟩ = some (.int .i64 c)
theorem FilX.below {w w' : World} {v : Value} {fs : List (List UInt8 × Int)} (h : FilX w v fs) (hb : Below w.heap.size w w') : FilX w' v fs := by
  obtain ⟨q, cap, h1, h2, h3⟩ := h
  refine ⟨q, cap, h1, h2, fun j f hf => ?_⟩
  obtain ⟨g, o, e, hg, a, b⟩ := h3 j f hf
  exact ⟨g, o, e, Nat.lt_of_lt_of_le hg hb.size, by rw [hb.cell hg]; exact a, by rw [hb.cell hg]; exact b⟩
theorem IntX.below {w w' : World} {v : Value} {cs : List Int} (h : IntX w v cs) (hb : Below w.heap.size w w') : IntX w' v cs := by
  obtain ⟨q, cap, h1, h2, h3⟩ := h
  refine ⟨q, cap, h1, h2, fun j f hf => ?_⟩
  obtain ⟨g, o, e, hg, a⟩ := h3 j f hf
  exact ⟨g, o, e, Nat.lt_of_lt_of_le hg hb.size, by rw [hb.cell hg]; exact a⟩
theorem i64w (n : Int) : IntKind.i64.wrap n = wrap64 n := by unfold wrap64; rw [IntKind.wrap_i64]
theorem twoR_len (n : Int) : (twoR n).length = 2 := rfl
theorem txtR_len (l : List UInt8) : (txtR l).length = 2 + l.length := by simp [txtR, twoR_len]
theorem byt8_wrap (n : Int) : byt8 (wrap64 n) = byt8 n := by
  unfold byt8 wrap64
  rw [show ((n + 9223372036854775808) % 18446744073709551616 - 9223372036854775808) % 256 = n % 256 by omega]
end Go.Proofs.YtnmfmoimjkoieaaGreatDoor.rfe

/- What decodes needs besides: how long a packet's lists are; a list that is owned reads as Same asks. -/
namespace Go.Proofs.YtnmfmoimjkoieaaGreatDoor.lw
open Go.RowKit Go.Proofs.YtnmfmoimjkoieaaGreatDoor.topPlain Go.Proofs.YtnmfmoimjkoieaaGreatDoor.topWalks Go.Proofs.YtnmfmoimjkoieaaGreatDoor.decPlain Go.Proofs.YtnmfmoimjkoieaaGreatDoor.rd

theorem codL_len : ∀ (l : List UInt8) (acc : List Int), (codL l acc).1.length ≤ acc.length + l.length
  | [], acc => by simp [codL]
  | x :: r, acc => by
    rw [codL]
    split
    · have := codL_len r (acc ++ [(x.toNat : Int)])
      simp at this ⊢
      omega
    · simp
theorem filF_len (k8 : Bool) : ∀ (n : Nat) (st : Option (List UInt8)) (acc : List (List UInt8 × Int)), (filF k8 n st acc).1.length ≤ acc.length + n
  | 0, _, _ => by simp [filF]
  | n + 1, st, acc => by
    rw [filF]
    split
    · show acc.length ≤ acc.length + (n + 1)
      omega
    · have := filF_len k8 n (filStep k8 st).2 (acc ++ [(filStep k8 st).1])
      rw [List.length_append, List.length_singleton] at this
      omega
theorem codesS_len (st : Option (List UInt8)) : (codesS st).1.length ≤ lenS st := by
  unfold codesS
  have h := wantS_len (decide (0 < lenS st)) st
  revert h
  generalize wantS (decide (0 < lenS st)) st = s
  intro h
  cases s with
  | none => simp [codR]
  | some l =>
    have := codL_len l []
    simp only [List.length_nil, Nat.zero_add] at this
    exact Nat.le_trans this h
theorem filtersS_len (k8 : Bool) (st : Option (List UInt8)) : (filtersS k8 st).1.length ≤ lenS st := by
  unfold filtersS filR
  have h := wantS_len (decide (0 < lenS st)) st
  have := filF_len k8 (lenS (wantS (decide (0 < lenS st)) st)) (wantS (decide (0 < lenS st)) st) []
  rw [List.length_nil] at this
  omega
theorem packetS_len (p : Pkt) (st : Option (List UInt8)) : (packetS p st).2.1.length ≤ lenS st ∧ (packetS p st).2.2.1.length ≤ lenS st := by
  have h1 := idS_len st
  have h2 := filtersS_len (p.kind == 8) (idS st).2
  have h3 := codesS_len (idS st).2
  unfold packetS
  repeat' split
  all_goals exact ⟨by first | exact Nat.zero_le _ | exact Nat.le_trans h2 h1, by first | exact Nat.zero_le _ | exact Nat.le_trans h3 h1⟩
theorem bodyS_len (p : Pkt) (l : List UInt8) (q : Pkt × List (List UInt8 × Int) × List Int) (h : bodyS p l = some q) : q.2.1.length ≤ l.length ∧ q.2.2.length ≤ l.length := by
  unfold bodyS at h
  split at h
  · have := Option.some.inj h
    subst this
    exact packetS_len p (some l)
  · cases h
theorem decL_len (l : List UInt8) (r : (Pkt × List (List UInt8 × Int) × List Int) × Nat) (h : decL l = .inr r) : r.1.2.1.length ≤ l.length ∧ r.1.2.2.length ≤ l.length := by
  unfold decL at h
  split at h
  · cases h
  · rename_i x t
    split at h
    · cases h
    · split at h
      · cases h
      · cases h
      · rename_i n k _
        split at h
        · cases h
        · split at h
          · cases h
          · rename_i q hq
            have := Sum.inr.inj h
            subst this
            have hb := bodyS_len _ _ _ hq
            have hl : ((t.drop k).take n).length ≤ (x :: t).length := by simp; omega
            exact ⟨Nat.le_trans hb.1 hl, Nat.le_trans hb.2 hl⟩

theorem filC_get : ∀ (fs : List (List UInt8 × Int)) (j : Nat) (f : List UInt8 × Int), fs[j]? = some f → (filC fs)[j * 2]? = some (.string (bs f.1)) ∧ (filC fs)[j * 2 + 1]? = some (.int .i64 f.2)
  | [], j, f, h => by simp at h
  | g :: r, 0, f, h => by
    have : g = f := by simpa using h
    subst this
    exact ⟨rfl, rfl⟩
  | g :: r, j + 1, f, h => by
    have h' : r[j]? = some f := by simpa using h
    obtain ⟨a, b⟩ := filC_get r j f h'
    have e : filC (g :: r) = .string (bs g.1) :: .int .i64 g.2 :: filC r := rfl
    rw [e, show (j + 1) * 2 = j * 2 + 1 + 1 by omega]
    exact ⟨by simpa using a, by simpa using b⟩
theorem own_cellP {w : World} {B sz n : Nat} {e : TypeId} {v : Value} {xs : List Value} (h : w.ownsRow B e sz v n xs) (i : Nat) (u : Value) (hu : xs[i]? = some u) : ∃ g cap, v = .slice (some ⟨g, 0, none⟩) n cap ∧ g < w.heap.size ∧ w.cell? ⟨g, i, none⟩ = some u := by
  have hi : i < xs.length := (List.getElem?_eq_some_iff.1 hu).1
  have hx := h.1
  rcases h.2 with ⟨_, h0⟩ | ⟨g, cap, cur, e1, _, hh, h1, _, h3, h4⟩
  · rw [h0, Nat.zero_mul] at hx
    omega
  · refine ⟨g, cap, e1, (Array.getElem?_eq_some_iff.1 hh).1, ?_⟩
    have h5 : cur.toList[i]? = some u := by
      rw [← hu, ← h4, List.getElem?_take_of_lt (by omega)]
    simp [World.cell?, hh]
    simpa using h5
theorem own_formP {w : World} {B sz n : Nat} {e : TypeId} {v : Value} {xs : List Value} (h : w.ownsRow B e sz v n xs) : ∃ q cap, v = .slice q n cap ∧ n ≤ maxLen := by
  rcases h.2 with ⟨e1, h0⟩ | ⟨g, cap, cur, e1, _, hh, h1, h2, _⟩
  · exact ⟨none, 0, by rw [e1, h0], by omega⟩
  · exact ⟨_, _, e1, Nat.le_trans h1 h2⟩
theorem filV_of {w : World} {B : Nat} {v : Value} {fs : List (List UInt8 × Int)} (h : w.ownsRow B 95 2 v fs.length (filC fs)) : rf.FilV w v fs := by
  obtain ⟨q, cap, e, hm⟩ := own_formP h
  refine ⟨q, cap, e, hm, fun j f hf => ?_⟩
  obtain ⟨a, b⟩ := filC_get fs j f hf
  obtain ⟨g, c1, e1, hg, k1⟩ := own_cellP h _ _ a
  obtain ⟨g2, c2, e2, _, k2⟩ := own_cellP h _ _ b
  rw [e] at e1 e2
  injection e1 with e1
  injection e2 with e2
  rw [e1] at e2
  have : g = g2 := by injection e2 with e2; injection e2
  subst this
  exact ⟨g, e1, hg, k1, k2⟩
theorem intV_of {w : World} {B : Nat} {v : Value} {cs : List Int} (h : w.ownsRow B 3 1 v cs.length (ints cs)) : rf.IntV w v cs := by
  obtain ⟨q, cap, e, hm⟩ := own_formP h
  refine ⟨q, cap, e, hm, fun j c hc => ?_⟩
  obtain ⟨g, c1, e1, hg, k1⟩ := own_cellP h j (.int .i64 c) (by simp [ints, hc])
  rw [e] at e1
  injection e1 with e1
  exact ⟨g, e1, hg, k1⟩
end Go.Proofs.YtnmfmoimjkoieaaGreatDoor.lw
