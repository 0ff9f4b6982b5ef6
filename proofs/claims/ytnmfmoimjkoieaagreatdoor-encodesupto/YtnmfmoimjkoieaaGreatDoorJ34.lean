import Derived.Test.YtnmfmoimjkoieaaGreatDoorJ01
import Derived.Test.YtnmfmoimjkoieaaGreatDoorJ04
import Derived.Deep.QuietTactic
import Derived.BigQuiet
import Derived.Test.YtnmfmoimjkoieaaGreatDoorJ09
import Derived.Test.YtnmfmoimjkoieaaGreatDoorJ05
/- What courantref.number and courantref.text answer of a place in a text, in the words of the reader of package packets. courantref.connect: the packet in memory, the way out, and the bodies that are too short or begin wrong. courantref.filters: those of a SUBSCRIBE or an UNSUBSCRIBE, in a list of the call's own, or false. -/
namespace Go.Proofs.YtnmfmoimjkoieaaGreatDoor.rf
open Go.RowKit Go.Proofs.YtnmfmoimjkoieaaGreatDoor.topPlain Go.Proofs.YtnmfmoimjkoieaaGreatDoor.topWalks Go.Proofs.YtnmfmoimjkoieaaGreatDoor.decPlain

theorem ret_int {k : IntKind} {a b : Int} (h : a = b) : Ending.returned (.int k a) = .returned (.int k b) := by rw [h]
theorem wraps_i64 (n : Int) (h0 : 0 ≤ n) (h1 : n < 2 ^ 62) : IntKind.i64.wrap n = n := by rw [IntKind.wrap_i64]; omega
set_option maxHeartbeats 800000 in
set_option maxRecDepth 100000 in
theorem number_any (s : ByteArray) (k : Nat) (w : World) (hk : k ≤ 4294967296) :
    Calls Tryz.prog 96 #[.string s, .int .i64 (k : Int)] w fun e w' => e = .returned (.int .i64 (numAt s.data.toList k)) ∧ ∃ n, w' = w.drewN n := by
  by_cases h : s.size < k + 2
  · rw [numAt_short _ _ (by rw [← Lib.size_eq]; exact h)]
    have hlt : (s.size : Int) < (k : Int) + 2 := by omega
    go_enter Tryz.func96, Tryz.ntmps96
    go_wp2
    go_ret
    exact ⟨rfl, 0, rfl⟩
  · rw [numAt_long _ _ (by rw [← Lib.size_eq]; omega)]
    have hlt : ¬ ((s.size : Int) < (k : Int) + 2) := by omega
    have h0 : (k : Int) < (s.size : Int) := by omega
    have h1 : (k : Int) + 1 < (s.size : Int) := by omega
    have hw1 : IntKind.i64.wrap ((k : Int) + 1) = (k : Int) + 1 := wraps_i64 _ (by omega) (by omega)
    have ht1 : ((k : Int) + 1).toNat = k + 1 := by omega
    have e0 : s.data.toList[k]'(by rw [← Lib.size_eq]; omega) = s[k]'(by omega) := by
      have := get_list s k (by omega)
      exact (List.getElem?_eq_some_iff.1 this).2
    have e1 : s.data.toList[k + 1]'(by rw [← Lib.size_eq]; omega) = s[k + 1]'(by omega) := by
      have := get_list s (k + 1) (by omega)
      exact (List.getElem?_eq_some_iff.1 this).2
    rw [e0, e1]
    obtain ⟨x, hx⟩ : ∃ x : UInt8, s[k]'(by omega) = x := ⟨_, rfl⟩
    obtain ⟨y, hy⟩ : ∃ y : UInt8, s[k + 1]'(by omega) = y := ⟨_, rfl⟩
    rw [hx, hy]
    clear e0 e1
    have hxl : (x.toNat : Int) < 256 := by have := x.toNat_lt; omega
    have hyl : (y.toNat : Int) < 256 := by have := y.toNat_lt; omega
    have wx : IntKind.i64.wrap (x.toNat : Int) = (x.toNat : Int) := wraps_i64 _ (by omega) (by omega)
    have wy : IntKind.i64.wrap (y.toNat : Int) = (y.toNat : Int) := wraps_i64 _ (by omega) (by omega)
    have wm : IntKind.i64.wrap (256 * (x.toNat : Int)) = 256 * (x.toNat : Int) := wraps_i64 _ (by omega) (by omega)
    have ws : IntKind.i64.wrap (256 * (x.toNat : Int) + (y.toNat : Int)) = 256 * (x.toNat : Int) + (y.toNat : Int) := wraps_i64 _ (by omega) (by omega)
    go_enter Tryz.func96, Tryz.ntmps96
    go_wp2
    go_quiet (fail)
    go_wp2
    go_ret
    exact ⟨ret_int rfl, nq, rfl⟩

set_option maxHeartbeats 800000 in
set_option maxRecDepth 100000 in
theorem text_any (s : ByteArray) (k : Nat) (w : World) (hs : s.size ≤ 4294967280) (hk : k ≤ 4294967296) :
    Calls Tryz.prog 94 #[.string s, .int .i64 (k : Int)] w fun e w' => e = .returned (.tuple #[.string (bs (txtAt s.data.toList k).1), .int .i64 (txtAt s.data.toList k).2]) ∧ ∃ n, w' = w.drewN n := by
  have cN := hide (number_any s k w hk)
  by_cases h : s.size < k + 2
  · rw [txtAt_short _ _ (by rw [← Lib.size_eq]; exact h)]
    rw [numAt_short _ _ (by rw [← Lib.size_eq]; exact h)] at cN
    clear h
    go_enter Tryz.func94, Tryz.ntmps94
    go_wp2_with fail
    refine (unhide cN).mono ?_
    rintro e w1 ⟨rfl, n, rfl⟩
    go_wp2
    go_ret2
    exact ⟨rfl, n, rfl⟩
  · have hle : k + 2 ≤ s.data.toList.length := by rw [← Lib.size_eq]; omega
    obtain ⟨n, hn⟩ : ∃ n : Nat, numAt s.data.toList k = n := ⟨(numAt s.data.toList k).toNat, by rw [numAt_long _ _ hle]; omega⟩
    have hnl : n < 65536 := by
      have := hn
      rw [numAt_long _ _ hle] at this
      have h1 := (s.data.toList[k]'(by omega)).toNat_lt
      have h2 := (s.data.toList[k + 1]'(by omega)).toNat_lt
      omega
    rw [txtAt_long _ _ n hle hn, ← Lib.size_eq]
    rw [hn] at cN
    clear hn hle
    by_cases hfit : k + 2 + n ≤ s.size
    · rw [if_pos hfit]
      have hx : s.extract (k + 2) (k + 2 + n) = bs ((s.data.toList.drop (k + 2)).take n) := by
        rw [ext_bs, show k + 2 + n - (k + 2) = n by omega]
      have HX := hide hx
      have hz : ¬ ((s.size : Int) < (k : Int) + 2 + (n : Int)) := by omega
      have b1 : (0 : Int) ≤ (k : Int) + 2 := by omega
      have b2 : (k : Int) + 2 ≤ (k : Int) + 2 + (n : Int) := by omega
      have b3 : (k : Int) + 2 + (n : Int) ≤ (s.size : Int) := by omega
      have b4 : (0 : Int) ≤ (k : Int) + 2 + (n : Int) := by omega
      have t1 : ((k : Int) + 2).toNat = k + 2 := by omega
      have t2 : ((k : Int) + 2 + (n : Int)).toNat = k + 2 + n := by omega
      clear hx
      go_enter Tryz.func94, Tryz.ntmps94
      go_wp2_with fail
      refine (unhide cN).mono ?_
      rintro e w1 ⟨rfl, m, rfl⟩
      go_wp2
      go_ret2
      refine ⟨?_, m, rfl⟩
      rw [← HX.out, show ((k + 2 + n : Nat) : Int) = (k : Int) + 2 + (n : Int) by omega]
      rfl
    · rw [if_neg hfit]
      have hz : (s.size : Int) < (k : Int) + 2 + (n : Int) := by omega
      go_enter Tryz.func94, Tryz.ntmps94
      go_wp2_with fail
      refine (unhide cN).mono ?_
      rintro e w1 ⟨rfl, m, rfl⟩
      go_wp2
      go_ret2
      exact ⟨rfl, m, rfl⟩
end Go.Proofs.YtnmfmoimjkoieaaGreatDoor.rf

namespace Go.Proofs.YtnmfmoimjkoieaaGreatDoor.rf
open Go.RowKit Go.Proofs.YtnmfmoimjkoieaaGreatDoor.topPlain Go.Proofs.YtnmfmoimjkoieaaGreatDoor.topWalks Go.Proofs.YtnmfmoimjkoieaaGreatDoor.decPlain Go.Proofs.YtnmfmoimjkoieaaGreatDoor.rd

/-- a packet in block B, the result behind it, all below as it was -/
structure Dc (w0 w : World) (B : Nat) (p : Pkt) : Prop where
  pk : PkIs w B p
  res : w.heap[B + 1]? = some (.cells (pkCells zeroP) 36)
  bel : Below B w0 w
  inv : topWalks.Inv w
  low : 5 ≤ B
theorem Dc.lt {w0 w : World} {B : Nat} {p : Pkt} (h : Dc w0 w B p) : B + 1 < w.heap.size := (Array.getElem?_eq_some_iff.1 h.res).1
theorem Dc.set {w0 w : World} {B o : Nat} {p p' : Pkt} {u : Value} (h : Dc w0 w B p) (hP : PkIs (w.setCell ⟨B, o, none⟩ u) B p') : Dc w0 (w.setCell ⟨B, o, none⟩ u) B p' :=
  ⟨hP, (Below.heap_setCell _ _ _ _ (by simp)).trans h.res, h.bel.setCell (Nat.le_refl _) u, inv_grown h.inv h.low (grown_set _ _ _ _), h.low⟩
theorem Dc.belStep {w0 w w' : World} {B : Nat} {p : Pkt} (h : Dc w0 w B p) (hb : Below w.heap.size w w') : Dc w0 w' B p :=
  ⟨h.pk.grown (br := B + 1) (by omega) (grown_below hb), (hb.block _ h.lt).trans h.res, h.bel.trans (hb.mono (by have := h.lt; omega)), inv_grown h.inv h.low (grown_below hb), h.low⟩
theorem Dc.drawn {w0 w : World} {B : Nat} {p : Pkt} (h : Dc w0 w B p) (n : Nat) : Dc w0 (w.drewN n) B p := h.belStep (below_drewN (Below.refl _ _) n)
theorem pkIs_heap {w : World} {b : Nat} {p : Pkt} (h : w.heap[b]? = some (.cells (pkCells p) 36)) : PkIs w b p := by
  constructor
  · intro i; simp [World.frozen?, h]
  all_goals simp [World.cell?, h, pkCells]
theorem Dc.begin (w : World) (p : Pkt) (hI : topWalks.Inv w) (hN : 5 ≤ w.heap.size) : Dc w ((w.alloc (.cells (pkCells p) 36)).alloc (.cells (pkCells zeroP) 36)) w.heap.size p := by
  have hb : Below w.heap.size w ((w.alloc (.cells (pkCells p) 36)).alloc (.cells (pkCells zeroP) 36)) := ((Below.refl _ _).alloc (Nat.le_refl _) _).alloc (by simp) _
  refine ⟨?_, ?_, hb, inv_grown hI hN (grown_below hb), hN⟩
  · have h : ((w.alloc (.cells (pkCells p) 36)).alloc (.cells (pkCells zeroP) 36)).heap[w.heap.size]? = some (.cells (pkCells p) 36) := by
      rw [Below.heap_alloc _ _ _ (by simp)]
      show (w.heap.push _)[w.heap.size]? = _
      simp
    exact pkIs_heap h
  · show ((w.heap.push _).push _)[w.heap.size + 1]? = _
    rw [Array.getElem?_push, if_pos (by simp)]
theorem zero_some2 {w : World} {N : Nat} (h : w.heap[N]? = some (.cells (pkCells zeroP) 36)) : ∀ j, j < 15 → (w.cell? ⟨N, 0 + j, none⟩).isSome = true := by
  obtain ⟨z0, z1, z2, z3, z4, z5, z6, z7, z8, z9, z10, z11, z12, z13, z14⟩ := zero_cells h
  intro j hj
  rcases (by omega : j = 0 ∨ j = 1 ∨ j = 2 ∨ j = 3 ∨ j = 4 ∨ j = 5 ∨ j = 6 ∨ j = 7 ∨ j = 8 ∨ j = 9 ∨ j = 10 ∨ j = 11 ∨ j = 12 ∨ j = 13 ∨ j = 14) with rfl | rfl | rfl | rfl | rfl | rfl | rfl | rfl | rfl | rfl | rfl | rfl | rfl | rfl | rfl
  · simp [z0]
  · simp [z1]
  · simp [z2]
  · simp [z3]
  · simp [z4]
  · simp [z5]
  · simp [z6]
  · simp [z7]
  · simp [z8]
  · simp [z9]
  · simp [z10]
  · simp [z11]
  · simp [z12]
  · simp [z13]
  · simp [z14]

def DcPost (w : World) (q : Pkt) (ok : Bool) (e : Ending) (w' : World) : Prop := e = .returned (.tuple #[.agg (pkCells q), .bool ok]) ∧ Below w.heap.size w w'

set_option maxHeartbeats 800000 in
theorem results_dc (X : World) (tmps : Array Value) (N : Nat) (v0 v1 v2 v3 v4 v5 v6 v7 v8 v9 v10 v11 v12 v13 v14 : Value) (ht : tmps[4]?.getD undef = .pointer (some ⟨N, 0, none⟩)) (h0 : X.cell? ⟨N, 0, none⟩ = some v0) (h1 : X.cell? ⟨N, 1, none⟩ = some v1) (h2 : X.cell? ⟨N, 2, none⟩ = some v2) (h3 : X.cell? ⟨N, 3, none⟩ = some v3) (h4 : X.cell? ⟨N, 4, none⟩ = some v4) (h5 : X.cell? ⟨N, 5, none⟩ = some v5) (h6 : X.cell? ⟨N, 6, none⟩ = some v6) (h7 : X.cell? ⟨N, 7, none⟩ = some v7) (h8 : X.cell? ⟨N, 8, none⟩ = some v8) (h9 : X.cell? ⟨N, 9, none⟩ = some v9) (h10 : X.cell? ⟨N, 10, none⟩ = some v10) (h11 : X.cell? ⟨N, 11, none⟩ = some v11) (h12 : X.cell? ⟨N, 12, none⟩ = some v12) (h13 : X.cell? ⟨N, 13, none⟩ = some v13) (h14 : X.cell? ⟨N, 14, none⟩ = some v14) :
    (results Tryz.f93 tmps).run Tryz.prog X = .ok (.tuple #[.agg #[v0, v1, v2, v3, v4, v5, v6, v7, v8, v9, v10, v11, v12, v13, v14], tmps.getD 5 undef]) X := by
  simp [results, Tryz.results93, go_sem, ht, h0, h1, h2, h3, h4, h5, h6, h7, h8, h9, h10, h11, h12, h13, h14]
theorem results_dc_new (w0 : World) (tmps : Array Value) (q : Pkt) (N : Nat) (hN : w0.heap.size = N) (ht : tmps[4]?.getD undef = .pointer (some ⟨N, 0, none⟩)) :
    (results Tryz.f93 tmps).run Tryz.prog (w0.alloc (.cells (pkCells q) 36)) = .ok (.tuple #[.agg (pkCells q), tmps.getD 5 undef]) (w0.alloc (.cells (pkCells q) 36)) := by
  subst hN
  have h : PkIs (w0.alloc (.cells (pkCells q) 36)) w0.heap.size q := pkIs_heap (by show (w0.heap.push _)[w0.heap.size]? = _; simp)
  exact results_dc _ _ _ _ _ _ _ _ _ _ _ _ _ _ _ _ _ _ ht h.c0 h.c1 h.c2 h.c3 h.c4 h.c5 h.c6 h.c7 h.c8 h.c9 h.c10 h.c11 h.c12 h.c13 h.c14

set_option maxHeartbeats 1600000 in
set_option maxRecDepth 100000 in
theorem dc_short (s : ByteArray) (p : Pkt) (w : World) (hs : s.size < 12 ∨ (12 ≤ s.size ∧ ((s.extract 0 7).toList == [0, 4, 77, 81, 84, 84, 4]) = false)) (hfv : p.fv = .slice none 0 0) (hcv : p.cv = .slice none 0 0) :
    Calls Tryz.prog 93 #[.string s, .agg (pkCells p)] w (DcPost w p false) := by
  obtain ⟨kind, clean, will, keep, client, present, code, dup, qos, retain, topic, payload, id, fv, cv⟩ := p
  obtain rfl := hfv
  obtain rfl := hcv
  rcases hs with hs | ⟨hs, hx⟩
  · have hlt : (s.size : Int) < 12 := by omega
    clear hs
    simp only [pkCells]
    go_enter Tryz.func93, Tryz.ntmps93
    go_wp2_with fail
    refine bodyPost_ret (results_dc_new _ _ ⟨kind, clean, will, keep, client, present, code, dup, qos, retain, topic, payload, id, .slice none 0 0, .slice none 0 0⟩ (w.heap.size + 1) (by simp) rfl) rfl ?_
    exact ⟨rfl, ((Below.refl _ _).alloc (Nat.le_refl _) _).alloc (by simp) _⟩
  · have hlt : ¬ (s.size : Int) < 12 := by omega
    have h7 : (7 : Int) ≤ (s.size : Int) := by omega
    simp only [pkCells]
    go_enter Tryz.func93, Tryz.ntmps93
    go_wp2_with fail
    refine bodyPost_ret (results_dc_new _ _ ⟨kind, clean, will, keep, client, present, code, dup, qos, retain, topic, payload, id, .slice none 0 0, .slice none 0 0⟩ (w.heap.size + 1) (by simp) rfl) rfl ?_
    exact ⟨rfl, ((Below.refl _ _).alloc (Nat.le_refl _) _).alloc (by simp) _⟩
end Go.Proofs.YtnmfmoimjkoieaaGreatDoor.rf

namespace Go.Proofs.YtnmfmoimjkoieaaGreatDoor.rf
open Go.RowKit Go.Proofs.YtnmfmoimjkoieaaGreatDoor.topPlain Go.Proofs.YtnmfmoimjkoieaaGreatDoor.topWalks Go.Proofs.YtnmfmoimjkoieaaGreatDoor.decPlain Go.Proofs.YtnmfmoimjkoieaaGreatDoor.rd

def FilPost (B : Nat) (w' : World) (v : Value) (ok : Bool) (F : List (List UInt8 × Int) × Option (List UInt8)) : Prop :=
  match whole F.1 F.2 with
  | some fs => ok = true ∧ w'.ownsRow B 95 2 v fs.length (filC fs)
  | none => ok = false ∧ ∃ q n c, v = .slice q n c
def FilCall (B : Nat) (w : World) (F : List (List UInt8 × Int) × Option (List UInt8)) (e : Ending) (w' : World) : Prop := Below B w w' ∧ ∃ v ok, e = .returned (.tuple #[v, .bool ok]) ∧ FilPost B w' v ok F
theorem filStep_none {k8 : Bool} {st : Option (List UInt8)} (h : (txtS st).2 = none ∨ filterB (txtS st).1 = false) : (filStep k8 st).2 = none := by
  have hw : wantS (filterB (txtS st).1) (txtS st).2 = none := by
    rcases h with h | h
    · rw [h]; exact wantS_none _
    · rw [h]; rfl
  unfold filStep
  rw [hw]
  cases k8
  · rfl
  · exact wantS_none (decide ((octS none).1 ≤ 2))
theorem txtAt_le (l : List UInt8) (k : Nat) : (txtAt l k).1.length ≤ l.length := by
  unfold txtAt
  split
  · have h := txtS_le (some (l.drop k))
    simp only [lenS, List.length_drop] at h
    simp only
    omega
  · simp
theorem filtersS_pos (k8 : Bool) (l : List UInt8) (h : 0 < l.length) : filtersS k8 (some l) = filR k8 (some l) [] := by
  unfold filtersS
  rw [decide_eq_true (show 0 < lenS (some l) by simpa [lenS] using h)]
  rfl
theorem filCall_bad {B : Nat} {w w' : World} {k8 : Bool} {l : List UInt8} {R : List (List UInt8 × Int) × Option (List UInt8)} (hb : Below B w w') (hl : 0 < l.length) (hR : filR k8 (some l) [] = R) (hn : R.2 = none) : FilCall B w (filtersS k8 (some l)) (.returned (.tuple #[.slice none 0 0, .bool false])) w' := by
  refine ⟨hb, _, _, rfl, ?_⟩
  rw [filtersS_pos _ _ hl, hR]
  unfold FilPost
  rw [hn]
  exact ⟨rfl, _, _, _, rfl⟩
theorem fil_in {w w1 wr : World} {B : Nat} {v v' : Value} {acc : List (List UInt8 × Int)} {f : List UInt8 × Int} {o : Obj} (hbel : Below B w wr) (hB : B ≤ wr.heap.size) (hown : wr.ownsRow B 95 2 v acc.length (filC acc))
    (hown' : w1.ownsRow B 95 2 v' (acc.length + 1) (filC acc ++ [.string (bs f.1), .int .i64 f.2])) (hg : (wr.alloc o).grownBy w1 v.ownBlock) :
    w1.ownsRow B 95 2 v' (acc ++ [f]).length (filC (acc ++ [f])) ∧ Below B w w1 := by
  refine ⟨by rw [filC_snoc, List.length_append]; exact hown', hbel.trans ⟨hg.os, hg.tape, hg.output, Nat.le_trans (by simp) hg.size, fun k hk => ?_⟩⟩
  rw [hg.block k (by simp; omega) (fun e => by have := (hown.lt k e.symm).1; omega)]
  exact Below.heap_alloc _ _ _ (by omega)
/-- one filter is wrong -/
theorem filR_bad {k8 : Bool} {l : List UInt8} {acc : List (List UInt8 × Int)} (hl : 0 < l.length) (h : (filStep k8 (some l)).2 = none) : (filR k8 (some l) acc).2 = none := by
  rw [filR_step k8 _ _ (by simpa [lenS] using hl), h, filR_end _ _ _ rfl]
theorem grown_since {B : Nat} {w w' : World} (h : Below B w w') (hB : B = w.heap.size) : w.grownBy w' (some B) := ⟨h.os, h.tape, h.output, h.size, fun k hk _ => h.block k (by omega)⟩
theorem inv_below {w w' : World} (h : topWalks.Inv w) (hN : 5 ≤ w.heap.size) (hb : Below w.heap.size w w') : topWalks.Inv w' := inv_grown (br := w.heap.size) h hN (grown_below hb)
set_option maxHeartbeats 3200000 in
set_option maxRecDepth 100000 in
theorem dfilters_any (s : ByteArray) (k8 : Bool) (w : World) (hs : s.size ≤ 300) (hI : topWalks.Inv w) (hN : 5 ≤ w.heap.size) :
    Calls Tryz.prog 97 #[.string s, .bool k8] w (FilCall w.heap.size w (filtersS k8 (some s.data.toList))) := by
  obtain ⟨i0, hi, hz0, hz1, hz2⟩ := info_parts infoFilter
  obtain ⟨B, hB⟩ : ∃ B, w.heap.size = B := ⟨_, rfl⟩
  have cT := hide fun (a : Nat) (ha : a ≤ 300) w => text_any s a w (by omega) (by omega)
  have cF := hide fun (t : List UInt8) (ht : t.length ≤ 300) w hI => rFilter_any (bs t) w (by rw [show (bs t).size = t.length from by rw [Lib.size_eq, data_bs]]; omega) hI
  have hsz := Lib.size_eq s
  rw [hB] at hN ⊢
  have hBle : B ≤ w.heap.size := by omega
  have HB : Hid (w.heap.size = B) := hB
  have HI := hide hI
  obtain ⟨R, hR⟩ : ∃ R, filR k8 (some s.data.toList) [] = R := ⟨_, rfl⟩
  have HR := hide hR
  have HSZ := hide hsz
  clear hB hI hR hsz
  go_enter Tryz.func97, Tryz.ntmps97
  go_wp2_with fail
  go_loopw [6, 7] (fun v t wr => ∃ (acc : List (List UInt8 × Int)) (a : Nat), t = .int .i64 (a : Int) ∧ a ≤ s.size ∧ acc.length ≤ a ∧ (0 < a → 0 < acc.length) ∧ wr.ownsRow B 95 2 v acc.length (filC acc) ∧ Below B w wr ∧ topWalks.Inv wr ∧ filR k8 (some (s.data.toList.drop a)) acc = R) (fun _ t _ => s.size - (intOf t).toNat)
  case atStart => exact ⟨[], 0, rfl, Nat.zero_le _, Nat.zero_le _, fun h => by omega, World.ownsRow_nil _ _ _ _, Below.refl _ _, HI.out, HR.out⟩
  case round =>
    obtain ⟨acc, a, rfl, ha, hacc, hpos, hown, hbel, hinv, hfil⟩ := hrel
    have HO := hide hown
    have HBL := hide hbel
    have HIN := hide hinv
    have HFL := hide hfil
    have HP := hide hpos
    have hsz := hbel.size
    clear hown hbel hinv hfil hpos
    by_cases hz : a = s.size
    · have hnlt : ¬ ((a : Int) < (s.size : Int)) := by omega
      obtain ⟨q, m, c, rfl⟩ := own_slice HO.out
      have hm : m = acc.length := by
        rcases HO.out.2 with ⟨h1, h2⟩ | ⟨g, cap, cur, h1, _⟩
        · cases h1; omega
        · cases h1; rfl
      subst hm
      have HZ := hide hz
      clear hz
      go_wp2_with fail
      go_ret2
      refine ⟨HBL.out, _, _, rfl, ?_⟩
      have hdr : s.data.toList.drop a = [] := List.drop_eq_nil_of_le (by rw [← HSZ.out, HZ.out]; exact Nat.le_refl _)
      have hRR : R = (acc, some []) := by rw [← HFL.out, hdr]; exact filR_end _ _ _ rfl
      by_cases h0 : 0 < s.size
      · unfold FilPost
        rw [filtersS_pos _ _ (by rw [← HSZ.out]; exact h0), HR.out, hRR]
        exact ⟨decide_eq_true (HP.out (by rw [HZ.out]; exact h0)), HO.out⟩
      · have hn : s.data.toList = [] := List.eq_nil_of_length_eq_zero (by rw [← HSZ.out]; omega)
        have hac : ¬0 < acc.length := by have := HZ.out; omega
        unfold FilPost
        rw [hn]
        exact ⟨decide_eq_false hac, _, _, _, rfl⟩
    · have hlt : (a : Int) < (s.size : Int) := by omega
      have hpos : 0 < (s.data.toList.drop a).length := by rw [List.length_drop, ← HSZ.out]; omega
      have hstep := filR_step k8 (some (s.data.toList.drop a)) acc (by simpa [lenS] using hpos)
      have HPOS := hide hpos
      have HST := hide hstep
      clear hz hpos hstep
      have htl := txtAt_le s.data.toList a
      obtain ⟨t, k, htk⟩ : ∃ t k, txtAt s.data.toList a = (t, k) := ⟨_, _, rfl⟩
      rw [htk, ← HSZ.out] at htl
      have cT1 : Hid (∀ w, Calls Tryz.prog 94 #[.string s, .int .i64 (a : Int)] w fun e w' => e = .returned (.tuple #[.string (bs t), .int .i64 k]) ∧ ∃ n, w' = w.drewN n) := hide fun w => by
        have := unhide cT a (by omega) w
        rw [htk] at this
        exact this
      have hBr : B ≤ wr.heap.size := by have := HB.out; omega
      go_wp2_with fail
      refine (unhide cT1 _).mono ?_
      rintro e w1 ⟨rfl, n1, hw1⟩
      have hb1 : Below wr.heap.size wr w1 := by rw [hw1]; exact below_drewN (Below.refl _ _) n1
      have HB1 := hide (HBL.out.trans (hb1.mono hBr))
      have HI1 := hide (inv_below HIN.out (by omega) hb1)
      have HO1 := hide (own_below HO.out hb1)
      have hs1 := hb1.size
      clear hw1 hb1 cT1 HIN HBL
      go_wp2_with fail
      refine (unhide cF t (by omega) _ HI1.out).mono ?_
      rintro e w2 ⟨rfl, hb2⟩
      rw [data_bs]
      have HB2 := hide (HB1.out.trans (hb2.mono (by omega)))
      have HI2 := hide (inv_below HI1.out (by omega) hb2)
      have HO2 := hide (own_below HO1.out hb2)
      have hs2 := hb2.size
      clear hb2 HI1 HB1 HO1 HO cF cT
      have hRl : 0 < s.data.toList.length := by rw [← HSZ.out]; omega
      have HRL := hide hRl
      clear hRl
      cases hx : (txtS (some (s.data.toList.drop a))).2 with
      | none =>
        rw [txtAt_none hx] at htk
        obtain ⟨rfl, rfl⟩ := Prod.mk.inj htk
        have hn : R.2 = none := by rw [← HFL.out]; exact filR_bad HPOS.out (filStep_none (Or.inl hx))
        have HNN := hide hn
        clear hn hx htk
        go_wp2_with fail
        go_ret2
        exact filCall_bad HB2.out HRL.out HR.out HNN.out
      | some r =>
        obtain ⟨a2, e2, hd2, hl2, hs2'⟩ := txtAt_some hx
        rw [e2] at htk
        obtain ⟨htt, rfl⟩ := Prod.mk.inj htk
        have hlt2 := txtS_lt_len (some (s.data.toList.drop a)) (by simpa [lenS] using HPOS.out)
        rw [hx] at hlt2
        simp only [lenS, List.length_drop] at hlt2
        rw [← HSZ.out] at hl2 hs2' hlt2
        have HTT := hide htt
        have HX := hide hx
        have HD2 := hide hd2
        clear htk e2 hx hd2 htt
        cases hfb : filterB t with
        | false =>
          have hn : R.2 = none := by rw [← HFL.out]; exact filR_bad HPOS.out (filStep_none (Or.inr (by rw [HTT.out]; exact hfb)))
          have HNN := hide hn
          clear hn hfb
          go_wp2_with fail
          go_ret2
          exact filCall_bad HB2.out HRL.out HR.out HNN.out
        | true =>
          have HFB := hide hfb
          clear hfb
          have hws : wantS (filterB (txtS (some (s.data.toList.drop a))).1) (txtS (some (s.data.toList.drop a))).2 = some r := by rw [HTT.out, HFB.out, HX.out]; rfl
          have HWS := hide hws
          clear hws
          cases k8 with
          | false =>
            have hfs : filStep false (some (s.data.toList.drop a)) = ((t, 0), some r) := by
              unfold filStep
              simp only [Bool.false_eq_true, if_false]
              rw [HWS.out, HTT.out]
            have hR2 : filR false (some (s.data.toList.drop a2)) (acc ++ [(t, 0)]) = R := by
              rw [← HFL.out, HST.out, hfs, HD2.out]
            have HR2 := hide hR2
            clear hfs hR2
            go_wp2_with (first
              | (at_builtin; refine wpList_append_own _ rfl _ _ 33 rfl B 95 i0 (.agg #[.string ByteArray.empty, .int .i64 0]) 2 24 Tryz.underlying33 hi hz0 hz1 hz2 rfl (by decide) _ _ _ rfl ((HO2.out.alloc _).alloc _) ⟨w2.heap.size + 1, 0, none⟩ 1 1 [.string (bs t), .int .i64 0] rfl rfl ?c1 ?c2 ?c3 ?c4 ?c5 ?_))
            case c1 =>
              intro j u hj
              match j, hj with
              | 0, hj => simp at hj; subst hj; simp [Addr.add]
              | 1, hj => simp at hj; subst hj; simp [Addr.add]
              | j + 2, hj => simp at hj
            case c2 => intro u hu; simp at hu; rcases hu with rfl | rfl <;> rfl
            case c3 => unfold maxLen; omega
            case c4 => omega
            case c5 => simp; omega
            intro v' w3 hown' hgrow _
            have hbA : Below B w (w2.alloc (.cells #[.string (bs t), .int .i64 0] 95)) := HB2.out.alloc (by omega) _
            have RR := fil_in (f := (t, 0)) hbA (by simp; omega) (HO2.out.alloc _) hown' hgrow
            have hi3 : topWalks.Inv w3 := inv_grown (br := B) HI.out hN (grown_since RR.2 (by have := HB.out; omega))
            have HR3 := hide RR
            have HI3 := hide hi3
            clear hown' hgrow RR hbA hi3
            go_wp2
            go_roundw
            case rel => exact ⟨acc ++ [(t, 0)], a2, by go_num, by omega, by simp; omega, fun _ => by simp, HR3.out.1, HR3.out.2, HI3.out, HR2.out⟩
            case measure => simp [intOf]; omega
          | true =>
            cases r with
            | nil =>
              have hn : R.2 = none := by
                rw [← HFL.out]
                refine filR_bad HPOS.out ?_
                unfold filStep
                simp only [if_true]
                rw [HWS.out]
                rfl
              have HNN := hide hn
              have hge : ¬ ((a2 : Int) < (s.size : Int)) := by simp at hs2'; omega
              clear hn
              go_wp2_with fail
              go_ret2
              exact filCall_bad (HB2.out.alloc (by omega) _) HRL.out HR.out HNN.out
            | cons z zs =>
              have hlt3 : a2 < s.size := by simp at hs2'; omega
              have hzl := z.toNat_lt
              have hsz2 : s[a2]'hlt3 = z := by
                have h1 := get_list s a2 hlt3
                have h2 : (s.data.toList.drop a2)[0]? = some z := by rw [HD2.out]; rfl
                rw [List.getElem?_drop, Nat.add_zero, h1] at h2
                exact Option.some.inj h2
              have hdz : s.data.toList.drop (a2 + 1) = zs := by rw [← List.drop_drop, HD2.out]; rfl
              have HDZ := hide hdz
              clear hdz
              by_cases hzz : z.toNat ≤ 2
              · have hfs : filStep true (some (s.data.toList.drop a)) = ((t, (z.toNat : Int)), some zs) := by
                  unfold filStep
                  simp only [if_true]
                  rw [HWS.out, HTT.out]
                  show ((t, (z.toNat : Int)), wantS (decide (z.toNat ≤ 2)) (some zs)) = _
                  rw [decide_eq_true hzz]
                  rfl
                have hR2 : filR true (some (s.data.toList.drop (a2 + 1))) (acc ++ [(t, (z.toNat : Int))]) = R := by
                  rw [← HFL.out, HST.out, hfs, HDZ.out]
                have HR2 := hide hR2
                have hle2 : (z.toNat : Int) ≤ 2 := by omega
                clear hfs hR2
                go_wp2_with (first
                  | (at_builtin; refine wpList_append_own _ rfl _ _ 33 rfl B 95 i0 (.agg #[.string ByteArray.empty, .int .i64 0]) 2 24 Tryz.underlying33 hi hz0 hz1 hz2 rfl (by decide) _ _ _ rfl ((HO2.out.alloc _).alloc _) ⟨w2.heap.size + 1, 0, none⟩ 1 1 [.string (bs t), .int .i64 (z.toNat : Int)] rfl rfl ?c1 ?c2 ?c3 ?c4 ?c5 ?_))
                case c1 =>
                  intro j u hj
                  match j, hj with
                  | 0, hj => simp at hj; subst hj; simp [Addr.add]
                  | 1, hj => simp at hj; subst hj; simp [Addr.add]
                  | j + 2, hj => simp at hj
                case c2 => intro u hu; simp at hu; rcases hu with rfl | rfl <;> rfl
                case c3 => unfold maxLen; omega
                case c4 => omega
                case c5 => simp; omega
                intro v' w3 hown' hgrow _
                have hbA : Below B w (w2.alloc (.cells #[.string (bs t), .int .i64 (z.toNat : Int)] 95)) := HB2.out.alloc (by omega) _
                have RR := fil_in (f := (t, (z.toNat : Int))) hbA (by simp; omega) (HO2.out.alloc _) hown' hgrow
                have hi3 : topWalks.Inv w3 := inv_grown (br := B) HI.out hN (grown_since RR.2 (by have := HB.out; omega))
                have HR3 := hide RR
                have HI3 := hide hi3
                clear hown' hgrow RR hbA hi3
                go_wp2
                go_roundw
                case rel => exact ⟨acc ++ [(t, (z.toNat : Int))], a2 + 1, by go_num, by omega, by simp; omega, fun _ => by simp, HR3.out.1, HR3.out.2, HI3.out, HR2.out⟩
                case measure => simp [intOf]; omega
              · have hn : R.2 = none := by
                  rw [← HFL.out]
                  refine filR_bad HPOS.out ?_
                  unfold filStep
                  simp only [if_true]
                  rw [HWS.out]
                  show wantS (decide (z.toNat ≤ 2)) (some zs) = none
                  rw [decide_eq_false hzz]
                  rfl
                have HNN := hide hn
                clear hn
                go_wp2_with fail
                go_ret2
                exact filCall_bad (HB2.out.alloc (by omega) _) HRL.out HR.out HNN.out
end Go.Proofs.YtnmfmoimjkoieaaGreatDoor.rf
