/- What decodes needs besides: how long a packet's lists are; a list that is owned reads as Same asks. courantlaw.decodes. courantlaw.Decodes. -/
import Derived.Test.YtnmfmoimjkoieaaGreatDoorMRdC
import Derived.Test.YtnmfmoimjkoieaaGreatDoorMRdE
import Derived.Test.YtnmfmoimjkoieaaGreatDoorMRfT
import Derived.Test.YtnmfmoimjkoieaaGreatDoorMLwB
import Derived.Test.YtnmfmoimjkoieaaGreatDoorMLwC
import Derived.Test.YtnmfmoimjkoieaaGreatDoorMLwD
namespace Go.Proofs.YtnmfmoimjkoieaaGreatDoor.lw
open Go.RowKit Go.Proofs.YtnmfmoimjkoieaaGreatDoor.topPlain Go.Proofs.YtnmfmoimjkoieaaGreatDoor.topWalks Go.Proofs.YtnmfmoimjkoieaaGreatDoor.decPlain Go.Proofs.YtnmfmoimjkoieaaGreatDoor.rd

theorem codL_len : ∀ (l : List UInt8) (acc : List Int), (codL l acc).1.length ≤ acc.length + l.length
  | [], acc => by simp [codL]
  | x :: r, acc => by
    rw [codL]
    split
    · have := codL_len r (acc ++ [(x.toNat : Int)])
      simp at this ⊢
      omega
    · simp
theorem filF_len (k8 : Bool) : ∀ (n : Nat) (st : Option (List UInt8)) (acc : List (List UInt8 × Int)), (filF k8 n st acc).1.length ≤ acc.length + n
  | 0, _, _ => by simp [filF]
  | n + 1, st, acc => by
    rw [filF]
    split
    · show acc.length ≤ acc.length + (n + 1)
      omega
    · have := filF_len k8 n (filStep k8 st).2 (acc ++ [(filStep k8 st).1])
      rw [List.length_append, List.length_singleton] at this
      omega
theorem codesS_len (st : Option (List UInt8)) : (codesS st).1.length ≤ lenS st := by
  unfold codesS
  have h := wantS_len (decide (0 < lenS st)) st
  revert h
  generalize wantS (decide (0 < lenS st)) st = s
  intro h
  cases s with
  | none => simp [codR]
  | some l =>
    have := codL_len l []
    simp only [List.length_nil, Nat.zero_add] at this
    exact Nat.le_trans this h
theorem filtersS_len (k8 : Bool) (st : Option (List UInt8)) : (filtersS k8 st).1.length ≤ lenS st := by
  unfold filtersS filR
  have h := wantS_len (decide (0 < lenS st)) st
  have := filF_len k8 (lenS (wantS (decide (0 < lenS st)) st)) (wantS (decide (0 < lenS st)) st) []
  rw [List.length_nil] at this
  omega
theorem packetS_len (p : Pkt) (st : Option (List UInt8)) : (packetS p st).2.1.length ≤ lenS st ∧ (packetS p st).2.2.1.length ≤ lenS st := by
  have h1 := idS_len st
  have h2 := filtersS_len (p.kind == 8) (idS st).2
  have h3 := codesS_len (idS st).2
  unfold packetS
  repeat' split
  all_goals exact ⟨by first | exact Nat.zero_le _ | exact Nat.le_trans h2 h1, by first | exact Nat.zero_le _ | exact Nat.le_trans h3 h1⟩
theorem bodyS_len (p : Pkt) (l : List UInt8) (q : Pkt × List (List UInt8 × Int) × List Int) (h : bodyS p l = some q) : q.2.1.length ≤ l.length ∧ q.2.2.length ≤ l.length := by
  unfold bodyS at h
  split at h
  · have := Option.some.inj h
    subst this
    exact packetS_len p (some l)
  · cases h
theorem decL_len (l : List UInt8) (r : (Pkt × List (List UInt8 × Int) × List Int) × Nat) (h : decL l = .inr r) : r.1.2.1.length ≤ l.length ∧ r.1.2.2.length ≤ l.length := by
  unfold decL at h
  split at h
  · cases h
  · rename_i x t
    split at h
    · cases h
    · split at h
      · cases h
      · cases h
      · rename_i n k _
        split at h
        · cases h
        · split at h
          · cases h
          · rename_i q hq
            have := Sum.inr.inj h
            subst this
            have hb := bodyS_len _ _ _ hq
            have hl : ((t.drop k).take n).length ≤ (x :: t).length := by simp; omega
            exact ⟨Nat.le_trans hb.1 hl, Nat.le_trans hb.2 hl⟩

theorem filC_get : ∀ (fs : List (List UInt8 × Int)) (j : Nat) (f : List UInt8 × Int), fs[j]? = some f → (filC fs)[j * 2]? = some (.string (bs f.1)) ∧ (filC fs)[j * 2 + 1]? = some (.int .i64 f.2)
  | [], j, f, h => by simp at h
  | g :: r, 0, f, h => by
    have : g = f := by simpa using h
    subst this
    exact ⟨rfl, rfl⟩
  | g :: r, j + 1, f, h => by
    have h' : r[j]? = some f := by simpa using h
    obtain ⟨a, b⟩ := filC_get r j f h'
    have e : filC (g :: r) = .string (bs g.1) :: .int .i64 g.2 :: filC r := rfl
    rw [e, show (j + 1) * 2 = j * 2 + 1 + 1 by omega]
    exact ⟨by simpa using a, by simpa using b⟩
theorem own_cellP {w : World} {B sz n : Nat} {e : TypeId} {v : Value} {xs : List Value} (h : w.ownsRow B e sz v n xs) (i : Nat) (u : Value) (hu : xs[i]? = some u) : ∃ g cap, v = .slice (some ⟨g, 0, none⟩) n cap ∧ g < w.heap.size ∧ w.cell? ⟨g, i, none⟩ = some u := by
  have hi : i < xs.length := (List.getElem?_eq_some_iff.1 hu).1
  have hx := h.1
  rcases h.2 with ⟨_, h0⟩ | ⟨g, cap, cur, e1, _, hh, h1, _, h3, h4⟩
  · rw [h0, Nat.zero_mul] at hx
    omega
  · refine ⟨g, cap, e1, (Array.getElem?_eq_some_iff.1 hh).1, ?_⟩
    have h5 : cur.toList[i]? = some u := by
      rw [← hu, ← h4, List.getElem?_take_of_lt (by omega)]
    simp [World.cell?, hh]
    simpa using h5
theorem own_formP {w : World} {B sz n : Nat} {e : TypeId} {v : Value} {xs : List Value} (h : w.ownsRow B e sz v n xs) : ∃ q cap, v = .slice q n cap ∧ n ≤ maxLen := by
  rcases h.2 with ⟨e1, h0⟩ | ⟨g, cap, cur, e1, _, hh, h1, h2, _⟩
  · exact ⟨none, 0, by rw [e1, h0], by omega⟩
  · exact ⟨_, _, e1, Nat.le_trans h1 h2⟩
theorem filV_of {w : World} {B : Nat} {v : Value} {fs : List (List UInt8 × Int)} (h : w.ownsRow B 95 2 v fs.length (filC fs)) : rf.FilV w v fs := by
  obtain ⟨q, cap, e, hm⟩ := own_formP h
  refine ⟨q, cap, e, hm, fun j f hf => ?_⟩
  obtain ⟨a, b⟩ := filC_get fs j f hf
  obtain ⟨g, c1, e1, hg, k1⟩ := own_cellP h _ _ a
  obtain ⟨g2, c2, e2, _, k2⟩ := own_cellP h _ _ b
  rw [e] at e1 e2
  injection e1 with e1
  injection e2 with e2
  rw [e1] at e2
  have : g = g2 := by injection e2 with e2; injection e2
  subst this
  exact ⟨g, e1, hg, k1, k2⟩
theorem intV_of {w : World} {B : Nat} {v : Value} {cs : List Int} (h : w.ownsRow B 3 1 v cs.length (ints cs)) : rf.IntV w v cs := by
  obtain ⟨q, cap, e, hm⟩ := own_formP h
  refine ⟨q, cap, e, hm, fun j c hc => ?_⟩
  obtain ⟨g, c1, e1, hg, k1⟩ := own_cellP h j (.int .i64 c) (by simp [ints, hc])
  rw [e] at e1
  injection e1 with e1
  exact ⟨g, e1, hg, k1⟩
end Go.Proofs.YtnmfmoimjkoieaaGreatDoor.lw

namespace Go.Proofs.YtnmfmoimjkoieaaGreatDoor.lw
open Go.RowKit Go.Proofs.YtnmfmoimjkoieaaGreatDoor.topPlain Go.Proofs.YtnmfmoimjkoieaaGreatDoor.topWalks Go.Proofs.YtnmfmoimjkoieaaGreatDoor.decPlain Go.Proofs.YtnmfmoimjkoieaaGreatDoor.rd

def outP (R : Bool ⊕ ((Pkt × List (List UInt8 × Int) × List Int) × Nat)) : Pkt := match R with | .inl _ => zeroP | .inr r => r.1.1
def outF (R : Bool ⊕ ((Pkt × List (List UInt8 × Int) × List Int) × Nat)) : List (List UInt8 × Int) := match R with | .inl _ => [] | .inr r => r.1.2.1
def outC (R : Bool ⊕ ((Pkt × List (List UInt8 × Int) × List Int) × Nat)) : List Int := match R with | .inl _ => [] | .inr r => r.1.2.2
def outN (R : Bool ⊕ ((Pkt × List (List UInt8 × Int) × List Int) × Nat)) : Int := match R with | .inl _ => 0 | .inr r => (r.2 : Int)
def outE (R : Bool ⊕ ((Pkt × List (List UInt8 × Int) × List Int) × Nat)) : Int := match R with | .inl s => if s then 3 else 2 | .inr _ => 0
theorem cd_flat {w w' : World} {e : Ending} {R : Bool ⊕ ((Pkt × List (List UInt8 × Int) × List Int) × Nat)} (h : CdPost w R e w') : Below w.heap.size w w' ∧ ∃ q1 k1 q2 k2, e = .returned (.tuple #[.agg (pkCells { outP R with fv := .slice q1 (outF R).length k1, cv := .slice q2 (outC R).length k2 }), .int .i64 (outN R), .int .i64 (outE R)]) ∧ w'.ownsRow w.heap.size 95 2 (.slice q1 (outF R).length k1) (outF R).length (filC (outF R)) ∧ w'.ownsRow w.heap.size 3 1 (.slice q2 (outC R).length k2) (outC R).length (ints (outC R)) := by
  obtain ⟨hb, h⟩ := h
  refine ⟨hb, ?_⟩
  cases R with
  | inl s => exact ⟨none, 0, none, 0, h, ⟨rfl, Or.inl ⟨rfl, rfl⟩⟩, ⟨rfl, Or.inl ⟨rfl, rfl⟩⟩⟩
  | inr r =>
    obtain ⟨fv, cv, he, h1, h2⟩ := h
    obtain ⟨q1, k1, e1, _⟩ := own_formP h1
    obtain ⟨q2, k2, e2, _⟩ := own_formP h2
    subst e1
    subst e2
    exact ⟨q1, k1, q2, k2, he, h1, h2⟩
theorem out_len (l : List UInt8) : (outF (decL l)).length ≤ l.length ∧ (outC (decL l)).length ≤ l.length := by
  cases h : decL l with
  | inl s => exact ⟨Nat.zero_le _, Nat.zero_le _⟩
  | inr r => exact decL_len l r h

/-- what Decode leaves, in one form -/
def Flat (P : Pkt) (fs : List (List UInt8 × Int)) (cs : List Int) (n er : Int) (w : World) (e : Ending) (w' : World) : Prop := Below w.heap.size w w' ∧ ∃ q1 k1 q2 k2, e = .returned (.tuple #[.agg (pkCells { P with fv := .slice q1 fs.length k1, cv := .slice q2 cs.length k2 }), .int .i64 n, .int .i64 er]) ∧ w'.ownsRow w.heap.size 95 2 (.slice q1 fs.length k1) fs.length (filC fs) ∧ w'.ownsRow w.heap.size 3 1 (.slice q2 cs.length k2) cs.length (ints cs)
theorem pk15 {w : World} {b : Nat} {t : TypeId} {v0 v1 v2 v3 v4 v5 v6 v7 v8 v9 v10 v11 v12 v13 v14 : Value} (h : w.heap[b]? = some (.cells #[v0, v1, v2, v3, v4, v5, v6, v7, v8, v9, v10, v11, v12, v13, v14] t)) : w.cell? ⟨b, 0, none⟩ = some v0 ∧ w.cell? ⟨b, 1, none⟩ = some v1 ∧ w.cell? ⟨b, 2, none⟩ = some v2 ∧ w.cell? ⟨b, 3, none⟩ = some v3 ∧ w.cell? ⟨b, 4, none⟩ = some v4 ∧ w.cell? ⟨b, 5, none⟩ = some v5 ∧ w.cell? ⟨b, 6, none⟩ = some v6 ∧ w.cell? ⟨b, 7, none⟩ = some v7 ∧ w.cell? ⟨b, 8, none⟩ = some v8 ∧ w.cell? ⟨b, 9, none⟩ = some v9 ∧ w.cell? ⟨b, 10, none⟩ = some v10 ∧ w.cell? ⟨b, 11, none⟩ = some v11 ∧ w.cell? ⟨b, 12, none⟩ = some v12 ∧ w.cell? ⟨b, 13, none⟩ = some v13 ∧ w.cell? ⟨b, 14, none⟩ = some v14 := by
  refine ⟨?_, ?_, ?_, ?_, ?_, ?_, ?_, ?_, ?_, ?_, ?_, ?_, ?_, ?_, ?_⟩
  all_goals simp [World.cell?, h]
theorem own_blk {w w' : World} {B sz n : Nat} {e : TypeId} {v : Value} {xs : List Value} (h : w.ownsRow B e sz v n xs) (hb : ∀ b, v.ownBlock = some b → w'.heap[b]? = w.heap[b]?) : w'.ownsRow B e sz v n xs := by
  refine ⟨h.1, ?_⟩
  rcases h.2 with h0 | ⟨g, cap, cur, e1, h1, hh, h2⟩
  · exact Or.inl h0
  · exact Or.inr ⟨g, cap, cur, e1, h1, (hb g (by rw [e1]; rfl)).trans hh, h2⟩
theorem own_apart {w : World} {B B' n n' : Nat} {v v' : Value} {xs xs' : List Value} (h : w.ownsRow B 95 2 v n xs) (h' : w.ownsRow B' 3 1 v' n' xs') (b : Nat) (hb : v.ownBlock = some b) : v'.ownBlock ≠ some b := by
  intro hb'
  rcases h.2 with ⟨h0, _⟩ | ⟨g, cap, cur, e1, h1, hh, h2⟩
  · rw [h0] at hb; cases hb
  · rcases h'.2 with ⟨h0, _⟩ | ⟨g', cap', cur', e1', h1', hh', h2'⟩
    · rw [h0] at hb'; cases hb'
    · rw [e1] at hb
      rw [e1'] at hb'
      have a : g = b := Option.some.inj hb
      have a' : g' = b := Option.some.inj hb'
      rw [a] at hh
      rw [a', hh] at hh'
      have := Option.some.inj hh'
      injection this with _ h3 _
      exact absurd h3 (by decide)

set_option maxHeartbeats 3200000 in
set_option maxRecDepth 100000 in
theorem decodes_any (ash aw : Addr) (w : World) (bw : Nat) (vs vc vt : Value) (ss cc tt : List Value) (s : ByteArray) (hs : s.size ≤ 1048576) (h : Wd w bw vs vc vt ss cc tt) (hE : Errs ash aw w) (hEnv : Env aw w.heap.size w) (hs4 : ss.length % 4 = 0) (hc4 : cc.length % 4 = 0) (hs9 : ss.length < 990) (hc9 : cc.length < 990) (ht9 : tt.length < 990) :
    Calls Tryz.prog 12 #[.pointer (some ⟨bw, 0, none⟩), .string s] w fun e w' => e = .returned (.bool true) ∧ ∃ vs' vc' vt' ss' cc' tt', Wd w' bw vs' vc' vt' ss' cc' tt' ∧ ss'.length = ss.length + 4 ∧ cc'.length = cc.length + 4 ∧ tt'.length = tt.length + 1 ∧ Below bw w w' := by
  have H := hide h
  have HE := hide hE
  have HN := hide hEnv
  have cL := hide fun w => lent_any s w (by omega)
  have cD := hide fun w v hv hE hEnv => (cDecode_any ash aw w s.data.toList v (by rw [← Lib.size_eq]; omega) hv hE hEnv).mono (fun _ _ h => show Flat (outP (decL s.data.toList)) (outF (decL s.data.toList)) (outC (decL s.data.toList)) (outN (decL s.data.toList)) (outE (decL s.data.toList)) _ _ _ from cd_flat h)
  have cR := hide fun w hI hN => (rf.dDecode_any s w hI hN).mono (fun _ _ h => show Flat (outP (decL s.data.toList)) (outF (decL s.data.toList)) (outC (decL s.data.toList)) (outN (decL s.data.toList)) (outE (decL s.data.toList)) _ _ _ from cd_flat h)
  clear h hE hEnv
  have hol := out_len s.data.toList
  rw [← Lib.size_eq] at hol
  revert hol cD cR
  generalize outP (decL s.data.toList) = P
  generalize outF (decL s.data.toList) = fs
  generalize outC (decL s.data.toList) = cs
  generalize outN (decL s.data.toList) = n
  generalize outE (decL s.data.toList) = er
  intro cD cR hol
  go_enter Tryz.func12, Tryz.ntmps12
  go_wp2_with fail
  refine (cL.out w).mono ?_
  rintro e w1 ⟨rfl, hrow, hb1, hz1⟩
  have HROW := hide hrow
  have HB1 := hide hb1
  clear hrow hb1
  have cH : ∃ v, (Calls Tryz.prog 32 #[.slice (some ⟨w.heap.size, 0, none⟩) (s.size + 2) (s.size + 2), .string s] w1 fun r w' => r = .returned v ∧ w' = w1) ∧ ((s.data.toList = [] ∧ v = .slice none 0 0) ∨ BytesV w1.heap.size w1 v s.data.toList) := by
    by_cases h0 : s.size = 0
    · exact ⟨_, hand_none _ s w1 h0, Or.inl ⟨List.eq_nil_of_length_eq_zero (by rw [← Lib.size_eq]; exact h0), rfl⟩⟩
    · refine ⟨_, hand_some w.heap.size (s.size + 2) (s.size + 2) s w1 (by omega) (by omega) (Nat.le_refl _), Or.inr ⟨w.heap.size, 0, s.size + 2, by rw [← Lib.size_eq], by rw [← Lib.size_eq]; omega, by unfold maxLen; omega, by omega, fun j x hx => ?_⟩⟩
      have hj : j < s.size := by rw [Lib.size_eq]; exact (List.getElem?_eq_some_iff.1 hx).1
      have := HROW.out.cell (i := j) (by omega)
      rw [Nat.zero_add, this]
      unfold lentF
      rw [if_pos (by rw [← Lib.size_eq]; exact hj), List.getD_eq_getElem?_getD, hx]
      rfl
  obtain ⟨v, cH, HV⟩ := cH
  have cH := hide cH
  have HV := hide HV
  go_wp2_with fail
  refine cH.out.mono ?_
  rintro e w1' ⟨rfl, rfl⟩
  go_wp2_with fail
  have HE1 := hide (HE.out.below HB1.out)
  have HI1 := hide ((HN.out.below HB1.out).inv)
  have HER1 := hide ((HN.out.below HB1.out).err)
  have HNG := hide HN.out.low
  refine (cD.out w1' v HV.out HE1.out ⟨by have := HNG.out; omega, Nat.le_refl _, HER1.out, HI1.out⟩).mono ?_
  rintro e w2 ⟨hb2, q1, k1, q2, k2, rfl, ho1, ho2⟩
  have HB2 := hide hb2
  have HO1 := hide ho1
  have HO2 := hide ho2
  clear hb2 ho1 ho2
  simp only [pkCells]
  go_wp2_with fail
  have hs2 := HB2.out.size
  obtain ⟨o1, ho1⟩ : ∃ o, o = Obj.cells #[.int .i64 P.kind, .bool P.clean, .bool P.will, .int .i64 P.keep, .string (bs P.client), .bool P.present, .int .i64 P.code, .bool P.dup, .int .i64 P.qos, .bool P.retain, .string (bs P.topic), .string (bs P.payload), .int .i64 P.id, .slice q1 fs.length k1, .slice q2 cs.length k2] 36 := ⟨_, rfl⟩
  have HBA := hide (HB2.out.alloc hs2 o1)
  rw [← ho1]
  have HI2 := hide (HI1.out.below HBA.out)
  refine (cR.out (w2.alloc o1) HI2.out (by have := HNG.out; have := HBA.out.size; omega)).mono ?_
  rintro e w3 ⟨hb3, q3, k3, q4, k4, rfl, ho3, ho4⟩
  have HB3 := hide hb3
  have HO3 := hide ho3
  have HO4 := hide ho4
  clear hb3 ho3 ho4
  simp only [pkCells]
  go_wp2_with fail
  obtain ⟨o2, ho2⟩ : ∃ o, o = Obj.cells #[.int .i64 P.kind, .bool P.clean, .bool P.will, .int .i64 P.keep, .string (bs P.client), .bool P.present, .int .i64 P.code, .bool P.dup, .int .i64 P.qos, .bool P.retain, .string (bs P.topic), .string (bs P.payload), .int .i64 P.id, .slice q3 fs.length k3, .slice q4 cs.length k4] 36 := ⟨_, rfl⟩
  rw [← ho2]
  have hlt := H.out.lt'
  have hs3 : w2.heap.size + 1 ≤ w3.heap.size := Nat.le_trans (by simp) HB3.out.size
  have hbB : Below w1'.heap.size w1' (w3.alloc o2) := (HBA.out.trans (HB3.out.mono HBA.out.size)).alloc (by omega) o2
  have hb23 : Below w2.heap.size w2 (w3.alloc o2) := (((Below.refl _ _).alloc (Nat.le_refl _) o1).trans (HB3.out.mono (by simp))).alloc (by omega) o2
  have hP1 : (w3.alloc o2).heap[w2.heap.size]? = some o1 := by
    rw [Below.heap_alloc _ _ _ (by omega), HB3.out.block _ (by simp)]
    exact heap1 _ _
  have hP2 : (w3.alloc o2).heap[w3.heap.size]? = some o2 := heap1 _ _
  have hO1 := own_below HO1.out hb23
  have hO2 := own_below HO2.out hb23
  have hO3 := own_below HO3.out ((Below.refl _ _).alloc (Nat.le_refl _) o2)
  have hO4 := own_below HO4.out ((Below.refl _ _).alloc (Nat.le_refl _) o2)
  have hsB : (w3.alloc o2).heap.size = w3.heap.size + 1 := by simp
  have hz : w2.heap.size + 1 = (w2.alloc o1).heap.size := by simp
  rw [← hz] at hO3 hO4
  clear hb23
  revert hbB hP1 hP2 hO1 hO2 hO3 hO4 hsB
  generalize w3.alloc o2 = wB
  intro hbB hP1 hP2 hO1 hO2 hO3 hO4 hsB
  have hWB := HB1.out.trans (hbB.mono HB1.out.size)
  have hRB : wB.rowIs w.heap.size 5 (s.size + 2) (lentF s.data.toList) := by
    obtain ⟨c, h1, h2⟩ := HROW.out
    exact ⟨c, (hbB.block _ (by omega)).trans h1, h2⟩
  have HBB := hide hbB
  have HP1 := hide hP1
  have HP2 := hide hP2
  have HBO1 := hide hO1
  have HBO2 := hide hO2
  have HBO3 := hide hO3
  have HBO4 := hide hO4
  have HO1B := hide ho1
  have HO2B := hide ho2
  have HWB := hide hWB
  clear hbB hP1 hP2 hO1 hO2 hO3 hO4 ho1 ho2
  refine (returned_any wB bw w.heap.size vs vc vt ss cc tt s (by omega) (H.out.below hWB) hRB (H.out.free (Nat.le_refl _)) hlt (by omega)).mono ?_
  clear hRB hWB
  rintro e w4 ⟨rfl, vt', hw4, hk4, hb4⟩
  have hk4' := fun b (h1 : w1'.heap.size ≤ b) (h2 : b < wB.heap.size) => hk4 b h2 (H.out.free (by omega)) (by omega)
  clear hk4
  have htl : (tt ++ [Value.slice (some ⟨w.heap.size, 0, none⟩) (s.size + 2) (s.size + 2)]).length = tt.length + 1 := by simp
  revert hw4 hk4' htl
  generalize tt ++ [Value.slice (some ⟨w.heap.size, 0, none⟩) (s.size + 2) (s.size + 2)] = tt'
  intro hw4 hk4' htl
  have HW4 := hide hw4
  have HK4 := hide hk4'
  have HB4 := hide hb4
  have hs4' := hb4.size
  clear hw4 hk4' hb4
  have hR1 : w4.heap[w2.heap.size]? = some o1 := by rw [(HK4.out _ hs2 (by omega)).1]; exact HP1.out
  have hR2 : w4.heap[w3.heap.size]? = some o2 := by rw [(HK4.out _ (by omega) (by omega)).1]; exact HP2.out
  have HR1 := hide hR1
  rw [HO1B.out] at hR1
  rw [HO2B.out] at hR2
  obtain ⟨x0, x1, x2, x3, x4, x5, x6, x7, x8, x9, x10, x11, x12, x13, x14⟩ := pk15 hR1
  obtain ⟨y0, y1, y2, y3, y4, y5, y6, y7, y8, y9, y10, y11, y12, y13, y14⟩ := pk15 hR2
  clear hR1 hR2
  have HA1 := hide (own_blk HBO1.out (w' := w4) (fun b hb => (HK4.out b (HBO1.out.lt b hb).1 (HBO1.out.lt b hb).2).1))
  have HA2 := hide (own_blk HBO2.out (w' := w4) (fun b hb => (HK4.out b (HBO2.out.lt b hb).1 (HBO2.out.lt b hb).2).1))
  have HA3 := hide (own_blk HBO3.out (w' := w4) (fun b hb => (HK4.out b (by have := (HBO3.out.lt b hb).1; omega) (HBO3.out.lt b hb).2).1))
  have HA4 := hide (own_blk HBO4.out (w' := w4) (fun b hb => (HK4.out b (by have := (HBO4.out.lt b hb).1; omega) (HBO4.out.lt b hb).2).1))
  go_wp2_with fail
  refine (rf.same_any P fs cs (.slice q1 fs.length k1) (.slice q3 fs.length k3) (.slice q2 cs.length k2) (.slice q4 cs.length k4) w4 (filV_of HA1.out) (filV_of HA3.out) (intV_of HA2.out) (intV_of HA4.out)).mono ?_
  rintro e w5 ⟨rfl, hb5⟩
  have HB5 := hide hb5
  clear hb5 x0 x1 x2 x3 x4 x5 x6 x7 x8 x9 x10 x11 x12 x13 x14 y0 y1 y2 y3 y4 y5 y6 y7 y8 y9 y10 y11 y12 y13 y14
  go_wp2_with fail
  refine (kept_any w5 bw vs vc vt' ss cc tt' (HW4.out.below HB5.out)).mono ?_
  rintro e w6 ⟨rfl, m, hm⟩
  have hb6 : Below w4.heap.size w4 w6 := by rw [hm]; exact below_drewN HB5.out m
  clear hm
  have hs6 := hb6.size
  have hR6 : w6.heap[w2.heap.size]? = some o1 := by rw [hb6.block _ (by omega)]; exact HR1.out
  have HR6 := hide hR6
  rw [HO1B.out] at hR6
  obtain ⟨x0, x1, x2, x3, x4, x5, x6, x7, x8, x9, x10, x11, x12, x13, x14⟩ := pk15 hR6
  have HW6 := hide (HW4.out.below hb6)
  have HC1 := hide (own_below HA1.out hb6)
  have HC2 := hide (own_below HA2.out hb6)
  have HB6 := hide hb6
  clear hR6 hb6 x0 x1 x2 x3 x4 x5 x6 x7 x8 x9 x10 x11 x12 x14
  go_wp2_with fail
  refine (keepSubs_wd w6 bw w1'.heap.size fs.length vs vc vt' (.slice q1 fs.length k1) ss cc tt' (filC fs) HW6.out HC1.out (by omega) (fun b hb => (HK4.out b (HBO1.out.lt b hb).1 (HBO1.out.lt b hb).2).2) (by omega) hs4 hs9 (by omega)).mono ?_
  rintro e w7 ⟨rfl, vs', L, hL, hw7, hk7, hb7⟩
  have HW7 := hide hw7
  have HK7 := hide hk7
  have HB7 := hide hb7
  have hs7 := hb7.size
  clear hw7 hk7 hb7 x13
  have hne : (Value.slice q1 fs.length k1).ownBlock ≠ some w2.heap.size := fun e => by have := (HO1.out.lt _ e).2; omega
  have hR7 : w7.heap[w2.heap.size]? = some o1 := by rw [(HK7.out _ (by omega) (HK4.out _ hs2 (by omega)).2 hne).1]; exact HR6.out
  rw [HO1B.out] at hR7
  obtain ⟨x0, x1, x2, x3, x4, x5, x6, x7, x8, x9, x10, x11, x12, x13, x14⟩ := pk15 hR7
  clear hR7 hne x0 x1 x2 x3 x4 x5 x6 x7 x8 x9 x10 x11 x12 x13
  have hne2 : ∀ b, (Value.slice q2 cs.length k2).ownBlock = some b → (Value.slice q1 fs.length k1).ownBlock ≠ some b := fun b hb e => own_apart HO1.out HO2.out b e hb
  have hk7 := fun b (hb : (Value.slice q2 cs.length k2).ownBlock = some b) => HK7.out b (HC2.out.lt b hb).2 (HK4.out b (HBO2.out.lt b hb).1 (HBO2.out.lt b hb).2).2 (hne2 b hb)
  have HD2 := hide (own_blk HC2.out (w' := w7) (fun b hb => (hk7 b hb).1))
  have HF2 := hide (fun b hb => (hk7 b hb).2)
  clear hne2 hk7
  go_wp2_with fail
  refine (keepCodes_wd w7 bw w1'.heap.size cs.length vs' vc vt' (.slice q2 cs.length k2) (ss ++ L) cc tt' (ints cs) HW7.out HD2.out (by omega) HF2.out (by omega) hc4 hc9 (by omega)).mono ?_
  rintro e w8 ⟨rfl, vc', L', hL', hw8, hk8, hb8⟩
  have HW8 := hide hw8
  have HB8 := hide hb8
  clear hw8 hk8 hb8 x14
  have cN := hide (num_any er w8)
  go_wp2_with fail
  refine cN.out.mono ?_
  rintro e w9 ⟨rfl, rfl⟩
  go_wp2
  go_ret
  exact ⟨rfl, vs', vc', vt', ss ++ L, cc ++ L', tt', HW8.out, by rw [List.length_append, hL], by rw [List.length_append, hL'], htl, (HWB.out.mono (by omega)).trans (HB4.out.trans ((HB6.out.mono (by omega)).trans (HB7.out.trans HB8.out)))⟩
end Go.Proofs.YtnmfmoimjkoieaaGreatDoor.lw

namespace Go.Proofs.YtnmfmoimjkoieaaGreatDoor.lw
open Go.RowKit Go.Proofs.YtnmfmoimjkoieaaGreatDoor.topPlain Go.Proofs.YtnmfmoimjkoieaaGreatDoor.topWalks Go.Proofs.YtnmfmoimjkoieaaGreatDoor.decPlain Go.Proofs.YtnmfmoimjkoieaaGreatDoor.rd

/-- the book behind k calls -/
def Bk (w0 w : World) (k : Nat) : Prop := Below w0.heap.size w0 w ∧ ∃ vs vc vt ss cc tt, Wd w w0.heap.size vs vc vt ss cc tt ∧ ss.length = 4 * k ∧ cc.length = 4 * k ∧ tt.length = k
theorem decodes_bk {ash aw : Addr} {w0 w : World} (k : Nat) (s : ByteArray) (hs : s.size ≤ 1048576) (hE : Errs ash aw w0) (hN : Env aw w0.heap.size w0) (hk : k ≤ 100) (h : Bk w0 w k) :
    Calls Tryz.prog 12 #[.pointer (some ⟨w0.heap.size, 0, none⟩), .string s] w fun e w' => e = .returned (.bool true) ∧ Bk w0 w' (k + 1) := by
  obtain ⟨hb, vs, vc, vt, ss, cc, tt, hw, h1, h2, h3⟩ := h
  have hn := hN.below hb
  refine (decodes_any ash aw w w0.heap.size vs vc vt ss cc tt s hs hw (hE.below hb) ⟨Nat.le_trans hn.low hb.size, Nat.le_refl _, hn.err, hn.inv⟩ (by omega) (by omega) (by omega) (by omega) (by omega)).mono ?_
  rintro e w' ⟨rfl, vs', vc', vt', ss', cc', tt', hw', e1, e2, e3, hb'⟩
  exact ⟨rfl, hb.trans hb', vs', vc', vt', ss', cc', tt', hw', by omega, by omega, by omega⟩
theorem kept_bk {w0 w : World} {k : Nat} (h : Bk w0 w k) : Calls Tryz.prog 13 #[.pointer (some ⟨w0.heap.size, 0, none⟩)] w fun e w' => e = .returned (.bool true) ∧ Bk w0 w' k := by
  obtain ⟨hb, vs, vc, vt, ss, cc, tt, hw, h1, h2, h3⟩ := h
  refine (kept_any w w0.heap.size vs vc vt ss cc tt hw).mono ?_
  rintro e w' ⟨rfl, n, rfl⟩
  exact ⟨rfl, below_drewN hb n, vs, vc, vt, ss, cc, tt, hw.below (below_drewN (Below.refl _ _) n), h1, h2, h3⟩
theorem bk_new (w : World) : Bk w (w.alloc (.cells #[.slice none 0 0, .slice none 0 0, .slice none 0 0, .slice none 0 0, .slice none 0 0, .slice none 0 0, .slice none 0 0, .slice none 0 0] 29)) 0 := by
  refine ⟨(Below.refl _ _).alloc (Nat.le_refl _) _, .slice none 0 0, .slice none 0 0, .slice none 0 0, [], [], [], ?_, rfl, rfl, rfl⟩
  have hn : ∀ b, (Value.slice none 0 0).ownBlock ≠ some b := fun b e => by cases e
  have ho : ∀ e, World.ownsRow (w.alloc (.cells #[.slice none 0 0, .slice none 0 0, .slice none 0 0, .slice none 0 0, .slice none 0 0, .slice none 0 0, .slice none 0 0, .slice none 0 0] 29)) (w.heap.size + 1) e 1 (.slice none 0 0) 0 [] := fun e => ⟨rfl, Or.inl ⟨rfl, rfl⟩⟩
  refine { blk := heap1 _ _, os := ho _, oc := ho _, ot := ho _, n1 := fun b e => absurd e (hn b), n2 := fun b e => absurd e (hn b), n3 := fun b e => absurd e (hn b), hs := ?_, hc := ?_, ht := ?_, ls := Nat.zero_le _, lc := Nat.zero_le _, lt := Nat.zero_le _, hd := ?_ }
  · intro i u hu
    simp at hu
  · intro i u hu
    simp at hu
  · intro i u hu
    simp at hu
  · intro u hu
    simp at hu

set_option maxHeartbeats 3200000 in
set_option maxRecDepth 100000 in
theorem lawDecodes_any (ash aw : Addr) (w : World) (s o : ByteArray) (hs : s.size ≤ 1048576) (ho : o.size ≤ 1048576) (hE : Errs ash aw w) (hN : Env aw w.heap.size w) :
    Calls Tryz.prog 3 #[.string s, .string o] w fun e w' => e = .returned (.bool true) ∧ Below w.heap.size w w' := by
  have c := hide fun (k : Nat) (x : ByteArray) (w' : World) (hx : x.size ≤ 1048576) (hk : k ≤ 100) (h : Bk w w' k) => decodes_bk k x hx hE hN hk h
  have h0 := bk_new w
  clear hE hN
  go_enter Tryz.func3, Tryz.ntmps3
  go_wp2_with fail
  refine (c.out 0 s _ hs (by omega) h0).mono ?_
  clear h0
  rintro e w1 ⟨rfl, h1⟩
  have H1 := hide h1
  clear h1
  go_wp2_with fail
  refine (c.out 1 o _ ho (by omega) H1.out).mono ?_
  rintro e w2 ⟨rfl, h2⟩
  have H2 := hide h2
  clear h2
  go_wp2_with fail
  refine (c.out 2 s _ hs (by omega) H2.out).mono ?_
  rintro e w3 ⟨rfl, h3⟩
  have H3 := hide h3
  clear h3
  go_wp2_with fail
  refine (c.out 3 _ _ (by decide) (by omega) H3.out).mono ?_
  rintro e w4 ⟨rfl, h4⟩
  have H4 := hide h4
  clear h4
  go_wp2_with fail
  refine (kept_bk H4.out).mono ?_
  rintro e w5 ⟨rfl, h5⟩
  have H5 := hide h5
  clear h5
  go_wp2
  go_ret
  exact ⟨rfl, H5.out.1⟩
end Go.Proofs.YtnmfmoimjkoieaaGreatDoor.lw
