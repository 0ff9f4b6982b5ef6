/- courantlaw.keepSubs: filters that came out are written over and grown, and stand in the caller's book. courantlaw.keepSubs: its walk. courantlaw.keepSubs: the caller's book behind it. -/
import Derived.Test.YtnmfmoimjkoieaaGreatDoorMLwC
namespace Go.Proofs.YtnmfmoimjkoieaaGreatDoor.lw
open Go.RowKit Go.Proofs.YtnmfmoimjkoieaaGreatDoor.topPlain Go.Proofs.YtnmfmoimjkoieaaGreatDoor.topWalks Go.Proofs.YtnmfmoimjkoieaaGreatDoor.decPlain Go.Proofs.YtnmfmoimjkoieaaGreatDoor.rd

theorem infoFils : (Tryz.prog.info? 33).map (fun i => (i.zero, i.size, i.bytes)) = some (some (.slice none 0 0), 1, 24) := by kernel_rfl
def pat (q : Int) (j : Nat) : Value := if j % 2 = 0 then .string ⟨#[]⟩ else .int .i64 q
def pats (q : Int) (n : Nat) : List Value := filC (List.replicate n (([] : List UInt8), q))
theorem pats_length (q : Int) (n : Nat) : (pats q n).length = n * 2 := by unfold pats; rw [filC_length, List.length_replicate]
theorem pats_succ (q : Int) (n : Nat) : pats q (n + 1) = pats q n ++ [.string ⟨#[]⟩, .int .i64 q] := by
  unfold pats
  rw [List.replicate_succ', filC_snoc]
  rfl
theorem pats_at (q : Int) (n j : Nat) (hj : j < n * 2) : (pats q n)[j]? = some (pat q j) := by
  induction n with
  | zero => omega
  | succ n ih =>
    rw [pats_succ]
    by_cases h : j < n * 2
    · rw [List.getElem?_append_left (by rw [pats_length]; exact h)]; exact ih h
    · rw [List.getElem?_append_right (by rw [pats_length]; omega), pats_length]
      rcases (by omega : j - n * 2 = 0 ∨ j - n * 2 = 1) with e | e
      · rw [e]; unfold pat; rw [if_pos (by omega)]; rfl
      · rw [e]; unfold pat; rw [if_neg (by omega)]; rfl
theorem own_cell2 {w : World} {C : Nat} {e : TypeId} {v : Value} {n g : Nat} {q : Int} (h : w.ownsRow C e 2 v n (pats q n)) (hb : v.ownBlock = some g) (j : Nat) (hj : j < n * 2) : w.cell? ⟨g, j, none⟩ = some (pat q j) := by
  rcases h.2 with ⟨h1, h0⟩ | ⟨g', cap, cur, e1, _, hh, h1, _, h3, h4⟩
  · omega
  · rw [e1] at hb
    have hg : g' = g := by simpa [Value.ownBlock] using hb
    subst hg
    have h5 : cur.toList[j]? = some (pat q j) := by
      rw [← pats_at q n j hj, ← h4, List.getElem?_take_of_lt hj]
    simp [World.cell?, hh]
    simpa using h5

/-- behind k lists written into the book; the list itself is longer by m -/
structure Ks (w wx : World) (bw C n k m : Nat) (q0 : Int) (vs vc vt vs' v v' : Value) (ss L : List Value) : Prop where
  blk : wx.heap[bw]? = some (.cells #[.slice none 0 0, .slice none 0 0, .slice none 0 0, vs', vc, vt, .slice none 0 0, .slice none 0 0] 29)
  ob : wx.ownsRow (bw + 1) 33 1 vs' (ss ++ L).length (ss ++ L)
  ol : wx.ownsRow C 95 2 v' (n + m) (pats q0 (n + m))
  ln : L.length = k
  ne : ∀ b, vs'.ownBlock = some b → v'.ownBlock ≠ some b
  nb : ∀ b, vs'.ownBlock = some b → vs.ownBlock = some b ∨ w.heap.size ≤ b
  nl : ∀ b, v'.ownBlock = some b → v.ownBlock = some b ∨ w.heap.size ≤ b
  fr : ∀ u ∈ L, ∃ ad t q, u = .slice ad t q ∧ t ≤ n + m ∧ (t = 0 ∨ ∃ g, ad = some ⟨g, 0, none⟩ ∧ C ≤ g ∧ g < wx.heap.size ∧ (v.ownBlock = some g ∨ w.heap.size ≤ g) ∧ vs'.ownBlock ≠ some g ∧ ∀ j, j < t * 2 → wx.cell? ⟨g, j, none⟩ = some (pat q0 j))
  old : ∀ b, b < w.heap.size → vs.ownBlock ≠ some b → v.ownBlock ≠ some b → b ≠ bw → wx.heap[b]? = w.heap[b]?
  fb : ∀ u, u ∈ L → ∀ b, u.ownBlock = some b → b < wx.heap.size ∧ (v.ownBlock = some b ∨ w.heap.size ≤ b)
  bC : bw < C
  size : w.heap.size ≤ wx.heap.size
  os : wx.os = w.os
  tape : wx.tape = w.tape
  output : wx.output = w.output

theorem Ks.put {w wx w3 : World} {bw C n k m : Nat} {q0 : Int} {vs vc vt vs' v v' u' : Value} {ss L : List Value} {o : Obj} (h : Ks w wx bw C n k m q0 vs vc vt vs' v v' ss L)
    (hown' : w3.ownsRow (bw + 1) 33 1 u' ((ss ++ L).length + 1) ((ss ++ L) ++ [v'])) (hgrow : (wx.alloc o).grownBy w3 vs'.ownBlock) (hat : u'.ownBlock = vs'.ownBlock ∨ u'.ownBlock = some (wx.alloc o).heap.size ∧ (wx.alloc o).grownBy w3 none) :
    Ks w (w3.setCell ⟨bw, 3, none⟩ u') bw C n (k + 1) m q0 vs vc vt u' v v' ss (L ++ [v']) := by
  have hbC := h.bC
  have hs := h.size
  have hblt : bw < wx.heap.size := (Array.getElem?_eq_some_iff.1 h.blk).1
  have hs3 : wx.heap.size < w3.heap.size := Nat.lt_of_lt_of_le (by simp) hgrow.size
  have hsz : (w3.setCell ⟨bw, 3, none⟩ u').heap.size = w3.heap.size := by simp [World.setCell]
  have hvb : vs'.ownBlock ≠ some bw := fun e => by have := (h.ob.lt bw e).1; omega
  have keep : ∀ b, b < wx.heap.size → vs'.ownBlock ≠ some b → w3.heap[b]? = wx.heap[b]? := fun b hb h1 => by
    rw [hgrow.block b (by simp; omega) (fun e => h1 e.symm), Below.heap_alloc _ _ _ hb]
  have keep4 : ∀ b, b < wx.heap.size → vs'.ownBlock ≠ some b → b ≠ bw → (w3.setCell ⟨bw, 3, none⟩ u').heap[b]? = wx.heap[b]? := fun b hb h1 h2 => (Below.heap_setCell _ _ _ _ h2).trans (keep b hb h1)
  have hu : ∀ b, u'.ownBlock = some b → vs'.ownBlock = some b ∨ wx.heap.size < b := fun b e => by
    rcases hat with h1 | ⟨h1, _⟩
    · exact Or.inl (h1.symm.trans e)
    · rw [h1] at e; have := Option.some.inj e; simp at this; exact Or.inr (by omega)
  have hvl : ∀ b, v'.ownBlock = some b → C ≤ b ∧ b < wx.heap.size := fun b e => h.ol.lt b e
  refine ⟨?_, ?_, ?_, by simp [h.ln], ?_, ?_, h.nl, ?_, ?_, ?_, hbC, by omega, hgrow.os.trans h.os, hgrow.tape.trans h.tape, hgrow.output.trans h.output⟩
  · have hb : w3.heap[bw]? = _ := (keep bw hblt hvb).trans h.blk
    rw [heap_setCell_same w3 bw 3 _ _ u' hb]
    rfl
  · rw [← List.append_assoc, List.length_append (bs := [v'])]
    exact own_keep hown' (Nat.lt_succ_self bw) (grown_set _ _ _ _)
  · exact own_keep ((h.ol.alloc o).kept hgrow (by
      cases hv : v'.ownBlock with
      | none => exact Or.inl rfl
      | some q => exact Or.inr (fun e => h.ne q e.symm hv))) hbC (grown_set _ _ _ _)
  · intro b e e2
    rcases hu b e with h1 | h1
    · exact h.ne b h1 e2
    · have := (hvl b e2).2; omega
  · intro b e
    rcases hu b e with h1 | h1
    · exact h.nb b h1
    · exact Or.inr (by omega)
  · intro u hm
    have cells : ∀ g j x, g < wx.heap.size → vs'.ownBlock ≠ some g → g ≠ bw → wx.cell? ⟨g, j, none⟩ = some x → (w3.setCell ⟨bw, 3, none⟩ u').cell? ⟨g, j, none⟩ = some x := fun g j x h1 h2 h3 h4 => by
      rw [World.cell?_of_block (w := wx) (keep4 g h1 h2 h3)]; exact h4
    rcases List.mem_append.1 hm with hm | hm
    · obtain ⟨ad, t, q, e, ht, hh⟩ := h.fr u hm
      refine ⟨ad, t, q, e, ht, ?_⟩
      rcases hh with h0 | ⟨g, e1, g1, g2, g3, g4, g5⟩
      · exact Or.inl h0
      · exact Or.inr ⟨g, e1, g1, by omega, g3, (fun e => by
          rcases hu g e with h1 | h1
          · exact g4 h1
          · omega), fun j hj => cells g j (pat q0 j) g2 g4 (by omega) (g5 j hj)⟩
    · rw [List.mem_singleton.1 hm]
      rcases h.ol.2 with ⟨e, h0⟩ | ⟨g, cap, cur, e, g1, g2, _⟩
      · exact ⟨_, _, _, e, Nat.zero_le _, Or.inl rfl⟩
      · have hob : v'.ownBlock = some g := by rw [e]; rfl
        have hgl := (hvl g hob).2
        have hne : vs'.ownBlock ≠ some g := fun e2 => h.ne g e2 hob
        refine ⟨_, _, _, e, Nat.le_refl _, Or.inr ⟨g, rfl, g1, by omega, h.nl g hob, (fun e2 => ?_), fun j hj => cells g j (pat q0 j) hgl hne (by omega) (own_cell2 h.ol hob j hj)⟩⟩
        rcases hu g e2 with h1 | h1
        · exact hne h1
        · omega
  · intro b hb h1 h2 h3
    refine (keep4 b (by omega) (fun e => ?_) h3).trans (h.old b hb h1 h2 h3)
    rcases h.nb b e with h4 | h4
    · exact h1 h4
    · omega
  · intro u hm b e
    rcases List.mem_append.1 hm with hm | hm
    · have := h.fb u hm b e
      exact ⟨by omega, this.2⟩
    · rw [List.mem_singleton.1 hm] at e
      exact ⟨by have := (hvl b e).2; omega, h.nl b e⟩
theorem Ks.more {w wx w5 : World} {bw C n k m : Nat} {q0 : Int} {vs vc vt vs' v v' u' : Value} {ss L : List Value} {o : Obj} (h : Ks w wx bw C n k m q0 vs vc vt vs' v v' ss L)
    (hown' : w5.ownsRow C 95 2 u' (n + m + 1) (pats q0 (n + m) ++ [.string ⟨#[]⟩, .int .i64 q0])) (hgrow : (wx.alloc o).grownBy w5 v'.ownBlock) (hat : u'.ownBlock = v'.ownBlock ∨ u'.ownBlock = some (wx.alloc o).heap.size ∧ (wx.alloc o).grownBy w5 none) :
    Ks w w5 bw C n k (m + 1) q0 vs vc vt vs' v u' ss L := by
  have hbC := h.bC
  have hs := h.size
  have hblt : bw < wx.heap.size := (Array.getElem?_eq_some_iff.1 h.blk).1
  have hs5 : wx.heap.size < w5.heap.size := Nat.lt_of_lt_of_le (by simp) hgrow.size
  have hvl : ∀ b, v'.ownBlock = some b → C ≤ b ∧ b < wx.heap.size := fun b e => h.ol.lt b e
  have keep : ∀ b, b < wx.heap.size → v'.ownBlock ≠ some b → w5.heap[b]? = wx.heap[b]? := fun b hb h1 => by
    rw [hgrow.block b (by simp; omega) (fun e => h1 e.symm), Below.heap_alloc _ _ _ hb]
  have hu : ∀ b, u'.ownBlock = some b → v'.ownBlock = some b ∨ wx.heap.size < b := fun b e => by
    rcases hat with h1 | ⟨h1, _⟩
    · exact Or.inl (h1.symm.trans e)
    · rw [h1] at e; have := Option.some.inj e; simp at this; exact Or.inr (by omega)
  have hol : w5.ownsRow C 95 2 u' (n + (m + 1)) (pats q0 (n + (m + 1))) := by
    rw [← Nat.add_assoc, pats_succ]
    exact hown'
  refine ⟨(keep bw hblt (fun e => by have := (hvl bw e).1; omega)).trans h.blk, ?_, hol, h.ln, ?_, h.nb, ?_, ?_, ?_, ?_, hbC, by omega, hgrow.os.trans h.os, hgrow.tape.trans h.tape, hgrow.output.trans h.output⟩
  · exact (h.ob.alloc o).kept hgrow (by
      cases hv : vs'.ownBlock with
      | none => exact Or.inl rfl
      | some q => exact Or.inr (fun e => h.ne q hv e.symm))
  · intro b e e2
    rcases hu b e2 with h1 | h1
    · exact h.ne b e h1
    · have := (h.ob.lt b e).2; omega
  · intro b e
    rcases hu b e with h1 | h1
    · exact h.nl b h1
    · exact Or.inr (by omega)
  · intro u hm
    obtain ⟨ad, t, q, e, ht, hh⟩ := h.fr u hm
    refine ⟨ad, t, q, e, by omega, ?_⟩
    rcases hh with h0 | ⟨g, e1, g1, g2, g3, g4, g5⟩
    · exact Or.inl h0
    · refine Or.inr ⟨g, e1, g1, by omega, g3, g4, fun j hj => ?_⟩
      by_cases hg : v'.ownBlock = some g
      · rcases hat with h1 | ⟨_, h1⟩
        · exact own_cell2 hol (h1.trans hg) j (by omega)
        · rw [World.cell?_of_block (w := wx) ((h1.block g (by simp; omega) (by simp)).trans (Below.heap_alloc _ _ _ g2))]
          exact g5 j hj
      · rw [World.cell?_of_block (w := wx) (keep g g2 hg)]
        exact g5 j hj
  · intro b hb h1 h2 h3
    refine (keep b (by omega) (fun e => ?_)).trans (h.old b hb h1 h2 h3)
    rcases h.nl b e with h4 | h4
    · exact h2 h4
    · omega
  · intro u hm b e
    have := h.fb u hm b e
    exact ⟨by omega, this.2⟩
end Go.Proofs.YtnmfmoimjkoieaaGreatDoor.lw

namespace Go.Proofs.YtnmfmoimjkoieaaGreatDoor.lw
open Go.RowKit Go.Proofs.YtnmfmoimjkoieaaGreatDoor.topPlain Go.Proofs.YtnmfmoimjkoieaaGreatDoor.topWalks Go.Proofs.YtnmfmoimjkoieaaGreatDoor.decPlain Go.Proofs.YtnmfmoimjkoieaaGreatDoor.rd

theorem own_rowIs2 {w : World} {C : Nat} {e : TypeId} {g n cap : Nat} {xs : List Value} (h : w.ownsRow C e 2 (.slice (some ⟨g, 0, none⟩) n cap) n xs) : C ≤ g ∧ n ≤ cap ∧ cap ≤ maxLen ∧ ∃ f, w.rowIs g e (cap * 2) f := by
  rcases h.2 with ⟨h1, _⟩ | ⟨g', cap', cur, h1, h2, h3, h4, h5, h6, h7⟩
  · cases h1
  · simp only [Value.slice.injEq, Option.some.injEq, Addr.mk.injEq, and_true] at h1
    obtain ⟨rfl, _, rfl⟩ := h1
    refine ⟨h2, h4, h5, fun j => cur.getD j (.bool false), ⟨cur, h3, h6, fun i hi => ?_⟩⟩
    have : i < cur.size := by omega
    simp [Array.getD, this]
theorem rowIs_own2 {w : World} {C : Nat} {e : TypeId} {g n cap : Nat} {f : Nat → Value} {q : Int} (h : w.rowIs g e (cap * 2) f) (hC : C ≤ g) (hn : n ≤ cap) (hm : cap ≤ maxLen) (hf : ∀ j, j < n * 2 → f j = pat q j) : w.ownsRow C e 2 (.slice (some ⟨g, 0, none⟩) n cap) n (pats q n) := by
  obtain ⟨cur, hb, hs, hc⟩ := h
  refine ⟨pats_length q n, Or.inr ⟨g, cap, cur, rfl, hC, hb, hn, hm, hs, ?_⟩⟩
  apply List.ext_getElem?
  intro j
  by_cases hj : j < n * 2
  · rw [List.getElem?_take_of_lt hj, pats_at q n j hj, Array.getElem?_toList, hc j (by omega), hf j hj]
  · rw [List.getElem?_eq_none (by simp; omega), List.getElem?_eq_none (by rw [pats_length]; omega)]

theorem cell_two_new (w : World) (x y : Value) : ∀ j u, [x, y][j]? = some u → (w.alloc (.cells #[x, y] 95)).cell? ((⟨w.heap.size, 0, none⟩ : Addr).add j) = some u := by
  intro j u hj
  match j, hj with
  | 0, hj => simp at hj; subst hj; simp [Addr.add]
  | 1, hj => simp at hj; subst hj; simp [Addr.add]
  | j + 2, hj => simp at hj
theorem cell_two_set (w : World) (b o : Nat) (v x y : Value) : ∀ j u, [x, y][j]? = some u → ((w.setCell ⟨b, o, none⟩ v).alloc (.cells #[x, y] 95)).cell? ((⟨w.heap.size, 0, none⟩ : Addr).add j) = some u := by
  have h := cell_two_new (w.setCell ⟨b, o, none⟩ v) x y
  rw [show (w.setCell ⟨b, o, none⟩ v).heap.size = w.heap.size by simp [World.setCell]] at h
  exact h

set_option maxHeartbeats 3200000 in
set_option maxRecDepth 100000 in
theorem keepSubs_any (w : World) (bw C n : Nat) (vs vc vt v : Value) (ss cc tt xs : List Value) (h : Wd w bw vs vc vt ss cc tt) (hv : w.ownsRow C 95 2 v n xs) (hbC : bw < C) (hfr : ∀ b, v.ownBlock = some b → Free bw vs vc vt ss cc tt b) (hn : n ≤ 2000000) (h9 : ss.length < 990) (hCs : C ≤ w.heap.size) :
    Calls Tryz.prog 36 #[.pointer (some ⟨bw, 0, none⟩), v] w fun e w' => e = .returned (.tuple #[]) ∧ ∃ wA vs' v' L, Below w.heap.size w wA ∧ Ks wA w' bw C n 4 4 (-1 - (ss.length : Int)) vs vc vt vs' v v' ss L := by
  obtain ⟨c0, c1, c2, c3, c4, c5, c6, c7⟩ := wd_cells h.blk
  obtain ⟨pc, nc, kc, rfl⟩ := own_slice h.os
  have hnc : nc = ss.length := by rcases h.os.2 with ⟨h1, h2⟩ | ⟨g, cap, cur, h1, _⟩ <;> cases h1 <;> omega
  subst hnc
  obtain ⟨i0, hi, hz0, hz1, hz2⟩ := info_parts infoFils
  obtain ⟨i1, hj, hy0, hy1, hy2⟩ := info_parts infoFilter
  obtain ⟨pv, nv, kv, rfl⟩ := own_slice hv
  have hnv : nv = n := by rcases hv.2 with ⟨h1, h2⟩ | ⟨g, cap, cur, h1, _⟩ <;> cases h1 <;> omega
  subst hnv
  have HFR := hide hfr
  have HOS := hide (show ∀ b, (Value.slice pc ss.length kc).ownBlock = some b → b < w.heap.size from fun b e => (h.os.lt b e).2)
  have hbws := h.lt'
  have hbA : Below w.heap.size w (w.alloc (.cells #[.string ⟨#[]⟩, .int .i64 (-1 - (ss.length : Int))] 95)) := (Below.refl _ _).alloc (Nat.le_refl _) _
  have H := hide (h.below hbA)
  have HBA := hide hbA
  have HV := hide (hv.alloc (.cells #[.string ⟨#[]⟩, .int .i64 (-1 - (ss.length : Int))] 95))
  have hvlt : ∀ b, (Value.slice pv nv kv).ownBlock = some b → b < w.heap.size := fun b e => (hv.lt b e).2
  have HVL := hide hvlt
  clear hfr h hv c0 c1 c2 c4 c5 c6 c7 hbA hvlt
  go_enter Tryz.func36, Tryz.ntmps36
  go_wp2_with fail
  have x0 : (w.alloc (.cells #[.string ⟨#[]⟩, .int .i64 (-1 - (ss.length : Int))] 95)).cell? ⟨w.heap.size, 0, none⟩ = some (.string ⟨#[]⟩) := by simp
  have x1 : (w.alloc (.cells #[.string ⟨#[]⟩, .int .i64 (-1 - (ss.length : Int))] 95)).cell? ⟨w.heap.size, 1, none⟩ = some (.int .i64 (-1 - (ss.length : Int))) := by simp
  have hsA : (w.alloc (.cells #[.string ⟨#[]⟩, .int .i64 (-1 - (ss.length : Int))] 95)).heap.size = w.heap.size + 1 := by simp
  generalize hbf : w.heap.size = bf at *
  generalize w.alloc (.cells #[.string ⟨#[]⟩, .int .i64 (-1 - (ss.length : Int))] 95) = wA at *
  have HBF := hide hbf
  clear hbf
  go_loopw [5] (fun i wx => ∃ (k : Nat), k ≤ nv ∧ i = .int .i64 k ∧ wA.grownBy wx (Value.slice pv nv kv).ownBlock ∧ (nv = 0 ∧ wx = wA ∨ ∃ g f, pv = some ⟨g, 0, none⟩ ∧ C ≤ g ∧ g < bf ∧ nv ≤ kv ∧ kv ≤ maxLen ∧ wx.rowIs g 95 (kv * 2) f ∧ ∀ j, j < k * 2 → f j = pat (-1 - (ss.length : Int)) j)) (fun i _ => nv - (intOf i).toNat)
  case atStart =>
    refine ⟨0, Nat.zero_le _, rfl, grown_refl _ _, ?_⟩
    cases pv with
    | none =>
      refine Or.inl ⟨?_, rfl⟩
      rcases HV.out.2 with ⟨h1, h2⟩ | ⟨g, cap, cur, h1, _⟩
      · exact h2
      · cases h1
    | some a =>
      obtain ⟨g, o, sp⟩ := a
      have ha : (⟨g, o, sp⟩ : Addr) = ⟨g, 0, none⟩ := by
        rcases HV.out.2 with ⟨h1, h2⟩ | ⟨g', cap, cur, h1, _⟩
        · cases h1
        · simp only [Value.slice.injEq, Option.some.injEq, Addr.mk.injEq] at h1
          obtain ⟨⟨rfl, rfl, rfl⟩, _⟩ := h1
          rfl
      have hgl := HVL.out g rfl
      rw [ha]
      have hv := HV.out
      rw [ha] at hv
      obtain ⟨h1, h2, h3, f, h4⟩ := own_rowIs2 hv
      exact Or.inr ⟨g, f, rfl, h1, hgl, h2, h3, h4, fun j hj => by omega⟩
  case round =>
    obtain ⟨k, hk, rfl, hg, hh⟩ := hrel
    by_cases hlt : k < nv
    · rcases hh with ⟨h0, _⟩ | ⟨g, f, rfl, hCg, hgb, hnk, hkm, hrow, hf⟩
      · omega
      · have q1 := hrow.cell (i := k * 2) (by omega)
        have f1 := hrow.frozen (k * 2)
        have hr1 := hrow.set (k * 2) (.string ⟨#[]⟩)
        have q2 := hr1.cell (i := k * 2 + 1) (by omega)
        have f2 := hr1.frozen (k * 2 + 1)
        have y0 : wr.cell? ⟨bf, 0, none⟩ = some (.string ⟨#[]⟩) := hg.cell x0 (by simp [Value.ownBlock]; omega)
        have y1 : wr.cell? ⟨bf, 1, none⟩ = some (.int .i64 (-1 - (ss.length : Int))) := hg.cell x1 (by simp [Value.ownBlock]; omega)
        have HR2 := hide (hr1.set (k * 2 + 1) (.int .i64 (-1 - (ss.length : Int))))
        have HG := hide (grown_trans (grown_trans hg (grown_set wr g (k * 2) (.string ⟨#[]⟩))) (grown_set _ g (k * 2 + 1) (.int .i64 (-1 - (ss.length : Int)))))
        have HF := hide hf
        clear hrow hg hf hr1
        go_wp2_with fail
        go_roundw
        case rel =>
          refine ⟨k + 1, by omega, by go_num, HG.out, Or.inr ⟨g, _, rfl, hCg, hgb, hnk, hkm, HR2.out, fun j hj => ?_⟩⟩
          show (if j = k * 2 + 1 then _ else if j = k * 2 then _ else f j) = _
          by_cases e : j = k * 2 + 1
          · rw [if_pos e]; unfold pat; rw [if_neg (by omega)]
          · rw [if_neg e]
            by_cases e2 : j = k * 2
            · rw [if_pos e2]; unfold pat; rw [if_pos (by omega)]
            · rw [if_neg e2]; exact HF.out j (by omega)
        case measure => simp [intOf]; omega
    · have HG := hide hg
      have HH := hide hh
      clear hg hh
      have hK0 : Ks wA wr bw C nv 0 0 (-1 - (ss.length : Int)) (.slice pc ss.length kc) vc vt (.slice pc ss.length kc) (.slice pv nv kv) (.slice pv nv kv) ss [] := by
        have hg := HG.out
        have hW := H.out
        have hne : ∀ b, (Value.slice pv nv kv).ownBlock = some b → C ≤ b := fun b e => (HV.out.lt b e).1
        have hkeep : ∀ b, b < wA.heap.size → b < C → wr.heap[b]? = wA.heap[b]? := fun b hb hc => hg.block b hb (fun e => by have := hne b e.symm; omega)
        refine ⟨(hkeep bw hW.lt' (by omega)).trans hW.blk, ?_, ?_, rfl, ?_, fun b e => Or.inl e, fun b e => Or.inl e, fun u hm => by simp at hm, fun b hb _ h2 _ => hg.block b hb (fun e => h2 e.symm), fun u hm => by simp at hm, by omega, hg.size, hg.os, hg.tape, hg.output⟩
        · rw [List.append_nil]
          exact hW.os.kept hg (by
            cases hv : (Value.slice pc ss.length kc).ownBlock with
            | none => exact Or.inl rfl
            | some q => exact Or.inr (fun e => (HFR.out q e.symm).1.2.1 hv))
        · rcases HH.out with ⟨h0, e⟩ | ⟨g, f, rfl, h1, _, h2, h3, h4, h5⟩
          · have hv := HV.out
            rw [e]
            subst h0
            refine ⟨rfl, ?_⟩
            rcases hv.2 with h | ⟨g, cap, cur, q1, q2, q3, q4, q5, q6, _⟩
            · exact Or.inl h
            · exact Or.inr ⟨g, cap, cur, q1, q2, q3, q4, q5, q6, by simp [pats, filC]⟩
          · exact rowIs_own2 h4 h1 h2 h3 (fun j hj => h5 j (by omega))
        · intro b e e2
          exact (HFR.out b e2).1.2.1 e
      have HK0 := hide hK0
      clear hK0 HH HG
      go_wp2_with fail
      go_loopw [1, 6] (fun l i wx => ∃ (k : Nat) (vs' v' : Value) (L : List Value), k ≤ 4 ∧ i = .int .i64 (k : Int) ∧ l = v' ∧ Ks wA wx bw C nv k k (-1 - (ss.length : Int)) (.slice pc ss.length kc) vc vt vs' (.slice pv nv kv) v' ss L) (fun _ i _ => 4 - (intOf i).toNat)
      case atStart => exact ⟨0, _, _, [], by omega, rfl, rfl, HK0.out⟩
      case round =>
        obtain ⟨k, vs', v', L, hk, rfl, rfl, hK⟩ := hrel
        have HK := hide hK
        by_cases hlt4 : k < 4
        · obtain ⟨p1, m1, q1, rfl⟩ := own_slice hK.ob
          obtain ⟨p2, m2, q2, rfl⟩ := own_slice hK.ol
          obtain ⟨_, _, _, d4, _, _, _, _⟩ := wd_cells hK.blk
          have f4 : wr.frozen? ⟨bw, 3, none⟩ = false := by simp [World.frozen?, hK.blk]
          have hLn := hK.ln
          have hll : (ss ++ L).length ≤ 1000 := by simp; omega
          have hbl : bw < wr.heap.size := (Array.getElem?_eq_some_iff.1 hK.blk).1
          have hCw : C ≤ wr.heap.size := by have := hK.size; omega
          have hvb : (Value.slice p1 m1 q1).ownBlock ≠ some bw := fun e => by have := (hK.ob.lt bw e).1; omega
          have HLL := hide hll
          have HVB := hide hvb
          clear hK hll hvb c3
          go_wp2_with (first
            | (at_builtin; refine wpList_append_keep _ rfl _ _ 26 rfl (bw + 1) 33 i0 (.slice none 0 0) 1 24 Tryz.underlying26 hi hz0 hz1 hz2 rfl (by decide) _ (ss ++ L).length (ss ++ L) rfl (HK.out.ob.alloc _) ⟨wr.heap.size, 0, none⟩ 1 1 (by decide) [.slice p2 m2 q2] rfl rfl (cell_one_new _ _ _) (fun u hu => by rw [List.mem_singleton.1 hu]; rfl) (by unfold maxLen; have := HLL.out; omega) (by have := HLL.out; omega) (by simp; omega) ?_))
          intro u1 w3 hown1 hgrow1 hat1
          have hK1 := HK.out.put (by rw [List.append_assoc, List.length_append, hLn]; exact hown1) hgrow1 (hat1.imp (fun e => e) (fun e => ⟨by rw [e.1]; simp, e.2⟩))
          have hb3 : w3.heap[bw]? = _ := (hgrow1.block bw (by simp; omega) (fun e => HVB.out e.symm)).trans ((Below.heap_alloc _ _ _ hbl).trans HK.out.blk)
          obtain ⟨_, _, _, d4', _, _, _, _⟩ := wd_cells hb3
          have f4' : w3.frozen? ⟨bw, 3, none⟩ = false := by simp [World.frozen?, hb3]
          obtain ⟨g1, cap1, rfl⟩ := own_form hown1 (by omega)
          have hs3 : wr.heap.size < w3.heap.size := Nat.lt_of_lt_of_le (by simp) hgrow1.size
          have hfb : w3.heap[bf]? = wA.heap[bf]? := (Below.heap_setCell w3 ⟨bw, 3, none⟩ _ bf (by simp; omega)).symm.trans (hK1.old bf (by omega) (fun e => by have := HOS.out bf e; omega) (fun e => by have := HVL.out bf e; omega) (by omega))
          have y0 : w3.cell? ⟨bf, 0, none⟩ = some (.string ⟨#[]⟩) := (World.cell?_of_block (w := wA) hfb).trans x0
          have y1 : w3.cell? ⟨bf, 1, none⟩ = some (.int .i64 (-1 - (ss.length : Int))) := (World.cell?_of_block (w := wA) hfb).trans x1
          have hbfw : ¬bf = bw := by omega
          have HK1 := hide hK1
          clear hown1 hgrow1 hat1 hK1 hb3 d4 f4 hfb
          go_wp2_with (first
            | (at_builtin; refine wpList_append_keep _ rfl _ _ 33 rfl C 95 i1 (.agg #[.string ByteArray.empty, .int .i64 0]) 2 24 Tryz.underlying33 hj hy0 hy1 hy2 rfl (by decide) _ (nv + k) (pats (-1 - (ss.length : Int)) (nv + k)) rfl (HK1.out.ol.alloc _) ⟨w3.heap.size, 0, none⟩ 1 1 (by decide) [.string ⟨#[]⟩, .int .i64 (-1 - (ss.length : Int))] rfl rfl (cell_two_set _ _ _ _ _ _) (fun u hu => by simp at hu; rcases hu with rfl | rfl <;> rfl) (by unfold maxLen; omega) (by omega) (by simp; omega) ?_))
          intro u2 w5 hown2 hgrow2 hat2
          have HK2 := hide (HK1.out.more hown2 hgrow2 (hat2.imp (fun e => e) (fun e => ⟨by rw [e.1]; simp, e.2⟩)))
          obtain ⟨g2, cap2, rfl⟩ := own_form hown2 (by omega)
          clear hown2 hgrow2 hat2
          go_wp2
          go_roundw
          case rel => exact ⟨k + 1, _, _, _, by omega, by go_num, rfl, HK2.out⟩
          case measure => simp [intOf]; omega
        · have : k = 4 := by omega
          subst this
          clear hK
          go_wp2_with fail
          go_end0
          exact ⟨rfl, wA, _, _, _, by rw [HBF.out]; exact HBA.out, HK.out⟩
end Go.Proofs.YtnmfmoimjkoieaaGreatDoor.lw

namespace Go.Proofs.YtnmfmoimjkoieaaGreatDoor.lw
open Go.RowKit Go.Proofs.YtnmfmoimjkoieaaGreatDoor.topPlain Go.Proofs.YtnmfmoimjkoieaaGreatDoor.topWalks Go.Proofs.YtnmfmoimjkoieaaGreatDoor.decPlain Go.Proofs.YtnmfmoimjkoieaaGreatDoor.rd

theorem Ks.wd {w w' : World} {bw C n m : Nat} {vs vc vt vs' v v' : Value} {ss cc tt L xs : List Value} (h : Wd w bw vs vc vt ss cc tt) (hK : Ks w w' bw C n 4 m (-1 - (ss.length : Int)) vs vc vt vs' v v' ss L) (h4 : ss.length % 4 = 0) (hv : w.ownsRow C 95 2 v n xs) (hfr : ∀ b, v.ownBlock = some b → Free bw vs vc vt ss cc tt b) (hn : n + m ≤ 2000000) (h9 : ss.length < 990) :
    Wd w' bw vs' vc vt (ss ++ L) cc tt ∧ (∀ b, b < w.heap.size → Free bw vs vc vt ss cc tt b → v.ownBlock ≠ some b → w'.heap[b]? = w.heap[b]? ∧ Free bw vs' vc vt (ss ++ L) cc tt b) ∧ Below bw w w' := by
  have hbw := h.lt'
  have hs := hK.size
  have hln := hK.ln
  have hbC := hK.bC
  have hvb : ∀ b, v.ownBlock = some b → C ≤ b ∧ b < w.heap.size := fun b e => hv.lt b e
  have hout : ∀ g, OutB bw vs vc vt g → g < w.heap.size → OutB bw vs' vc vt g := fun g ho hl => ⟨ho.1, fun e => by
    rcases hK.nb g e with h1 | h1
    · exact ho.2.1 h1
    · omega, ho.2.2.1, ho.2.2.2⟩
  have held : ∀ sz f ys, (∀ u, u ∈ ys → u ∈ ss ∨ u ∈ cc ∨ u ∈ tt) → Held w sz f ys (OutB bw vs vc vt) → Held w' sz f ys (OutB bw vs' vc vt) := fun sz f ys hy hh =>
    hh.keep hs (fun u g hu hub ho hl => ⟨hout g ho hl, hK.old g hl ho.2.1 (fun e => (hfr g e).2 u (hy u hu) hub) ho.1⟩)
  have hrow : ∀ {e : TypeId} {u : Value} {k : Nat} {ys : List Value}, w.ownsRow (bw + 1) e 1 u k ys → (∀ b, u.ownBlock = some b → vs.ownBlock ≠ some b ∧ v.ownBlock ≠ some b) → w'.ownsRow (bw + 1) e 1 u k ys := fun {e u k ys} hu hb => by
    refine ⟨hu.1, ?_⟩
    rcases hu.2 with h1 | ⟨g, cap, cur, e1, g1, g2, g3⟩
    · exact Or.inl h1
    · have hgo : u.ownBlock = some g := by rw [e1]; rfl
      exact Or.inr ⟨g, cap, cur, e1, g1, (hK.old g (hu.lt g hgo).2 (hb g hgo).1 (hb g hgo).2 (by omega)).trans g2, g3⟩
  refine ⟨⟨hK.blk, hK.ob, hrow h.oc (fun b e => ⟨fun e2 => h.n1 b e2 e, fun e2 => (hfr b e2).1.2.2.1 e⟩), hrow h.ot (fun b e => ⟨fun e2 => h.n2 b e2 e, fun e2 => (hfr b e2).1.2.2.2 e⟩), ?_, ?_, h.n3, ?_, held _ _ _ (fun u hu => Or.inr (Or.inl hu)) h.hc, held _ _ _ (fun u hu => Or.inr (Or.inr hu)) h.ht, by simp; omega, h.lc, h.lt, ?_⟩, ?_, ?_⟩
  · intro b e e2
    rcases hK.nb b e with h1 | h1
    · exact h.n1 b h1 e2
    · have := (h.oc.lt b e2).2; omega
  · intro b e e2
    rcases hK.nb b e with h1 | h1
    · exact h.n2 b h1 e2
    · have := (h.ot.lt b e2).2; omega
  · intro i u hu
    rcases Nat.lt_or_ge i ss.length with hi | hi
    · rw [List.getElem?_append_left hi] at hu
      exact held _ _ _ (fun u hu => Or.inl hu) h.hs i u hu
    · rw [List.getElem?_append_right hi] at hu
      have hlt : i - ss.length < L.length := (List.getElem?_eq_some_iff.1 hu).1
      obtain ⟨ad, t, q, e, ht, hh⟩ := hK.fr u (List.mem_of_getElem? hu)
      refine ⟨ad, t, q, e, by omega, ?_⟩
      rcases hh with h0 | ⟨g, e1, g1, g2, g3, g4, g5⟩
      · exact Or.inl h0
      · have hog : OutB bw vs' vc vt g := by
          rcases g3 with g3 | g3
          · exact hout g (hfr g g3).1 (hvb g g3).2
          · exact ⟨by omega, g4, fun e2 => by have := (h.oc.lt g e2).2; omega, fun e2 => by have := (h.ot.lt g e2).2; omega⟩
        refine Or.inr ⟨g, e1, hog, g2, fun j hj => ?_⟩
        rw [g5 j (by omega)]
        unfold pat subF
        rw [show i / 4 * 4 = ss.length by omega]
  · intro u hu b e
    rcases hu with h1 | h1 | h1
    · rcases List.mem_append.1 h1 with h2 | h2
      · have := h.hd u (Or.inl h2) b e; omega
      · exact (hK.fb u h2 b e).1
    · have := h.hd u (Or.inr (Or.inl h1)) b e; omega
    · have := h.hd u (Or.inr (Or.inr h1)) b e; omega
  · intro b hb hf hne
    refine ⟨hK.old b hb hf.1.2.1 hne hf.1.1, hout b hf.1 hb, fun u hu => ?_⟩
    rcases hu with h1 | h1 | h1
    · rcases List.mem_append.1 h1 with h2 | h2
      · exact hf.2 u (Or.inl h2)
      · intro e
        rcases (hK.fb u h2 b e).2 with h3 | h3
        · exact hne h3
        · omega
    · exact hf.2 u (Or.inr (Or.inl h1))
    · exact hf.2 u (Or.inr (Or.inr h1))
  · exact ⟨hK.os, hK.tape, hK.output, hs, fun k hk => hK.old k (by omega) (fun e => by have := (h.os.lt k e).1; omega) (fun e => by have := (hvb k e).1; omega) (by omega)⟩

/-- keepSubs, as decodes needs it -/
theorem keepSubs_wd (w : World) (bw C n : Nat) (vs vc vt v : Value) (ss cc tt xs : List Value) (h : Wd w bw vs vc vt ss cc tt) (hv : w.ownsRow C 95 2 v n xs) (hbC : bw < C) (hfr : ∀ b, v.ownBlock = some b → Free bw vs vc vt ss cc tt b) (hn : n ≤ 1100000) (h4 : ss.length % 4 = 0) (h9 : ss.length < 990) (hCs : C ≤ w.heap.size) :
    Calls Tryz.prog 36 #[.pointer (some ⟨bw, 0, none⟩), v] w fun e w' => e = .returned (.tuple #[]) ∧ ∃ vs' L, L.length = 4 ∧ Wd w' bw vs' vc vt (ss ++ L) cc tt ∧ (∀ b, b < w.heap.size → Free bw vs vc vt ss cc tt b → v.ownBlock ≠ some b → w'.heap[b]? = w.heap[b]? ∧ Free bw vs' vc vt (ss ++ L) cc tt b) ∧ Below bw w w' :=
  (keepSubs_any w bw C n vs vc vt v ss cc tt xs h hv hbC hfr (by omega) h9 hCs).mono fun e w' ⟨he, wA, vs', v', L, hA, hK⟩ => by
    obtain ⟨h1, h2, h3⟩ := Ks.wd (h.below hA) hK h4 (own_below hv hA) hfr (by omega) h9
    exact ⟨he, vs', L, hK.ln, h1, fun b hb hf hne => ⟨(h2 b (Nat.lt_of_lt_of_le hb hA.size) hf hne).1.trans (hA.block b hb), (h2 b (Nat.lt_of_lt_of_le hb hA.size) hf hne).2⟩, (hA.mono (Nat.le_of_lt h.lt')).trans h3⟩
end Go.Proofs.YtnmfmoimjkoieaaGreatDoor.lw
