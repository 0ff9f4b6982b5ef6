import Derived.Test.YtnmfmoimjkoieaaGreatDoorJ16
/- courantlaw.keepCodes: numbers that came out are written over and grown, and stand in the caller's book. courantlaw.keepCodes, its first loop: each number is written over. courantlaw.keepCodes: the caller's book behind it. -/
namespace Go.Proofs.YtnmfmoimjkoieaaGreatDoor.lw
open Go.RowKit Go.Proofs.YtnmfmoimjkoieaaGreatDoor.topPlain Go.Proofs.YtnmfmoimjkoieaaGreatDoor.topWalks Go.Proofs.YtnmfmoimjkoieaaGreatDoor.decPlain Go.Proofs.YtnmfmoimjkoieaaGreatDoor.rd

theorem infoInts : (Tryz.prog.info? 34).map (fun i => (i.zero, i.size, i.bytes)) = some (some (.slice none 0 0), 1, 24) := by kernel_rfl
/-- a list of the call's own as a row by the index -/
theorem own_rowIs {w : World} {C : Nat} {e : TypeId} {g n cap : Nat} {xs : List Value} (h : w.ownsRow C e 1 (.slice (some ⟨g, 0, none⟩) n cap) n xs) : C ≤ g ∧ n ≤ cap ∧ cap ≤ maxLen ∧ ∃ f, w.rowIs g e cap f ∧ ∀ j u, xs[j]? = some u → f j = u := by
  rcases h.2 with ⟨h1, _⟩ | ⟨g', cap', cur, h1, h2, h3, h4, h5, h6, h7⟩
  · cases h1
  · simp only [Value.slice.injEq, Option.some.injEq, Addr.mk.injEq, and_true] at h1
    obtain ⟨rfl, _, rfl⟩ := h1
    refine ⟨h2, h4, h5, fun j => cur.getD j (.bool false), ⟨cur, h3, by omega, fun i hi => ?_⟩, fun j u hu => ?_⟩
    · have : i < cur.size := by omega
      simp [Array.getD, this]
    · have hj : j < xs.length := (List.getElem?_eq_some_iff.1 hu).1
      have hx := h.1
      rw [← h7, List.getElem?_take_of_lt (by omega)] at hu
      have : j < cur.size := by omega
      have hu' : cur[j]? = some u := by simpa using hu
      simp [Array.getD, this]
      rw [Array.getElem?_eq_getElem this] at hu'
      exact Option.some.inj hu'
/-- a row by the index as a list of the call's own -/
theorem rowIs_own {w : World} {C : Nat} {e : TypeId} {g n cap : Nat} {f : Nat → Value} {v : Value} (h : w.rowIs g e cap f) (hC : C ≤ g) (hn : n ≤ cap) (hm : cap ≤ maxLen) (hf : ∀ j, j < n → f j = v) : w.ownsRow C e 1 (.slice (some ⟨g, 0, none⟩) n cap) n (List.replicate n v) := by
  obtain ⟨cur, hb, hs, hc⟩ := h
  refine ⟨by simp, Or.inr ⟨g, cap, cur, rfl, hC, hb, hn, hm, by omega, ?_⟩⟩
  apply List.ext_getElem?
  intro j
  by_cases hj : j < n
  · rw [List.getElem?_take_of_lt (by omega), List.getElem?_replicate, if_pos hj, Array.getElem?_toList, hc j (by omega), hf j hj]
  · rw [List.getElem?_eq_none (by simp; omega), List.getElem?_eq_none (by simp; omega)]
end Go.Proofs.YtnmfmoimjkoieaaGreatDoor.lw

namespace Go.Proofs.YtnmfmoimjkoieaaGreatDoor.lw
open Go.RowKit Go.Proofs.YtnmfmoimjkoieaaGreatDoor.topPlain Go.Proofs.YtnmfmoimjkoieaaGreatDoor.topWalks Go.Proofs.YtnmfmoimjkoieaaGreatDoor.decPlain Go.Proofs.YtnmfmoimjkoieaaGreatDoor.rd

/-- behind k lists written into the book; the list itself is longer by m -/
structure Kc (w wx : World) (bw C n k m : Nat) (c : Value) (vs vc vt vc' v v' : Value) (cc L : List Value) : Prop where
  blk : wx.heap[bw]? = some (.cells #[.slice none 0 0, .slice none 0 0, .slice none 0 0, vs, vc', vt, .slice none 0 0, .slice none 0 0] 29)
  ob : wx.ownsRow (bw + 1) 34 1 vc' (cc ++ L).length (cc ++ L)
  ol : wx.ownsRow C 3 1 v' (n + m) (List.replicate (n + m) c)
  ln : L.length = k
  ne : ∀ b, vc'.ownBlock = some b → v'.ownBlock ≠ some b
  nb : ∀ b, vc'.ownBlock = some b → vc.ownBlock = some b ∨ w.heap.size ≤ b
  nl : ∀ b, v'.ownBlock = some b → v.ownBlock = some b ∨ w.heap.size ≤ b
  fr : ∀ u ∈ L, ∃ ad t q, u = .slice ad t q ∧ t ≤ n + m ∧ (t = 0 ∨ ∃ g, ad = some ⟨g, 0, none⟩ ∧ C ≤ g ∧ g < wx.heap.size ∧ (v.ownBlock = some g ∨ w.heap.size ≤ g) ∧ vc'.ownBlock ≠ some g ∧ ∀ j, j < t → wx.cell? ⟨g, j, none⟩ = some c)
  old : ∀ b, b < w.heap.size → vc.ownBlock ≠ some b → v.ownBlock ≠ some b → b ≠ bw → wx.heap[b]? = w.heap[b]?
  fb : ∀ u, u ∈ L → ∀ b, u.ownBlock = some b → b < wx.heap.size ∧ (v.ownBlock = some b ∨ w.heap.size ≤ b)
  bC : bw < C
  size : w.heap.size ≤ wx.heap.size
  os : wx.os = w.os
  tape : wx.tape = w.tape
  output : wx.output = w.output

theorem cell_one_set (w : World) (b o : Nat) (v x : Value) : ∀ j u, [x][j]? = some u → ((w.setCell ⟨b, o, none⟩ v).alloc (.cells #[x] 3)).cell? ((⟨w.heap.size, 0, none⟩ : Addr).add j) = some u := by
  have h := cell_one_new (w.setCell ⟨b, o, none⟩ v) x 3
  rw [show (w.setCell ⟨b, o, none⟩ v).heap.size = w.heap.size by simp [World.setCell]] at h
  exact h
theorem own_cell {w : World} {C : Nat} {e : TypeId} {v : Value} {n g : Nat} {c : Value} (h : w.ownsRow C e 1 v n (List.replicate n c)) (hb : v.ownBlock = some g) (j : Nat) (hj : j < n) : w.cell? ⟨g, j, none⟩ = some c := by
  obtain ⟨g', cap, e1, _, h2⟩ := own_elem (xs := List.replicate n c) (by rw [List.length_replicate]; exact h) j c (by rw [List.getElem?_replicate, if_pos hj])
  rw [e1] at hb
  have : g' = g := by simpa [Value.ownBlock] using hb
  rw [← this]; exact h2
theorem Kc.put {w wx w3 : World} {bw C n k m : Nat} {c vs vc vt vc' v v' u' : Value} {cc L : List Value} {o : Obj} (h : Kc w wx bw C n k m c vs vc vt vc' v v' cc L)
    (hown' : w3.ownsRow (bw + 1) 34 1 u' ((cc ++ L).length + 1) ((cc ++ L) ++ [v'])) (hgrow : (wx.alloc o).grownBy w3 vc'.ownBlock) (hat : u'.ownBlock = vc'.ownBlock ∨ u'.ownBlock = some (wx.alloc o).heap.size ∧ (wx.alloc o).grownBy w3 none) :
    Kc w (w3.setCell ⟨bw, 4, none⟩ u') bw C n (k + 1) m c vs vc vt u' v v' cc (L ++ [v']) := by
  have hbC := h.bC
  have hs := h.size
  have hblt : bw < wx.heap.size := (Array.getElem?_eq_some_iff.1 h.blk).1
  have hs3 : wx.heap.size < w3.heap.size := Nat.lt_of_lt_of_le (by simp) hgrow.size
  have hsz : (w3.setCell ⟨bw, 4, none⟩ u').heap.size = w3.heap.size := by simp [World.setCell]
  have hvb : vc'.ownBlock ≠ some bw := fun e => by have := (h.ob.lt bw e).1; omega
  have keep : ∀ b, b < wx.heap.size → vc'.ownBlock ≠ some b → w3.heap[b]? = wx.heap[b]? := fun b hb h1 => by
    rw [hgrow.block b (by simp; omega) (fun e => h1 e.symm), Below.heap_alloc _ _ _ hb]
  have keep4 : ∀ b, b < wx.heap.size → vc'.ownBlock ≠ some b → b ≠ bw → (w3.setCell ⟨bw, 4, none⟩ u').heap[b]? = wx.heap[b]? := fun b hb h1 h2 => (Below.heap_setCell _ _ _ _ h2).trans (keep b hb h1)
  have hu : ∀ b, u'.ownBlock = some b → vc'.ownBlock = some b ∨ wx.heap.size < b := fun b e => by
    rcases hat with h1 | ⟨h1, _⟩
    · exact Or.inl (h1.symm.trans e)
    · rw [h1] at e; have := Option.some.inj e; simp at this; exact Or.inr (by omega)
  have hvl : ∀ b, v'.ownBlock = some b → C ≤ b ∧ b < wx.heap.size := fun b e => h.ol.lt b e
  refine ⟨?_, ?_, ?_, by simp [h.ln], ?_, ?_, h.nl, ?_, ?_, ?_, hbC, by omega, hgrow.os.trans h.os, hgrow.tape.trans h.tape, hgrow.output.trans h.output⟩
  · have hb : w3.heap[bw]? = _ := (keep bw hblt hvb).trans h.blk
    rw [heap_setCell_same w3 bw 4 _ _ u' hb]
    rfl
  · rw [← List.append_assoc, List.length_append (bs := [v'])]
    exact own_keep hown' (Nat.lt_succ_self bw) (grown_set _ _ _ _)
  · exact own_keep ((h.ol.alloc o).kept hgrow (by
      cases hv : v'.ownBlock with
      | none => exact Or.inl rfl
      | some q => exact Or.inr (fun e => h.ne q e.symm hv))) hbC (grown_set _ _ _ _)
  · intro b e e2
    rcases hu b e with h1 | h1
    · exact h.ne b h1 e2
    · have := (hvl b e2).2; omega
  · intro b e
    rcases hu b e with h1 | h1
    · exact h.nb b h1
    · exact Or.inr (by omega)
  · intro u hm
    have cells : ∀ g j x, g < wx.heap.size → vc'.ownBlock ≠ some g → g ≠ bw → wx.cell? ⟨g, j, none⟩ = some x → (w3.setCell ⟨bw, 4, none⟩ u').cell? ⟨g, j, none⟩ = some x := fun g j x h1 h2 h3 h4 => by
      rw [World.cell?_of_block (w := wx) (keep4 g h1 h2 h3)]; exact h4
    rcases List.mem_append.1 hm with hm | hm
    · obtain ⟨ad, t, q, e, ht, hh⟩ := h.fr u hm
      refine ⟨ad, t, q, e, ht, ?_⟩
      rcases hh with h0 | ⟨g, e1, g1, g2, g3, g4, g5⟩
      · exact Or.inl h0
      · exact Or.inr ⟨g, e1, g1, by omega, g3, (fun e => by
          rcases hu g e with h1 | h1
          · exact g4 h1
          · omega), fun j hj => cells g j c g2 g4 (by omega) (g5 j hj)⟩
    · rw [List.mem_singleton.1 hm]
      rcases h.ol.2 with ⟨e, h0⟩ | ⟨g, cap, cur, e, g1, g2, _⟩
      · exact ⟨_, _, _, e, Nat.zero_le _, Or.inl rfl⟩
      · have hob : v'.ownBlock = some g := by rw [e]; rfl
        have hgl := (hvl g hob).2
        have hne : vc'.ownBlock ≠ some g := fun e2 => h.ne g e2 hob
        refine ⟨_, _, _, e, Nat.le_refl _, Or.inr ⟨g, rfl, g1, by omega, h.nl g hob, (fun e2 => ?_), fun j hj => cells g j c hgl hne (by omega) (own_cell h.ol hob j hj)⟩⟩
        rcases hu g e2 with h1 | h1
        · exact hne h1
        · omega
  · intro b hb h1 h2 h3
    refine (keep4 b (by omega) (fun e => ?_) h3).trans (h.old b hb h1 h2 h3)
    rcases h.nb b e with h4 | h4
    · exact h1 h4
    · omega
  · intro u hm b e
    rcases List.mem_append.1 hm with hm | hm
    · have := h.fb u hm b e
      exact ⟨by omega, this.2⟩
    · rw [List.mem_singleton.1 hm] at e
      exact ⟨by have := (hvl b e).2; omega, h.nl b e⟩
theorem Kc.more {w wx w5 : World} {bw C n k m : Nat} {c vs vc vt vc' v v' u' : Value} {cc L : List Value} {o : Obj} (h : Kc w wx bw C n k m c vs vc vt vc' v v' cc L)
    (hown' : w5.ownsRow C 3 1 u' (n + m + 1) (List.replicate (n + m) c ++ [c])) (hgrow : (wx.alloc o).grownBy w5 v'.ownBlock) (hat : u'.ownBlock = v'.ownBlock ∨ u'.ownBlock = some (wx.alloc o).heap.size ∧ (wx.alloc o).grownBy w5 none) :
    Kc w w5 bw C n k (m + 1) c vs vc vt vc' v u' cc L := by
  have hbC := h.bC
  have hs := h.size
  have hblt : bw < wx.heap.size := (Array.getElem?_eq_some_iff.1 h.blk).1
  have hs5 : wx.heap.size < w5.heap.size := Nat.lt_of_lt_of_le (by simp) hgrow.size
  have hvl : ∀ b, v'.ownBlock = some b → C ≤ b ∧ b < wx.heap.size := fun b e => h.ol.lt b e
  have keep : ∀ b, b < wx.heap.size → v'.ownBlock ≠ some b → w5.heap[b]? = wx.heap[b]? := fun b hb h1 => by
    rw [hgrow.block b (by simp; omega) (fun e => h1 e.symm), Below.heap_alloc _ _ _ hb]
  have hu : ∀ b, u'.ownBlock = some b → v'.ownBlock = some b ∨ wx.heap.size < b := fun b e => by
    rcases hat with h1 | ⟨h1, _⟩
    · exact Or.inl (h1.symm.trans e)
    · rw [h1] at e; have := Option.some.inj e; simp at this; exact Or.inr (by omega)
  have hol : w5.ownsRow C 3 1 u' (n + (m + 1)) (List.replicate (n + (m + 1)) c) := by
    rw [← Nat.add_assoc, List.replicate_succ']
    exact hown'
  refine ⟨(keep bw hblt (fun e => by have := (hvl bw e).1; omega)).trans h.blk, ?_, hol, h.ln, ?_, h.nb, ?_, ?_, ?_, ?_, hbC, by omega, hgrow.os.trans h.os, hgrow.tape.trans h.tape, hgrow.output.trans h.output⟩
  · exact (h.ob.alloc o).kept hgrow (by
      cases hv : vc'.ownBlock with
      | none => exact Or.inl rfl
      | some q => exact Or.inr (fun e => h.ne q hv e.symm))
  · intro b e e2
    rcases hu b e2 with h1 | h1
    · exact h.ne b e h1
    · have := (h.ob.lt b e).2; omega
  · intro b e
    rcases hu b e with h1 | h1
    · exact h.nl b h1
    · exact Or.inr (by omega)
  · intro u hm
    obtain ⟨ad, t, q, e, ht, hh⟩ := h.fr u hm
    refine ⟨ad, t, q, e, by omega, ?_⟩
    rcases hh with h0 | ⟨g, e1, g1, g2, g3, g4, g5⟩
    · exact Or.inl h0
    · refine Or.inr ⟨g, e1, g1, by omega, g3, g4, fun j hj => ?_⟩
      by_cases hg : v'.ownBlock = some g
      · rcases hat with h1 | ⟨_, h1⟩
        · exact own_cell hol (h1.trans hg) j (by omega)
        · rw [World.cell?_of_block (w := wx) ((h1.block g (by simp; omega) (by simp)).trans (Below.heap_alloc _ _ _ g2))]
          exact g5 j hj
      · rw [World.cell?_of_block (w := wx) (keep g g2 hg)]
        exact g5 j hj
  · intro b hb h1 h2 h3
    refine (keep b (by omega) (fun e => ?_)).trans (h.old b hb h1 h2 h3)
    rcases h.nl b e with h4 | h4
    · exact h2 h4
    · omega
  · intro u hm b e
    have := h.fb u hm b e
    exact ⟨by omega, this.2⟩


set_option maxHeartbeats 3200000 in
set_option maxRecDepth 100000 in
theorem keepCodes_any (w : World) (bw C n : Nat) (vs vc vt v : Value) (ss cc tt xs : List Value) (h : Wd w bw vs vc vt ss cc tt) (hv : w.ownsRow C 3 1 v n xs) (hbC : bw < C) (hfr : ∀ b, v.ownBlock = some b → Free bw vs vc vt ss cc tt b) (hn : n ≤ 2000000) (h9 : cc.length < 990) (hCs : C ≤ w.heap.size) :
    Calls Tryz.prog 37 #[.pointer (some ⟨bw, 0, none⟩), v] w fun e w' => e = .returned (.tuple #[]) ∧ ∃ vc' v' L, Kc w w' bw C n 4 4 (.int .i64 (-1 - (cc.length : Int))) vs vc vt vc' v v' cc L := by
  have H := hide h
  obtain ⟨c0, c1, c2, c3, c4, c5, c6, c7⟩ := wd_cells h.blk
  obtain ⟨pc, nc, kc, rfl⟩ := own_slice h.oc
  have hnc : nc = cc.length := by rcases h.oc.2 with ⟨h1, h2⟩ | ⟨g, cap, cur, h1, _⟩ <;> cases h1 <;> omega
  subst hnc
  obtain ⟨i0, hi, hz0, hz1, hz2⟩ := info_parts infoInts
  obtain ⟨i1, hj, hy0, hy1, hy2⟩ := info_parts infoInt
  obtain ⟨pv, nv, kv, rfl⟩ := own_slice hv
  have hnv : nv = n := by rcases hv.2 with ⟨h1, h2⟩ | ⟨g, cap, cur, h1, _⟩ <;> cases h1 <;> omega
  subst hnv
  have HV := hide hv
  have HFR := hide hfr
  clear hfr h hv c0 c1 c2 c3 c5 c6 c7
  go_enter Tryz.func37, Tryz.ntmps37
  go_wp2_with fail
  go_loopw [5] (fun i wx => ∃ (k : Nat), k ≤ nv ∧ i = .int .i64 k ∧ w.grownBy wx (Value.slice pv nv kv).ownBlock ∧ (nv = 0 ∧ wx = w ∨ ∃ g f, pv = some ⟨g, 0, none⟩ ∧ C ≤ g ∧ nv ≤ kv ∧ kv ≤ maxLen ∧ wx.rowIs g 3 kv f ∧ ∀ j, j < k → f j = .int .i64 (-1 - (cc.length : Int)))) (fun i _ => nv - (intOf i).toNat)
  case atStart =>
    refine ⟨0, Nat.zero_le _, rfl, grown_refl _ _, ?_⟩
    cases pv with
    | none =>
      refine Or.inl ⟨?_, rfl⟩
      rcases HV.out.2 with ⟨h1, h2⟩ | ⟨g, cap, cur, h1, _⟩
      · exact h2
      · cases h1
    | some a =>
      obtain ⟨g, o, sp⟩ := a
      have ha : (⟨g, o, sp⟩ : Addr) = ⟨g, 0, none⟩ := by
        rcases HV.out.2 with ⟨h1, h2⟩ | ⟨g', cap, cur, h1, _⟩
        · cases h1
        · simp only [Value.slice.injEq, Option.some.injEq, Addr.mk.injEq] at h1
          obtain ⟨⟨rfl, rfl, rfl⟩, _⟩ := h1
          rfl
      rw [ha]
      have hv := HV.out
      rw [ha] at hv
      obtain ⟨h1, h2, h3, f, h4, _⟩ := own_rowIs hv
      exact Or.inr ⟨g, f, rfl, h1, h2, h3, h4, fun j hj => by omega⟩
  case round =>
    obtain ⟨k, hk, rfl, hg, hh⟩ := hrel
    by_cases hlt : k < nv
    · rcases hh with ⟨h0, _⟩ | ⟨g, f, rfl, hCg, hnk, hkm, hrow, hf⟩
      · omega
      · have q1 := hrow.cell (i := k) (by omega)
        have f1 := hrow.frozen k
        have HR2 := hide (hrow.set k (.int .i64 (-1 - (cc.length : Int))))
        have HG := hide (grown_trans hg (grown_set wr g k (.int .i64 (-1 - (cc.length : Int)))))
        have HF := hide hf
        clear hrow hg hf
        go_wp2_with fail
        go_roundw
        case rel =>
          refine ⟨k + 1, by omega, by go_num, HG.out, Or.inr ⟨g, _, rfl, hCg, hnk, hkm, HR2.out, fun j hj => ?_⟩⟩
          show (if j = k then _ else f j) = _
          by_cases e : j = k
          · rw [if_pos e]
          · rw [if_neg e]; exact HF.out j (by omega)
        case measure => simp [intOf]; omega
    · have HG := hide hg
      have HH := hide hh
      clear hg hh
      have hK0 : Kc w wr bw C nv 0 0 (.int .i64 (-1 - (cc.length : Int))) vs (.slice pc cc.length kc) vt (.slice pc cc.length kc) (.slice pv nv kv) (.slice pv nv kv) cc [] := by
        have hg := HG.out
        have hW := H.out
        have hne : ∀ b, (Value.slice pv nv kv).ownBlock = some b → C ≤ b := fun b e => (HV.out.lt b e).1
        have hkeep : ∀ b, b < w.heap.size → b < C → wr.heap[b]? = w.heap[b]? := fun b hb hc => hg.block b hb (fun e => by have := hne b e.symm; omega)
        refine ⟨(hkeep bw hW.lt' (by omega)).trans hW.blk, ?_, ?_, rfl, ?_, fun b e => Or.inl e, fun b e => Or.inl e, fun u hm => by simp at hm, fun b hb _ h2 _ => hg.block b hb (fun e => h2 e.symm), fun u hm => by simp at hm, by omega, hg.size, hg.os, hg.tape, hg.output⟩
        · rw [List.append_nil]
          exact hW.oc.kept hg (by
            cases hv : (Value.slice pc cc.length kc).ownBlock with
            | none => exact Or.inl rfl
            | some q => exact Or.inr (fun e => (HFR.out q e.symm).1.2.2.1 hv))
        · rcases HH.out with ⟨h0, e⟩ | ⟨g, f, rfl, h1, h2, h3, h4, h5⟩
          · have hv := HV.out
            rw [e]
            subst h0
            refine ⟨rfl, ?_⟩
            rcases hv.2 with h | ⟨g, cap, cur, q1, q2, q3, q4, q5, q6, _⟩
            · exact Or.inl h
            · exact Or.inr ⟨g, cap, cur, q1, q2, q3, q4, q5, q6, by simp⟩
          · exact rowIs_own h4 h1 h2 h3 (fun j hj => h5 j (by omega))
        · intro b e e2
          exact (HFR.out b e2).1.2.2.1 e
      have HK0 := hide hK0
      clear hK0 HH HG
      go_wp2_with fail
      go_loopw [1, 6] (fun l i wx => ∃ (k : Nat) (vc' v' : Value) (L : List Value), k ≤ 4 ∧ i = .int .i64 (k : Int) ∧ l = v' ∧ Kc w wx bw C nv k k (.int .i64 (-1 - (cc.length : Int))) vs (.slice pc cc.length kc) vt vc' (.slice pv nv kv) v' cc L) (fun _ i _ => 4 - (intOf i).toNat)
      case atStart => exact ⟨0, _, _, [], by omega, rfl, rfl, HK0.out⟩
      case round =>
        obtain ⟨k, vc', v', L, hk, rfl, rfl, hK⟩ := hrel
        have HK := hide hK
        by_cases hlt4 : k < 4
        · obtain ⟨p1, m1, q1, rfl⟩ := own_slice hK.ob
          obtain ⟨p2, m2, q2, rfl⟩ := own_slice hK.ol
          obtain ⟨_, _, _, _, d4, _, _, _⟩ := wd_cells hK.blk
          have f4 : wr.frozen? ⟨bw, 4, none⟩ = false := by simp [World.frozen?, hK.blk]
          have hLn := hK.ln
          have hll : (cc ++ L).length ≤ 1000 := by simp; omega
          have hbl : bw < wr.heap.size := (Array.getElem?_eq_some_iff.1 hK.blk).1
          have hCw : C ≤ wr.heap.size := by have := hK.size; omega
          have hvb : (Value.slice p1 m1 q1).ownBlock ≠ some bw := fun e => by have := (hK.ob.lt bw e).1; omega
          have HLL := hide hll
          have HVB := hide hvb
          clear hK hll hvb c4
          go_wp2_with (first
            | (at_builtin; refine wpList_append_keep _ rfl _ _ 27 rfl (bw + 1) 34 i0 (.slice none 0 0) 1 24 Tryz.underlying27 hi hz0 hz1 hz2 rfl (by decide) _ (cc ++ L).length (cc ++ L) rfl (HK.out.ob.alloc _) ⟨wr.heap.size, 0, none⟩ 1 1 (by decide) [.slice p2 m2 q2] rfl rfl (cell_one_new _ _ _) (fun u hu => by rw [List.mem_singleton.1 hu]; rfl) (by unfold maxLen; have := HLL.out; omega) (by have := HLL.out; omega) (by simp; omega) ?_))
          intro u1 w3 hown1 hgrow1 hat1
          have hK1 := HK.out.put (by rw [List.append_assoc, List.length_append, hLn]; exact hown1) hgrow1 (hat1.imp (fun e => e) (fun e => ⟨by rw [e.1]; simp, e.2⟩))
          have hb3 : w3.heap[bw]? = _ := (hgrow1.block bw (by simp; omega) (fun e => HVB.out e.symm)).trans ((Below.heap_alloc _ _ _ hbl).trans HK.out.blk)
          obtain ⟨_, _, _, _, d4', _, _, _⟩ := wd_cells hb3
          have f4' : w3.frozen? ⟨bw, 4, none⟩ = false := by simp [World.frozen?, hb3]
          obtain ⟨g1, cap1, rfl⟩ := own_form hown1 (by omega)
          have HK1 := hide hK1
          have hs3 : wr.heap.size < w3.heap.size := Nat.lt_of_lt_of_le (by simp) hgrow1.size
          clear hown1 hgrow1 hat1 hK1 hb3 d4 f4
          go_wp2_with (first
            | (at_builtin; refine wpList_append_keep _ rfl _ _ 34 rfl C 3 i1 (.int .i64 0) 1 8 Tryz.underlying34 hj hy0 hy1 hy2 rfl (by decide) _ (nv + k) (List.replicate (nv + k) (.int .i64 (-1 - (cc.length : Int)))) rfl (HK1.out.ol.alloc _) ⟨w3.heap.size, 0, none⟩ 1 1 (by decide) [.int .i64 (-1 - (cc.length : Int))] rfl rfl (cell_one_set _ _ _ _ _) (fun u hu => by rw [List.mem_singleton.1 hu]; rfl) (by unfold maxLen; omega) (by omega) (by simp; omega) ?_))
          intro u2 w5 hown2 hgrow2 hat2
          have HK2 := hide (HK1.out.more hown2 hgrow2 (hat2.imp (fun e => e) (fun e => ⟨by rw [e.1]; simp, e.2⟩)))
          obtain ⟨g2, cap2, rfl⟩ := own_form hown2 (by omega)
          clear hown2 hgrow2 hat2
          go_wp2
          go_roundw
          case rel => exact ⟨k + 1, _, _, _, by omega, by go_num, rfl, HK2.out⟩
          case measure => simp [intOf]; omega
        · have : k = 4 := by omega
          subst this
          clear hK
          go_wp2_with fail
          go_end0
          exact ⟨rfl, _, _, _, HK.out⟩
end Go.Proofs.YtnmfmoimjkoieaaGreatDoor.lw

namespace Go.Proofs.YtnmfmoimjkoieaaGreatDoor.lw
open Go.RowKit Go.Proofs.YtnmfmoimjkoieaaGreatDoor.topPlain Go.Proofs.YtnmfmoimjkoieaaGreatDoor.topWalks Go.Proofs.YtnmfmoimjkoieaaGreatDoor.decPlain Go.Proofs.YtnmfmoimjkoieaaGreatDoor.rd

theorem Kc.wd {w w' : World} {bw C n m : Nat} {vs vc vt vc' v v' : Value} {ss cc tt L xs : List Value} (h : Wd w bw vs vc vt ss cc tt) (hK : Kc w w' bw C n 4 m (.int .i64 (-1 - (cc.length : Int))) vs vc vt vc' v v' cc L) (h4 : cc.length % 4 = 0) (hv : w.ownsRow C 3 1 v n xs) (hfr : ∀ b, v.ownBlock = some b → Free bw vs vc vt ss cc tt b) (hn : n + m ≤ 2000000) (h9 : cc.length < 990) :
    Wd w' bw vs vc' vt ss (cc ++ L) tt ∧ (∀ b, b < w.heap.size → Free bw vs vc vt ss cc tt b → v.ownBlock ≠ some b → w'.heap[b]? = w.heap[b]? ∧ Free bw vs vc' vt ss (cc ++ L) tt b) ∧ Below bw w w' := by
  have hbw := h.lt'
  have hs := hK.size
  have hln := hK.ln
  have hbC := hK.bC
  have hvb : ∀ b, v.ownBlock = some b → C ≤ b ∧ b < w.heap.size := fun b e => hv.lt b e
  have hout : ∀ g, OutB bw vs vc vt g → g < w.heap.size → OutB bw vs vc' vt g := fun g ho hl => ⟨ho.1, ho.2.1, fun e => by
    rcases hK.nb g e with h1 | h1
    · exact ho.2.2.1 h1
    · omega, ho.2.2.2⟩
  have held : ∀ sz f ys, (∀ u, u ∈ ys → u ∈ ss ∨ u ∈ cc ∨ u ∈ tt) → Held w sz f ys (OutB bw vs vc vt) → Held w' sz f ys (OutB bw vs vc' vt) := fun sz f ys hy hh =>
    hh.keep hs (fun u g hu hub ho hl => ⟨hout g ho hl, hK.old g hl ho.2.2.1 (fun e => (hfr g e).2 u (hy u hu) hub) ho.1⟩)
  have hrow : ∀ {e : TypeId} {u : Value} {k : Nat} {ys : List Value}, w.ownsRow (bw + 1) e 1 u k ys → (∀ b, u.ownBlock = some b → vc.ownBlock ≠ some b ∧ v.ownBlock ≠ some b) → w'.ownsRow (bw + 1) e 1 u k ys := fun {e u k ys} hu hb => by
    refine ⟨hu.1, ?_⟩
    rcases hu.2 with h1 | ⟨g, cap, cur, e1, g1, g2, g3⟩
    · exact Or.inl h1
    · have hgo : u.ownBlock = some g := by rw [e1]; rfl
      exact Or.inr ⟨g, cap, cur, e1, g1, (hK.old g (hu.lt g hgo).2 (hb g hgo).1 (hb g hgo).2 (by omega)).trans g2, g3⟩
  refine ⟨⟨hK.blk, hrow h.os (fun b e => ⟨h.n1 b e, fun e2 => (hfr b e2).1.2.1 e⟩), hK.ob, hrow h.ot (fun b e => ⟨fun e2 => h.n3 b e2 e, fun e2 => (hfr b e2).1.2.2.2 e⟩), ?_, h.n2, ?_, held _ _ _ (fun u hu => Or.inl hu) h.hs, ?_, held _ _ _ (fun u hu => Or.inr (Or.inr hu)) h.ht, h.ls, by simp; omega, h.lt, ?_⟩, ?_, ?_⟩
  · intro b e e2
    rcases hK.nb b e2 with h1 | h1
    · exact h.n1 b e h1
    · have := (h.os.lt b e).2; omega
  · intro b e e2
    rcases hK.nb b e with h1 | h1
    · exact h.n3 b h1 e2
    · have := (h.ot.lt b e2).2; omega
  · intro i u hu
    rcases Nat.lt_or_ge i cc.length with hi | hi
    · rw [List.getElem?_append_left hi] at hu
      exact held _ _ _ (fun u hu => Or.inr (Or.inl hu)) h.hc i u hu
    · rw [List.getElem?_append_right hi] at hu
      have hlt : i - cc.length < L.length := (List.getElem?_eq_some_iff.1 hu).1
      obtain ⟨ad, t, q, e, ht, hh⟩ := hK.fr u (List.mem_of_getElem? hu)
      refine ⟨ad, t, q, e, by omega, ?_⟩
      rcases hh with h0 | ⟨g, e1, g1, g2, g3, g4, g5⟩
      · exact Or.inl h0
      · have hog : OutB bw vs vc' vt g := by
          rcases g3 with g3 | g3
          · exact hout g (hfr g g3).1 (hvb g g3).2
          · exact ⟨by omega, fun e2 => by have := (h.os.lt g e2).2; omega, g4, fun e2 => by have := (h.ot.lt g e2).2; omega⟩
        refine Or.inr ⟨g, e1, hog, g2, fun j hj => ?_⟩
        rw [g5 j (by omega)]
        unfold codF
        rw [show i / 4 * 4 = cc.length by omega]
  · intro u hu b e
    rcases hu with h1 | h1 | h1
    · have := h.hd u (Or.inl h1) b e; omega
    · rcases List.mem_append.1 h1 with h2 | h2
      · have := h.hd u (Or.inr (Or.inl h2)) b e; omega
      · exact (hK.fb u h2 b e).1
    · have := h.hd u (Or.inr (Or.inr h1)) b e; omega
  · intro b hb hf hne
    refine ⟨hK.old b hb hf.1.2.2.1 hne hf.1.1, hout b hf.1 hb, fun u hu => ?_⟩
    rcases hu with h1 | h1 | h1
    · exact hf.2 u (Or.inl h1)
    · rcases List.mem_append.1 h1 with h2 | h2
      · exact hf.2 u (Or.inr (Or.inl h2))
      · intro e
        rcases (hK.fb u h2 b e).2 with h3 | h3
        · exact hne h3
        · omega
    · exact hf.2 u (Or.inr (Or.inr h1))
  · exact ⟨hK.os, hK.tape, hK.output, hs, fun k hk => hK.old k (by omega) (fun e => by have := (h.oc.lt k e).1; omega) (fun e => by have := (hvb k e).1; omega) (by omega)⟩

/-- keepCodes, as decodes needs it -/
theorem keepCodes_wd (w : World) (bw C n : Nat) (vs vc vt v : Value) (ss cc tt xs : List Value) (h : Wd w bw vs vc vt ss cc tt) (hv : w.ownsRow C 3 1 v n xs) (hbC : bw < C) (hfr : ∀ b, v.ownBlock = some b → Free bw vs vc vt ss cc tt b) (hn : n ≤ 1100000) (h4 : cc.length % 4 = 0) (h9 : cc.length < 990) (hCs : C ≤ w.heap.size) :
    Calls Tryz.prog 37 #[.pointer (some ⟨bw, 0, none⟩), v] w fun e w' => e = .returned (.tuple #[]) ∧ ∃ vc' L, L.length = 4 ∧ Wd w' bw vs vc' vt ss (cc ++ L) tt ∧ (∀ b, b < w.heap.size → Free bw vs vc vt ss cc tt b → v.ownBlock ≠ some b → w'.heap[b]? = w.heap[b]? ∧ Free bw vs vc' vt ss (cc ++ L) tt b) ∧ Below bw w w' :=
  (keepCodes_any w bw C n vs vc vt v ss cc tt xs h hv hbC hfr (by omega) h9 hCs).mono fun e w' ⟨he, vc', v', L, hK⟩ => ⟨he, vc', L, hK.ln, Kc.wd h hK h4 hv hfr (by omega) h9⟩
end Go.Proofs.YtnmfmoimjkoieaaGreatDoor.lw
