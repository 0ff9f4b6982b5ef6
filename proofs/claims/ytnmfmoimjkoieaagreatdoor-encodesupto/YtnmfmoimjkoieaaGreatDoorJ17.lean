import Derived.Test.YtnmfmoimjkoieaaGreatDoorJ16
/- The caller's book in package courantlaw, with all its lists: what it holds, what leaves it as it is, what a list more makes of it. -/
namespace Go.Proofs.YtnmfmoimjkoieaaGreatDoor.lb
open Go.RowKit Go.Proofs.YtnmfmoimjkoieaaGreatDoor.topPlain Go.Proofs.YtnmfmoimjkoieaaGreatDoor.topWalks Go.Proofs.YtnmfmoimjkoieaaGreatDoor.decPlain Go.Proofs.YtnmfmoimjkoieaaGreatDoor.rd Go.Proofs.YtnmfmoimjkoieaaGreatDoor.lw

/-- the type of the lists of shelf k -/
def kTy (k : Nat) : TypeId := if k = 1 ∨ k = 5 then 45 else if k = 2 then 62 else if k = 3 ∨ k = 6 then 33 else 34
/-- how many cells an element of such a list has -/
def kSz (k : Nat) : Nat := if k = 2 then 3 else if k = 3 ∨ k = 6 then 2 else 1
def turnedS : ByteArray := ⟨#[116, 117, 114, 110, 101, 100]⟩
def bytF (i j : Nat) : Value := .int .u8 (digitN (i / 4 * 4) j : Int)
def outF (i j : Nat) : Value := if j % 3 = 0 then .int .i64 (-1 - ((i / 4 * 4 : Nat) : Int)) else if j % 3 = 1 then .slice none 0 0 else .bool false
def givF (_i j : Nat) : Value := if j % 2 = 0 then .string turnedS else .int .i64 0
def sumF (_i _j : Nat) : Value := .int .i64 (-7)
/-- what the caller wrote into the j-th cell of the i-th list -/
def kF (k : Nat) : Nat → Nat → Value := if k = 1 then bytF else if k = 2 then outF else if k = 3 then subF else if k = 4 then codF else if k = 5 then turF else if k = 6 then givF else sumF
def In7 (k : Nat) : Prop := 1 ≤ k ∧ k ≤ 7
def upd {α : Type} (f : Nat → α) (c : Nat) (x : α) : Nat → α := fun k => if k = c then x else f k
theorem upd_same {α : Type} (f : Nat → α) (c : Nat) (x : α) : upd f c x c = x := by simp [upd]
theorem upd_other {α : Type} (f : Nat → α) {c k : Nat} (x : α) (h : k ≠ c) : upd f c x k = f k := by simp [upd, h]
def cells8 (sv : Value) (v : Nat → Value) : Array Value := #[sv, v 1, v 2, v 3, v 4, v 5, v 6, v 7]
theorem cells8_set (sv : Value) (v : Nat → Value) (c : Nat) (hc : In7 c) (x : Value) : (cells8 sv v).setIfInBounds c x = cells8 sv (upd v c x) := by
  obtain ⟨h1, h2⟩ := hc
  have : c = 1 ∨ c = 2 ∨ c = 3 ∨ c = 4 ∨ c = 5 ∨ c = 6 ∨ c = 7 := by omega
  rcases this with rfl | rfl | rfl | rfl | rfl | rfl | rfl <;> rfl
theorem upd_upd {α : Type} (f : Nat → α) (c : Nat) (x y : α) : upd (upd f c x) c y = upd f c y := by
  funext k; unfold upd; split <;> rfl
theorem upd_self {α : Type} (f : Nat → α) (c : Nat) : upd f c (f c) = f := by
  funext k; unfold upd; split
  · rename_i h; rw [h]
  · rfl
/-- a block that holds no part of the book itself -/
def Out7 (bw : Nat) (v : Nat → Value) (g : Nat) : Prop := g ≠ bw ∧ ∀ k, In7 k → (v k).ownBlock ≠ some g

structure Book (w : World) (bw : Nat) (sv : Value) (v : Nat → Value) (xs : Nat → List Value) : Prop where
  blk : w.heap[bw]? = some (.cells (cells8 sv v) 29)
  own : ∀ k, In7 k → w.ownsRow (bw + 1) (kTy k) 1 (v k) (xs k).length (xs k)
  ne : ∀ k k', In7 k → In7 k' → k ≠ k' → ∀ b, (v k).ownBlock = some b → (v k').ownBlock ≠ some b
  held : ∀ k, In7 k → Held w (kSz k) (kF k) (xs k) (Out7 bw v)
  len : ∀ k, In7 k → (xs k).length ≤ 4000000000000
  hd : ∀ k, In7 k → ∀ u, u ∈ xs k → ∀ b, u.ownBlock = some b → b < w.heap.size
/-- a block that the book does not touch -/
def Free7 (bw : Nat) (v : Nat → Value) (xs : Nat → List Value) (b : Nat) : Prop := Out7 bw v b ∧ ∀ k, In7 k → ∀ u, u ∈ xs k → u.ownBlock ≠ some b

theorem Book.lt' {w : World} {bw : Nat} {sv : Value} {v : Nat → Value} {xs : Nat → List Value} (h : Book w bw sv v xs) : bw < w.heap.size := (Array.getElem?_eq_some_iff.1 h.blk).1
theorem Book.below {w w' : World} {bw : Nat} {sv : Value} {v : Nat → Value} {xs : Nat → List Value} (h : Book w bw sv v xs) (hb : Below w.heap.size w w') : Book w' bw sv v xs :=
  ⟨(hb.block _ h.lt').trans h.blk, fun k hk => own_below (h.own k hk) hb, h.ne, fun k hk => (h.held k hk).keep hb.size (fun _ g _ _ o hl => ⟨o, hb.block g hl⟩), h.len, fun k hk u hu b e => Nat.lt_of_lt_of_le (h.hd k hk u hu b e) hb.size⟩
/-- a new block is free -/
theorem Book.free {w : World} {bw : Nat} {sv : Value} {v : Nat → Value} {xs : Nat → List Value} (h : Book w bw sv v xs) {b : Nat} (hb : w.heap.size ≤ b) : Free7 bw v xs b :=
  ⟨⟨by have := h.lt'; omega, fun k hk e => by have := ((h.own k hk).lt b e).2; omega⟩, fun k hk u hu e => by have := h.hd k hk u hu b e; omega⟩
theorem Book.cells {w : World} {bw : Nat} {sv : Value} {v : Nat → Value} {xs : Nat → List Value} (h : Book w bw sv v xs) : w.cell? ⟨bw, 0, none⟩ = some sv ∧ w.cell? ⟨bw, 1, none⟩ = some (v 1) ∧ w.cell? ⟨bw, 2, none⟩ = some (v 2) ∧ w.cell? ⟨bw, 3, none⟩ = some (v 3) ∧ w.cell? ⟨bw, 4, none⟩ = some (v 4) ∧ w.cell? ⟨bw, 5, none⟩ = some (v 5) ∧ w.cell? ⟨bw, 6, none⟩ = some (v 6) ∧ w.cell? ⟨bw, 7, none⟩ = some (v 7) := wd_cells h.blk
theorem own_form1 {w : World} {C n sz : Nat} {e : TypeId} {v : Value} {xs : List Value} (h : w.ownsRow C e sz v n xs) : ∃ p cap, v = .slice p n cap := by
  rcases h.2 with ⟨rfl, rfl⟩ | ⟨g, cap, cur, rfl, _⟩
  · exact ⟨none, 0, rfl⟩
  · exact ⟨some ⟨g, 0, none⟩, cap, rfl⟩

/-- some lists more on shelf c: T: blocks of lists that came in and were written into -/
theorem Book.add {w w' : World} {bw c : Nat} {sv : Value} {v : Nat → Value} {xs : Nat → List Value} {u' : Value} {L : List Value} {T : Nat → Prop} (h : Book w bw sv v xs) (hc : In7 c) (hT : ∀ b, T b → Free7 bw v xs b)
    (hblk : w'.heap[bw]? = some (.cells (cells8 sv (upd v c u')) 29)) (hown : w'.ownsRow (bw + 1) (kTy c) 1 u' (xs c ++ L).length (xs c ++ L)) (hnew : ∀ b, u'.ownBlock = some b → (v c).ownBlock = some b ∨ w.heap.size ≤ b)
    (hold : ∀ b, b < w.heap.size → (v c).ownBlock ≠ some b → ¬ T b → b ≠ bw → w'.heap[b]? = w.heap[b]?) (hsz : w.heap.size ≤ w'.heap.size)
    (hL : ∀ (i : Nat) u, L[i]? = some u → ∃ ad n cap, u = .slice ad n cap ∧ n ≤ 1099511627780 ∧ (n = 0 ∨ ∃ g, ad = some ⟨g, 0, none⟩ ∧ (T g ∨ w.heap.size ≤ g) ∧ g < w'.heap.size ∧ u'.ownBlock ≠ some g ∧ ∀ j, j < n * kSz c → w'.cell? ⟨g, j, none⟩ = some (kF c ((xs c).length + i) j)))
    (hLb : ∀ u, u ∈ L → ∀ b, u.ownBlock = some b → b < w'.heap.size ∧ (T b ∨ w.heap.size ≤ b)) (hlen : (xs c).length + L.length ≤ 4000000000000) :
    Book w' bw sv (upd v c u') (upd xs c (xs c ++ L)) ∧ (∀ b, b < w.heap.size → Free7 bw v xs b → ¬ T b → w'.heap[b]? = w.heap[b]? ∧ Free7 bw (upd v c u') (upd xs c (xs c ++ L)) b) := by
  have hout : ∀ g, Out7 bw v g → g < w.heap.size → Out7 bw (upd v c u') g := fun g ho hl => ⟨ho.1, fun k hk e => by
    unfold upd at e
    split at e
    · rcases hnew g e with h1 | h1
      · exact ho.2 c hc h1
      · omega
    · exact ho.2 k hk e⟩
  have held : ∀ k, In7 k → Held w' (kSz k) (kF k) (xs k) (Out7 bw (upd v c u')) := fun k hk =>
    (h.held k hk).keep hsz (fun u g hu hub ho hl => ⟨hout g ho hl, hold g hl (ho.2 c hc) (fun t => (hT g t).2 k hk u hu hub) ho.1⟩)
  refine ⟨⟨hblk, fun k hk => ?_, fun k k' hk hk' hne b e => ?_, fun k hk => ?_, fun k hk => ?_, fun k hk u hu b e => ?_⟩, fun b hb hf hnt => ⟨hold b hb (hf.1.2 c hc) hnt hf.1.1, hout b hf.1 hb, fun k hk u hu => ?_⟩⟩
  · by_cases hkc : k = c
    · subst hkc
      rw [upd_same, upd_same]
      exact hown
    · rw [upd_other _ _ hkc, upd_other _ _ hkc]
      have hu := h.own k hk
      refine ⟨hu.1, ?_⟩
      rcases hu.2 with h1 | ⟨g, cap, cur, e1, g1, g2, g3⟩
      · exact Or.inl h1
      · have hgo : (v k).ownBlock = some g := by rw [e1]; rfl
        exact Or.inr ⟨g, cap, cur, e1, g1, (hold g (hu.lt g hgo).2 (h.ne k c hk hc hkc g hgo) (fun t => (hT g t).1.2 k hk hgo) (by omega)).trans g2, g3⟩
  · by_cases hkc : k = c
    · subst hkc
      rw [upd_same] at e
      rw [upd_other _ _ (Ne.symm hne)]
      rcases hnew b e with h1 | h1
      · exact h.ne k k' hk hk' hne b h1
      · intro e2; have := ((h.own k' hk').lt b e2).2; omega
    · rw [upd_other _ _ hkc] at e
      by_cases hkc' : k' = c
      · subst hkc'
        rw [upd_same]
        intro e2
        rcases hnew b e2 with h1 | h1
        · exact h.ne k k' hk hk' hne b e h1
        · have := ((h.own k hk).lt b e).2; omega
      · rw [upd_other _ _ hkc']
        exact h.ne k k' hk hk' hne b e
  · by_cases hkc : k = c
    · subst hkc
      rw [upd_same]
      intro i u hu
      rcases Nat.lt_or_ge i (xs k).length with hi | hi
      · rw [List.getElem?_append_left hi] at hu
        exact held k hk i u hu
      · rw [List.getElem?_append_right hi] at hu
        obtain ⟨ad, n, cap, e, hn, hh⟩ := hL _ u hu
        refine ⟨ad, n, cap, e, hn, ?_⟩
        rcases hh with h0 | ⟨g, e1, g1, g2, g3, g4⟩
        · exact Or.inl h0
        · refine Or.inr ⟨g, e1, ?_, g2, fun j hj => ?_⟩
          · rcases g1 with g1 | g1
            · refine ⟨(hT g g1).1.1, fun k' hk' e2 => ?_⟩
              unfold upd at e2
              split at e2
              · exact g3 e2
              · exact (hT g g1).1.2 k' hk' e2
            · refine ⟨by have := h.lt'; omega, fun k' hk' e2 => ?_⟩
              unfold upd at e2
              split at e2
              · exact g3 e2
              · have := ((h.own k' hk').lt g e2).2; omega
          · rw [g4 j hj, show (xs k).length + (i - (xs k).length) = i by omega]
    · rw [upd_other _ _ hkc]
      exact held k hk
  · by_cases hkc : k = c
    · subst hkc; rw [upd_same, List.length_append]; exact hlen
    · rw [upd_other _ _ hkc]; exact h.len k hk
  · by_cases hkc : k = c
    · subst hkc
      rw [upd_same] at hu
      rcases List.mem_append.1 hu with h2 | h2
      · have := h.hd k hk u h2 b e; omega
      · exact (hLb u h2 b e).1
    · rw [upd_other _ _ hkc] at hu
      have := h.hd k hk u hu b e; omega
  · by_cases hkc : k = c
    · subst hkc
      rw [upd_same] at hu
      rcases List.mem_append.1 hu with h2 | h2
      · exact hf.2 k hk u h2
      · intro e
        rcases (hLb u h2 b e).2 with h3 | h3
        · exact hnt h3
        · omega
    · rw [upd_other _ _ hkc] at hu
      exact hf.2 k hk u hu

/-- the cells that a function says -/
def fillL (f : Nat → Value) (n : Nat) : List Value := (List.range n).map f
theorem fillL_length (f : Nat → Value) (n : Nat) : (fillL f n).length = n := by simp [fillL]
theorem fillL_get (f : Nat → Value) {n j : Nat} (h : j < n) : (fillL f n)[j]? = some (f j) := by simp [fillL, h]
theorem fillL_add (f : Nat → Value) (n m : Nat) : fillL f (n + m) = fillL f n ++ (List.range m).map (fun j => f (n + j)) := by
  unfold fillL
  rw [List.range_add, List.map_append, List.map_map]
  rfl
theorem own_cellF {w : World} {C N sz g : Nat} {e : TypeId} {v : Value} {f : Nat → Value} {K : Nat} (h : w.ownsRow C e sz v N (fillL f K)) (hb : v.ownBlock = some g) (j : Nat) (hj : j < K) : w.cell? ⟨g, j, none⟩ = some (f j) := by
  have := h.cells (g := g) hb j (f j) (fillL_get f hj)
  have e : (⟨g, 0, none⟩ : Addr).add j = ⟨g, j, none⟩ := by cases j <;> simp [Addr.add]
  rwa [e] at this

/-- a list that came out, written all over, behind k lists written into shelf c; the list itself is longer by m -/
structure Kk (w wx : World) (bw C n k m c : Nat) (e : TypeId) (sz : Nat) (f : Nat → Value) (sv : Value) (v : Nat → Value) (vc' u u' : Value) (cc L : List Value) : Prop where
  blk : wx.heap[bw]? = some (.cells (cells8 sv (upd v c vc')) 29)
  ob : wx.ownsRow (bw + 1) (kTy c) 1 vc' (cc ++ L).length (cc ++ L)
  ol : wx.ownsRow C e sz u' (n + m) (fillL f ((n + m) * sz))
  ln : L.length = k
  ne : ∀ b, vc'.ownBlock = some b → u'.ownBlock ≠ some b
  nb : ∀ b, vc'.ownBlock = some b → (v c).ownBlock = some b ∨ w.heap.size ≤ b
  nl : ∀ b, u'.ownBlock = some b → u.ownBlock = some b ∨ w.heap.size ≤ b
  fr : ∀ x, x ∈ L → ∃ ad t q, x = .slice ad t q ∧ t ≤ n + m ∧ (t = 0 ∨ ∃ g, ad = some ⟨g, 0, none⟩ ∧ C ≤ g ∧ g < wx.heap.size ∧ (u.ownBlock = some g ∨ w.heap.size ≤ g) ∧ vc'.ownBlock ≠ some g ∧ ∀ j, j < t * sz → wx.cell? ⟨g, j, none⟩ = some (f j))
  old : ∀ b, b < w.heap.size → (v c).ownBlock ≠ some b → u.ownBlock ≠ some b → b ≠ bw → wx.heap[b]? = w.heap[b]?
  fb : ∀ x, x ∈ L → ∀ b, x.ownBlock = some b → b < wx.heap.size ∧ (u.ownBlock = some b ∨ w.heap.size ≤ b)
  bC : bw < C
  size : w.heap.size ≤ wx.heap.size
  os : wx.os = w.os
  tape : wx.tape = w.tape
  output : wx.output = w.output

theorem Kk.put {w wx w3 : World} {bw C n k m c : Nat} {e : TypeId} {sz : Nat} {f : Nat → Value} {sv : Value} {v : Nat → Value} {vc' u u' x : Value} {cc L : List Value} {o : Obj} (h : Kk w wx bw C n k m c e sz f sv v vc' u u' cc L) (hc : In7 c)
    (hown' : w3.ownsRow (bw + 1) (kTy c) 1 x ((cc ++ L).length + 1) ((cc ++ L) ++ [u'])) (hgrow : (wx.alloc o).grownBy w3 vc'.ownBlock) (hat : x.ownBlock = vc'.ownBlock ∨ x.ownBlock = some (wx.alloc o).heap.size ∧ (wx.alloc o).grownBy w3 none) :
    Kk w (w3.setCell ⟨bw, c, none⟩ x) bw C n (k + 1) m c e sz f sv v x u u' cc (L ++ [u']) := by
  have hbC := h.bC
  have hs := h.size
  have hblt : bw < wx.heap.size := (Array.getElem?_eq_some_iff.1 h.blk).1
  have hs3 : wx.heap.size < w3.heap.size := Nat.lt_of_lt_of_le (by simp) hgrow.size
  have hsz : (w3.setCell ⟨bw, c, none⟩ x).heap.size = w3.heap.size := by simp [World.setCell]
  have hvb : vc'.ownBlock ≠ some bw := fun e => by have := (h.ob.lt bw e).1; omega
  have keep : ∀ b, b < wx.heap.size → vc'.ownBlock ≠ some b → w3.heap[b]? = wx.heap[b]? := fun b hb h1 => by
    rw [hgrow.block b (by simp; omega) (fun e => h1 e.symm), Below.heap_alloc _ _ _ hb]
  have keep4 : ∀ b, b < wx.heap.size → vc'.ownBlock ≠ some b → b ≠ bw → (w3.setCell ⟨bw, c, none⟩ x).heap[b]? = wx.heap[b]? := fun b hb h1 h2 => (Below.heap_setCell _ _ _ _ h2).trans (keep b hb h1)
  have hu : ∀ b, x.ownBlock = some b → vc'.ownBlock = some b ∨ wx.heap.size < b := fun b e => by
    rcases hat with h1 | ⟨h1, _⟩
    · exact Or.inl (h1.symm.trans e)
    · rw [h1] at e; have := Option.some.inj e; simp at this; exact Or.inr (by omega)
  have hvl : ∀ b, u'.ownBlock = some b → C ≤ b ∧ b < wx.heap.size := fun b e => h.ol.lt b e
  refine ⟨?_, ?_, ?_, by simp [h.ln], ?_, ?_, h.nl, ?_, ?_, ?_, hbC, by omega, hgrow.os.trans h.os, hgrow.tape.trans h.tape, hgrow.output.trans h.output⟩
  · have hb : w3.heap[bw]? = _ := (keep bw hblt hvb).trans h.blk
    rw [heap_setCell_same w3 bw c _ _ x hb, cells8_set _ _ c hc, upd_upd]
  · rw [← List.append_assoc, List.length_append (bs := [u'])]
    exact own_keep hown' (Nat.lt_succ_self bw) (grown_set _ _ _ _)
  · exact own_keep ((h.ol.alloc o).kept hgrow (by
      cases hv : u'.ownBlock with
      | none => exact Or.inl rfl
      | some q => exact Or.inr (fun e => h.ne q e.symm hv))) hbC (grown_set _ _ _ _)
  · intro b e e2
    rcases hu b e with h1 | h1
    · exact h.ne b h1 e2
    · have := (hvl b e2).2; omega
  · intro b e
    rcases hu b e with h1 | h1
    · exact h.nb b h1
    · exact Or.inr (by omega)
  · intro y hm
    have cells : ∀ g j z, g < wx.heap.size → vc'.ownBlock ≠ some g → g ≠ bw → wx.cell? ⟨g, j, none⟩ = some z → (w3.setCell ⟨bw, c, none⟩ x).cell? ⟨g, j, none⟩ = some z := fun g j z h1 h2 h3 h4 => by
      rw [World.cell?_of_block (w := wx) (keep4 g h1 h2 h3)]; exact h4
    rcases List.mem_append.1 hm with hm | hm
    · obtain ⟨ad, t, q, e, ht, hh⟩ := h.fr y hm
      refine ⟨ad, t, q, e, ht, ?_⟩
      rcases hh with h0 | ⟨g, e1, g1, g2, g3, g4, g5⟩
      · exact Or.inl h0
      · exact Or.inr ⟨g, e1, g1, by omega, g3, (fun e => by
          rcases hu g e with h1 | h1
          · exact g4 h1
          · omega), fun j hj => cells g j _ g2 g4 (by omega) (g5 j hj)⟩
    · rw [List.mem_singleton.1 hm]
      rcases h.ol.2 with ⟨e, h0⟩ | ⟨g, cap, cur, e, g1, g2, _⟩
      · exact ⟨_, _, _, e, Nat.zero_le _, Or.inl rfl⟩
      · have hob : u'.ownBlock = some g := by rw [e]; rfl
        have hgl := (hvl g hob).2
        have hne : vc'.ownBlock ≠ some g := fun e2 => h.ne g e2 hob
        refine ⟨_, _, _, e, Nat.le_refl _, Or.inr ⟨g, rfl, g1, by omega, h.nl g hob, (fun e2 => ?_), fun j hj => cells g j _ hgl hne (by omega) (own_cellF h.ol hob j hj)⟩⟩
        rcases hu g e2 with h1 | h1
        · exact hne h1
        · omega
  · intro b hb h1 h2 h3
    refine (keep4 b (by omega) (fun e => ?_) h3).trans (h.old b hb h1 h2 h3)
    rcases h.nb b e with h4 | h4
    · exact h1 h4
    · omega
  · intro y hm b e
    rcases List.mem_append.1 hm with hm | hm
    · have := h.fb y hm b e
      exact ⟨by omega, this.2⟩
    · rw [List.mem_singleton.1 hm] at e
      exact ⟨by have := (hvl b e).2; omega, h.nl b e⟩
theorem Kk.more {w wx w5 : World} {bw C n k m c : Nat} {e : TypeId} {sz : Nat} {f : Nat → Value} {sv : Value} {v : Nat → Value} {vc' u u' x : Value} {cc L news : List Value} {o : Obj} (h : Kk w wx bw C n k m c e sz f sv v vc' u u' cc L)
    (hnews : news = (List.range sz).map (fun j => f ((n + m) * sz + j)))
    (hown' : w5.ownsRow C e sz x (n + m + 1) (fillL f ((n + m) * sz) ++ news)) (hgrow : (wx.alloc o).grownBy w5 u'.ownBlock) (hat : x.ownBlock = u'.ownBlock ∨ x.ownBlock = some (wx.alloc o).heap.size ∧ (wx.alloc o).grownBy w5 none) :
    Kk w w5 bw C n k (m + 1) c e sz f sv v vc' u x cc L := by
  have hbC := h.bC
  have hs := h.size
  have hblt : bw < wx.heap.size := (Array.getElem?_eq_some_iff.1 h.blk).1
  have hs5 : wx.heap.size < w5.heap.size := Nat.lt_of_lt_of_le (by simp) hgrow.size
  have hvl : ∀ b, u'.ownBlock = some b → C ≤ b ∧ b < wx.heap.size := fun b e => h.ol.lt b e
  have keep : ∀ b, b < wx.heap.size → u'.ownBlock ≠ some b → w5.heap[b]? = wx.heap[b]? := fun b hb h1 => by
    rw [hgrow.block b (by simp; omega) (fun e => h1 e.symm), Below.heap_alloc _ _ _ hb]
  have hu : ∀ b, x.ownBlock = some b → u'.ownBlock = some b ∨ wx.heap.size < b := fun b e => by
    rcases hat with h1 | ⟨h1, _⟩
    · exact Or.inl (h1.symm.trans e)
    · rw [h1] at e; have := Option.some.inj e; simp at this; exact Or.inr (by omega)
  have hol : w5.ownsRow C e sz x (n + (m + 1)) (fillL f ((n + (m + 1)) * sz)) := by
    rw [← Nat.add_assoc, Nat.succ_mul, fillL_add, ← hnews]
    exact hown'
  refine ⟨(keep bw hblt (fun e => by have := (hvl bw e).1; omega)).trans h.blk, ?_, hol, h.ln, ?_, h.nb, ?_, ?_, ?_, ?_, hbC, by omega, hgrow.os.trans h.os, hgrow.tape.trans h.tape, hgrow.output.trans h.output⟩
  · exact (h.ob.alloc o).kept hgrow (by
      cases hv : vc'.ownBlock with
      | none => exact Or.inl rfl
      | some q => exact Or.inr (fun e => h.ne q hv e.symm))
  · intro b e e2
    rcases hu b e2 with h1 | h1
    · exact h.ne b e h1
    · have := (h.ob.lt b e).2; omega
  · intro b e
    rcases hu b e with h1 | h1
    · exact h.nl b h1
    · exact Or.inr (by omega)
  · intro y hm
    obtain ⟨ad, t, q, e, ht, hh⟩ := h.fr y hm
    refine ⟨ad, t, q, e, by omega, ?_⟩
    rcases hh with h0 | ⟨g, e1, g1, g2, g3, g4, g5⟩
    · exact Or.inl h0
    · refine Or.inr ⟨g, e1, g1, by omega, g3, g4, fun j hj => ?_⟩
      by_cases hg : u'.ownBlock = some g
      · rcases hat with h1 | ⟨_, h1⟩
        · exact own_cellF hol (h1.trans hg) j (Nat.lt_of_lt_of_le hj (Nat.mul_le_mul_right _ (by omega)))
        · rw [World.cell?_of_block (w := wx) ((h1.block g (by simp; omega) (by simp)).trans (Below.heap_alloc _ _ _ g2))]
          exact g5 j hj
      · rw [World.cell?_of_block (w := wx) (keep g g2 hg)]
        exact g5 j hj
  · intro b hb h1 h2 h3
    refine (keep b (by omega) (fun e => ?_)).trans (h.old b hb h1 h2 h3)
    rcases h.nl b e with h4 | h4
    · exact h2 h4
    · omega
  · intro y hm b e
    have := h.fb y hm b e
    exact ⟨by omega, this.2⟩
/-- the book behind it -/
theorem Kk.book {w w' : World} {bw C n m c kk : Nat} {e : TypeId} {sz : Nat} {f : Nat → Value} {sv : Value} {v : Nat → Value} {xs : Nat → List Value} {vc' u u' : Value} {L ys : List Value} (h : Book w bw sv v xs) (hc : In7 c) (hK : Kk w w' bw C n kk m c e sz f sv v vc' u u' (xs c) L) (hsz : sz = kSz c) (hf : ∀ i j, (xs c).length ≤ i → i < (xs c).length + kk → kF c i j = f j)
    (hu : w.ownsRow C e sz u n ys) (hfr : ∀ b, u.ownBlock = some b → Free7 bw v xs b) (hn : n + m ≤ 1099511627780) (h9 : (xs c).length + kk ≤ 4000000000000) :
    Book w' bw sv (upd v c vc') (upd xs c (xs c ++ L)) ∧ (∀ b, b < w.heap.size → Free7 bw v xs b → u.ownBlock ≠ some b → w'.heap[b]? = w.heap[b]? ∧ Free7 bw (upd v c vc') (upd xs c (xs c ++ L)) b) ∧ Below bw w w' := by
  have hA := Book.add (T := fun b => u.ownBlock = some b) h hc hfr hK.blk hK.ob hK.nb (fun b hb h1 h2 h3 => hK.old b hb h1 h2 h3) hK.size (fun i x hx => by
    obtain ⟨ad, t, q, e1, ht, hh⟩ := hK.fr x (List.mem_of_getElem? hx)
    refine ⟨ad, t, q, e1, by omega, ?_⟩
    rcases hh with h0 | ⟨g, e2, g1, g2, g3, g4, g5⟩
    · exact Or.inl h0
    · refine Or.inr ⟨g, e2, g3, g2, g4, fun j hj => ?_⟩
      rw [← hsz] at hj
      rw [g5 j hj, hf]
      · omega
      · have := (List.getElem?_eq_some_iff.1 hx).1
        have := hK.ln
        omega) hK.fb (by rw [hK.ln]; exact h9)
  refine ⟨hA.1, hA.2, hK.os, hK.tape, hK.output, hK.size, fun k hk => hK.old k (by have := h.lt'; omega) (fun e => by have := ((h.own c hc).lt k e).1; omega) (fun e => by have := (hu.lt k e).1; have := hK.bC; omega) (by omega)⟩
end Go.Proofs.YtnmfmoimjkoieaaGreatDoor.lb
