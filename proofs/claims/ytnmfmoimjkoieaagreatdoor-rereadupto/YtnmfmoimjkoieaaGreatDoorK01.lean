import Derived.Test.YtnmfmoimjkoieaaGreatDoorJ02
import Derived.Maps.OwnSet
import Derived.Maps.AppendAt
import Derived.OwnWalk
import Derived.Deep.LoopGhost
/- The broker in memory: what is left as it was, messages, what is under way. -/
namespace Go.Proofs.YtnmfmoimjkoieaaGreatDoor.br
open Go.RowKit Go.Proofs.YtnmfmoimjkoieaaGreatDoor.topPlain Go.Proofs.YtnmfmoimjkoieaaGreatDoor.topWalks

/-- all but what F names is as it was -/
structure But (F : Nat → Prop) (w w' : World) : Prop where
  os : w'.os = w.os
  tape : w'.tape = w.tape
  output : w'.output = w.output
  size : w.heap.size ≤ w'.heap.size
  keep : ∀ b, b < w.heap.size → ¬ F b → w'.heap[b]? = w.heap[b]?
theorem But.refl (F : Nat → Prop) (w : World) : But F w w := ⟨rfl, rfl, rfl, Nat.le_refl _, fun _ _ _ => rfl⟩
theorem But.trans {F G : Nat → Prop} {a b c : World} (h : But F a b) (k : But G b c) (hFG : ∀ x, x < a.heap.size → G x → F x) : But F a c :=
  ⟨k.os.trans h.os, k.tape.trans h.tape, k.output.trans h.output, Nat.le_trans h.size k.size, fun x hx hn => (k.keep x (Nat.lt_of_lt_of_le hx h.size) (fun g => hn (hFG x hx g))).trans (h.keep x hx hn)⟩
theorem But.wide {F G : Nat → Prop} {w w' : World} (h : But F w w') (hFG : ∀ x, x < w.heap.size → F x → G x) : But G w w' :=
  ⟨h.os, h.tape, h.output, h.size, fun b hb hn => h.keep b hb (fun f => hn (hFG b hb f))⟩
theorem But.of_below {F : Nat → Prop} {w w' : World} (h : Below w.heap.size w w') : But F w w' := ⟨h.os, h.tape, h.output, h.size, fun b hb _ => h.block b hb⟩
theorem But.set {F : Nat → Prop} (w : World) (a : Addr) (v : Value) (h : F a.block) : But F w (w.setCell a v) :=
  ⟨rfl, rfl, rfl, by simp [World.setCell], fun b _ hn => Below.heap_setCell _ _ _ _ (fun e => hn (e ▸ h))⟩
theorem But.of_grown {F : Nat → Prop} {w w' : World} {row : Option Nat} (h : w.grownBy w' row) (hr : ∀ b, row = some b → F b) : But F w w' :=
  ⟨h.os, h.tape, h.output, h.size, fun b hb hn => h.block b hb (fun e => hn (hr b e.symm))⟩
theorem But.below {F : Nat → Prop} {w w' : World} {N : Nat} (h : But F w w') (hN : ∀ b, F b → N ≤ b) (hs : N ≤ w.heap.size) : Below N w w' :=
  ⟨h.os, h.tape, h.output, h.size, fun b hb => h.keep b (by omega) (fun f => by have := hN b f; omega)⟩
theorem But.cell {F : Nat → Prop} {w w' : World} {a : Addr} {v : Value} (h : But F w w') (hn : ¬ F a.block) (hc : w.cell? a = some v) : w'.cell? a = some v := by
  have hlt : a.block < w.heap.size := by
    unfold World.cell? at hc
    split at hc
    · rename_i c t z hb; exact (Array.getElem?_eq_some_iff.1 hb).1
    · cases hc
  rw [World.cell?_of_block (h.keep a.block hlt hn)]; exact hc
theorem But.blk {F : Nat → Prop} {w w' : World} {b : Nat} {o : Obj} (h : But F w w') (hn : ¬ F b) (hc : w.heap[b]? = some o) : w'.heap[b]? = some o := by
  rw [h.keep b (Array.getElem?_eq_some_iff.1 hc).1 hn]; exact hc
theorem But.below' {w w' : World} (h : But (fun _ => False) w w') : Below w.heap.size w w' := ⟨h.os, h.tape, h.output, h.size, fun b hb => h.keep b hb (fun f => f)⟩
theorem cell_blt {w : World} {p : Addr} {v : Value} (h : w.cell? p = some v) : p.block < w.heap.size := by
  unfold World.cell? at h
  split at h
  · rename_i c t z hb; exact (Array.getElem?_eq_some_iff.1 hb).1
  · cases h
theorem cell_new (w : World) (c : Array Value) (t : TypeId) {i : Nat} {v : Value} (h : c[i]? = some v) : (w.alloc (.cells c t)).cell? ⟨w.heap.size, i, none⟩ = some v := by
  have := heap_alloc_new w (.cells c t)
  simp only [World.cell?, this]
  simpa using h
theorem blk_lt {w : World} {b : Nat} {o : Obj} (h : w.heap[b]? = some o) : b < w.heap.size := (Array.getElem?_eq_some_iff.1 h).1
theorem blk_cell {w : World} {b i : Nat} {c : Array Value} {t : TypeId} {z : Nat × Nat} {v : Value} (h : w.heap[b]? = some (.cells c t z)) (hi : c[i]? = some v) : w.cell? ⟨b, i, none⟩ = some v := by
  simp [World.cell?, h, hi]
theorem blk_frozen {w : World} {b i : Nat} {c : Array Value} {t : TypeId} (h : w.heap[b]? = some (.cells c t (0, 0))) : w.frozen? ⟨b, i, none⟩ = false := by
  simp [World.frozen?, h]
theorem blk_set {w : World} {b i : Nat} {c : Array Value} {t : TypeId} {z : Nat × Nat} (v : Value) (h : w.heap[b]? = some (.cells c t z)) : (w.setCell ⟨b, i, none⟩ v).heap[b]? = some (.cells (c.setIfInBounds i v) t z) := by
  have hlt := blk_lt h
  simp only [World.setCell]
  have e : w.heap[b] = Obj.cells c t z := by rw [Array.getElem?_eq_getElem hlt] at h; exact Option.some.inj h
  simp [hlt, Array.getElem_modify, e]
theorem ne_of_blk {w : World} {a b : Nat} {x y : Obj} (ha : w.heap[a]? = some x) (hb : w.heap[b]? = some y) (h : x ≠ y) : a ≠ b := fun e => by
  subst e; rw [ha] at hb; exact h (Option.some.inj hb)
theorem own_blk {w : World} {C : Nat} {e : TypeId} {sz : Nat} {v : Value} {n : Nat} {xs : List Value} (h : w.ownsRow C e sz v n xs) {b : Nat} (hb : v.ownBlock = some b) : ∃ cur, w.heap[b]? = some (.cells cur e (0, 0)) := by
  rcases h.2 with ⟨rfl, _⟩ | ⟨g, cap, cur, rfl, _, hg, _⟩
  · cases hb
  · cases hb; exact ⟨cur, hg⟩
theorem own_keep {w w' : World} {C : Nat} {e : TypeId} {sz : Nat} {v : Value} {n : Nat} {xs : List Value} (h : w.ownsRow C e sz v n xs) (hk : ∀ b, v.ownBlock = some b → w'.heap[b]? = w.heap[b]?) : w'.ownsRow C e sz v n xs := by
  refine ⟨h.1, ?_⟩
  rcases h.2 with h1 | ⟨g, cap, cur, rfl, h2, hg, h3⟩
  · exact Or.inl h1
  · exact Or.inr ⟨g, cap, cur, rfl, h2, (hk g rfl).trans hg, h3⟩
theorem own_but {F : Nat → Prop} {w w' : World} {C : Nat} {e : TypeId} {sz : Nat} {v : Value} {n : Nat} {xs : List Value} (h : w.ownsRow C e sz v n xs) (hk : But F w w') (hn : ∀ b, v.ownBlock = some b → ¬ F b) : w'.ownsRow C e sz v n xs :=
  own_keep h (fun b hb => by obtain ⟨cur, hc⟩ := own_blk h hb; exact hk.keep b (blk_lt hc) (hn b hb))
theorem own_zero {w : World} {C : Nat} {e : TypeId} {sz : Nat} {v : Value} {n : Nat} {xs : List Value} (h : w.ownsRow C e sz v n xs) : w.ownsRow 0 e sz v n xs ∧ ∀ b, v.ownBlock = some b → C ≤ b := by
  refine ⟨⟨h.1, ?_⟩, ?_⟩
  · rcases h.2 with h1 | ⟨g, cap, cur, e1, _, h3⟩
    · exact Or.inl h1
    · exact Or.inr ⟨g, cap, cur, e1, Nat.zero_le _, h3⟩
  · intro b hb
    rcases h.2 with ⟨rfl, _⟩ | ⟨g, cap, cur, rfl, h2, _⟩
    · cases hb
    · cases hb; exact h2
theorem own_form {w : World} {C : Nat} {e : TypeId} {sz : Nat} {v : Value} {n : Nat} {xs : List Value} (h : w.ownsRow C e sz v n xs) : ∃ q cap, v = .slice q n cap := by
  rcases h.2 with ⟨rfl, rfl⟩ | ⟨g, cap, cur, rfl, _⟩
  · exact ⟨none, 0, rfl⟩
  · exact ⟨some ⟨g, 0, none⟩, cap, rfl⟩
/-- a cell of an element -/
theorem own_at {w : World} {C : Nat} {e : TypeId} {sz : Nat} {q : Option Addr} {cap n : Nat} {xs : List Value} (h : w.ownsRow C e sz (.slice q n cap) n xs) (hn : 0 < n) : ∃ g, q = some ⟨g, 0, none⟩ ∧ g < w.heap.size ∧ n ≤ cap ∧ cap ≤ maxLen ∧ ∀ j u, xs[j]? = some u → w.cell? ⟨g, j, none⟩ = some u := by
  rcases h.2 with ⟨_, h0⟩ | ⟨g, cap', cur, hv, _, hg, h1, h2, h3, h4⟩
  · omega
  · cases hv
    refine ⟨g, rfl, blk_lt hg, h1, h2, fun j u hj => ?_⟩
    refine blk_cell hg ?_
    rw [← h4] at hj
    have hlt : j < n * sz := by
      have := (List.getElem?_eq_some_iff.1 hj).1
      rw [List.length_take] at this; omega
    rw [List.getElem?_take_of_lt hlt] at hj
    simpa using hj

/-- append to a list of one's own, as one step of a region that draws: where the new row lies -/
theorem step_append_at {P : Program} {ops : Array Oper} {o : Oper} {a : Act} {w : World} {K : Act → World → Prop} {Q : Exit → Act → World → Prop} {E : Prop}
    (hg : o.guard = none) (s x : Operand) (t : TypeId) (hop : o.op = Op.call { callee := Callee.builtin Builtin.append, args := #[s, x], argTypes := #[t, t] })
    (base : Nat) (e : TypeId) (i : TypeInfo) (z : Value) (size bytes : Nat) (h1 : P.underlying t = some (.slice e)) (h2 : P.info? e = some i) (h3 : i.zero = some z) (h4 : i.size = size) (h5 : i.bytes = bytes) (h6 : z.cells.size = size) (h7 : 0 < size)
    (v : Value) (n : Nat) (xs : List Value) (hs : a.eval s = v) (hown : w.ownsRow base e size v n xs)
    (ad : Addr) (m c : Nat) (news : List Value) (hx : a.eval x = .slice (some ad) m c) (hn : news.length = m * size) (hc : ∀ j u, news[j]? = some u → w.cell? (ad.add j) = some u) (h1c : ∀ u ∈ news, u.oneCell' = true)
    (b1 : n + m ≤ maxLen) (b2 : (n + m) * bytes ≤ 140737488355328) (hb : base ≤ w.heap.size)
    (hK : ∀ v' w', w'.ownsRow base e size v' (n + m) (xs ++ news) → w.grownBy w' v.ownBlock → (v'.ownBlock = v.ownBlock ∨ v'.ownBlock = some w.heap.size) → K (a.put o.dst v') w') :
    if Region.wanted o (yielded ops a.tmps) = true then Oper.wp P o a w K Q else E := by
  have hw : Region.wanted o (yielded ops a.tmps) = true := by simp [Region.wanted, hg]
  rw [if_pos hw]
  obtain ⟨v', w', hrun, r1, r2, _, r4⟩ := run_append_own_at (P := P) w base t o.type e i z size bytes h1 h2 h3 h4 h5 h6 h7 v n xs hown ad m c news hn hc h1c b1 b2 hb
  unfold Oper.wp
  simp [execOp, hop, resolve, invoke, builtin, hs, hx, hrun, Result.andThen]
  exact hK v' w' r1 r2 r4
/-- cells that were just laid -/
theorem news_new (w : World) (c : Array Value) (t : TypeId) : ∀ j u, c.toList[j]? = some u → (w.alloc (.cells c t)).cell? ((⟨w.heap.size, 0, none⟩ : Addr).add j) = some u := by
  intro j u hj
  have : ((⟨w.heap.size, 0, none⟩ : Addr).add j) = ⟨w.heap.size, j, none⟩ := by
    unfold Addr.add
    split
    · rename_i h; subst h; rfl
    · simp
  rw [this]
  exact cell_new w c t (by simpa using hj)
theorem alloc_cell {w : World} {a : Addr} {v : Value} (h : w.cell? a = some v) (o : Obj) : (w.alloc o).cell? a = some v := by
  rw [World.cell?_of_block (w := w) (Below.heap_alloc _ _ _ (cell_blt h))]; exact h

/-- a message -/
structure Msg where
  topic : List UInt8
  payload : List UInt8
  qos : Int
  retain : Bool
  deriving DecidableEq
def msgC (m : Msg) : List Value := [.string (bs m.topic), .string (bs m.payload), .int .i64 m.qos, .bool m.retain]
/-- what is under way -/
structure Uw where
  id : Int
  qos : Int
  rel : Bool
  msg : Msg
  deriving DecidableEq
def uwC (u : Uw) : List Value := [.int .i64 u.id, .int .i64 u.qos, .bool u.rel, .string (bs u.msg.topic), .string (bs u.msg.payload), .int .i64 u.msg.qos, .bool u.msg.retain]
theorem uwC_flat_length (l : List Uw) : (l.flatMap uwC).length = l.length * 7 := by
  induction l with
  | nil => rfl
  | cons a t ih => simp [uwC, ih]; omega
theorem uwC_at {l : List Uw} {k : Nat} {u : Uw} (h : l[k]? = some u) (j : Nat) (hj : j < 7) : (l.flatMap uwC)[k * 7 + j]? = (uwC u)[j]? := by
  induction l generalizing k with
  | nil => simp at h
  | cons a t ih =>
    cases k with
    | zero =>
      simp only [List.getElem?_cons_zero, Option.some.injEq] at h
      subst h
      rw [List.flatMap_cons, List.getElem?_append_left (by simp [uwC]; omega)]
      simp
    | succ k =>
      simp only [List.getElem?_cons_succ] at h
      rw [List.flatMap_cons, List.getElem?_append_right (by simp [uwC]; omega)]
      have : (k + 1) * 7 + j - (uwC a).length = k * 7 + j := by simp [uwC]; omega
      rw [this]
      exact ih h
/-- the place of the first that p says yes to; -1: none does -/
def idx {α : Type} (p : α → Bool) (l : List α) : Int := match l.findIdx? p with
  | some i => (i : Int)
  | none => -1
theorem idx_none {α : Type} {p : α → Bool} {l : List α} (h : ∀ (j : Nat) x, l[j]? = some x → p x = false) : idx p l = -1 := by
  unfold idx
  rw [List.findIdx?_eq_none_iff.2 (fun x hx => by obtain ⟨j, hj, e⟩ := List.getElem_of_mem hx; exact h j x (by rw [List.getElem?_eq_getElem hj, e]))]
theorem idx_some {α : Type} {p : α → Bool} {l : List α} {k : Nat} {x : α} (hx : l[k]? = some x) (hp : p x = true) (h : ∀ (j : Nat) y, j < k → l[j]? = some y → p y = false) : idx p l = (k : Int) := by
  unfold idx
  have hk := (List.getElem?_eq_some_iff.1 hx)
  have : l.findIdx? p = some k := by
    rw [List.findIdx?_eq_some_iff_getElem]
    refine ⟨hk.1, by rw [hk.2]; exact hp, fun j hj => ?_⟩
    have hjl : j < l.length := Nat.lt_trans hj hk.1
    have := h j (l[j]'hjl) hj (List.getElem?_eq_getElem _)
    simp [this]
  rw [this]
end Go.Proofs.YtnmfmoimjkoieaaGreatDoor.br

/- findId: the place of what is under way with an Id; nextId: the next Id that is free. -/
namespace Go.Proofs.YtnmfmoimjkoieaaGreatDoor.br
open Go.RowKit Go.Proofs.YtnmfmoimjkoieaaGreatDoor.topPlain Go.Proofs.YtnmfmoimjkoieaaGreatDoor.topWalks

theorem findId1_any (u : Uw) (bx : Nat) (id : Int) (w : World) (hb : w.cell? ⟨bx, 0, none⟩ = some (.int .i64 id)) :
    Calls Tryz.prog 239 #[.agg #[.int .i64 u.id, .int .i64 u.qos, .bool u.rel, .string (bs u.msg.topic), .string (bs u.msg.payload), .int .i64 u.msg.qos, .bool u.msg.retain], .pointer (some ⟨bx, 0, none⟩)] w fun e w' => e = .returned (.bool (u.id == id)) ∧ Below w.heap.size w w' := by
  have hlt := cell_blt hb
  simp only at hlt
  go_enter Tryz.func239, Tryz.ntmps239
  go_wp2
  go_ret
  exact ⟨rfl, (Below.refl _ _).alloc (Nat.le_refl _) _⟩

/-- the cells of an element -/
theorem uw_cells {w wr : World} {g n kap : Nat} {l : List Uw} (h : w.ownsRow 0 252 7 (.slice (some ⟨g, 0, none⟩) n kap) n (l.flatMap uwC)) {k : Nat} {u : Uw} (hu : l[k]? = some u) (hn : l.length = n) (hb : wr.heap[g]? = w.heap[g]?) :
    wr.cell? ⟨g, k * 7, none⟩ = some (.int .i64 u.id) ∧ wr.cell? ⟨g, k * 7 + 1, none⟩ = some (.int .i64 u.qos) ∧ wr.cell? ⟨g, k * 7 + 2, none⟩ = some (.bool u.rel) ∧ wr.cell? ⟨g, k * 7 + 3, none⟩ = some (.string (bs u.msg.topic)) ∧ wr.cell? ⟨g, k * 7 + 4, none⟩ = some (.string (bs u.msg.payload)) ∧ wr.cell? ⟨g, k * 7 + 5, none⟩ = some (.int .i64 u.msg.qos) ∧ wr.cell? ⟨g, k * 7 + 6, none⟩ = some (.bool u.msg.retain) := by
  have hlt := (List.getElem?_eq_some_iff.1 hu).1
  obtain ⟨g', e, _, _, _, hc⟩ := own_at h (by omega)
  cases e
  have hk : ∀ j, j < 7 → ∀ x, (uwC u)[j]? = some x → wr.cell? ⟨g, k * 7 + j, none⟩ = some x := fun j hj x hx => by
    rw [World.cell?_of_block (w := w) hb]; exact hc _ _ (by rw [uwC_at hu j hj]; exact hx)
  exact ⟨hk 0 (by omega) _ rfl, hk 1 (by omega) _ rfl, hk 2 (by omega) _ rfl, hk 3 (by omega) _ rfl, hk 4 (by omega) _ rfl, hk 5 (by omega) _ rfl, hk 6 (by omega) _ rfl⟩

set_option maxHeartbeats 400000 in
set_option maxRecDepth 100000 in
theorem idxUw_any (v : Value) (l : List Uw) (id : Int) (bx : Nat) (w : World) (hv : w.ownsRow 0 252 7 v l.length (l.flatMap uwC)) (hbx : w.cell? ⟨bx, 0, none⟩ = some (.int .i64 id)) :
    Calls Tryz.prog 238 #[v, .func (.func 239) #[] #[.pointer (some ⟨bx, 0, none⟩)]] w fun e w' => e = .returned (.int .i64 (idx (fun u => u.id == id) l)) ∧ Below w.heap.size w w' := by
  obtain ⟨q, kap, rfl⟩ := own_form hv
  have HV := hide hv
  have HX := hide hbx
  have HF := hide fun u w hb => findId1_any u bx id w hb
  clear hv hbx
  go_enter Tryz.func238, Tryz.ntmps238
  go_wp2_with fail
  go_loopw [8] (fun i wx => ∃ (k : Nat), k ≤ l.length ∧ i = .int .i64 k ∧ Below w.heap.size w wx ∧ ∀ (j : Nat) y, j < k → l[j]? = some y → (y.id == id) = false) (fun i _ => l.length - (intOf i).toNat)
  case atStart => exact ⟨0, Nat.zero_le _, rfl, Below.refl _ _, fun j y h => by omega⟩
  case round =>
    obtain ⟨k, hk, rfl, hB, hno⟩ := hrel
    have HB := hide hB
    have HN := hide hno
    clear hB hno
    by_cases hlt : k < l.length
    · obtain ⟨u, hu⟩ : ∃ u, l[k]? = some u := ⟨_, List.getElem?_eq_getElem hlt⟩
      obtain ⟨g, rfl, hg, hkc, hcm, _⟩ := own_at HV.out (by omega)
      unfold maxLen at hcm
      obtain ⟨h0, h1, h2, h3, h4, h5, h6⟩ := uw_cells (wr := wr) HV.out hu rfl (HB.out.block _ hg)
      have HU := hide hu
      clear hu
      go_wp2_with fail
      refine (HF.out u wr (by rw [HB.out.cell (cell_blt HX.out)]; exact HX.out)).mono ?_
      rintro e w1 ⟨rfl, hB1⟩
      have HB1 := hide (HB.out.trans (hB1.mono HB.out.size))
      clear hB1
      by_cases hp : (u.id == id) = true
      · rw [hp]
        go_wp2
        go_ret
        exact ⟨by rw [idx_some HU.out hp HN.out]; rfl, HB1.out⟩
      · have hp' : (u.id == id) = false := by simpa using hp
        rw [hp']
        have HP := hide hp'
        clear hp hp'
        go_wp2
        go_roundw
        case rel => exact ⟨k + 1, by omega, by go_num, HB1.out, fun j y hj hy => by
          by_cases e : j = k
          · subst e; have := HU.out; rw [this] at hy; cases hy; exact HP.out
          · exact HN.out j y (by omega) hy⟩
        case measure => simp [intOf]; omega
    · go_wp2
      go_ret
      exact ⟨by rw [idx_none (fun j x hj => HN.out j x (by have := (List.getElem?_eq_some_iff.1 hj).1; omega) hj)]; rfl, HB.out⟩

/-- s.findId: sb the session's block -/
theorem findId_any (sb : Nat) (uv : Value) (l : List Uw) (id : Int) (w : World) (hs : w.cell? ⟨sb, 5, none⟩ = some uv) (hv : w.ownsRow 0 252 7 uv l.length (l.flatMap uwC)) :
    Calls Tryz.prog 210 #[.pointer (some ⟨sb, 0, none⟩), .int .i64 id] w fun e w' => e = .returned (.int .i64 (idx (fun u => u.id == id) l)) ∧ Below w.heap.size w w' := by
  have hlt := cell_blt hs
  simp only at hlt
  have c := hide fun w' (hB : Below w.heap.size w w') (hx : w'.cell? ⟨w.heap.size, 0, none⟩ = some (.int .i64 id)) => idxUw_any uv l id w.heap.size w' (own_keep hv (fun b hb => by obtain ⟨cur, hc⟩ := own_blk hv hb; exact hB.block b (blk_lt hc))) hx
  have HB := hide fun o => (Below.refl w.heap.size w).alloc (Nat.le_refl _) o
  clear hv
  go_enter Tryz.func210, Tryz.ntmps210
  go_wp2_with fail
  refine (c.out _ (HB.out _) (cell_new _ _ _ rfl)).mono ?_
  rintro e w1 ⟨rfl, hB1⟩
  have HB1 := hide ((HB.out _).trans (hB1.mono (by simp)))
  clear hB1
  go_wp2
  go_ret
  exact ⟨rfl, HB1.out⟩

def aft (id : Int) : Int := id % 65535 + 1
theorem after_any (id : Int) (w : World) (h0 : 0 ≤ id) :
    Calls Tryz.prog 260 #[.int .i64 id] w fun e w' => e = .returned (.int .i64 (aft id)) ∧ w' = w := by
  have h2 : Int.tmod id 65535 = id % 65535 := Int.tmod_eq_emod_of_nonneg h0
  have h3 : 0 ≤ id % 65535 := Int.emod_nonneg _ (by decide)
  have h4 : id % 65535 < 65535 := Int.emod_lt_of_pos _ (by decide)
  unfold aft
  go_enter Tryz.func260, Tryz.ntmps260
  go_wp2
  go_ret
  exact ⟨rfl, rfl⟩

def busy (l : List Uw) (id : Int) : Bool := l.any (fun u => u.id == id)
def nextF (l : List Uw) : Nat → Int → Int
  | 0, id => id
  | n + 1, id => if busy l id then nextF l n (aft id) else id
/-- the next Id that is free -/
def nextS (last : Int) (l : List Uw) : Int := nextF l (l.length + 1) (aft last)
def nth (last : Int) : Nat → Int
  | 0 => aft last
  | k + 1 => aft (nth last k)
theorem nextF_at {l : List Uw} {last : Int} (n k i : Nat) (h : ∀ j, i ≤ j → j < i + k → busy l (nth last j) = true) (hk : busy l (nth last (i + k)) = false) (hn : k < n) : nextF l n (nth last i) = nth last (i + k) := by
  induction n generalizing k i with
  | zero => omega
  | succ n ih =>
    unfold nextF
    cases k with
    | zero => simp only [Nat.add_zero] at hk ⊢; simp [hk]
    | succ k =>
      rw [if_pos (h i (Nat.le_refl _) (by omega))]
      have := ih k (i + 1) (fun j h1 h2 => h j (by omega) (by omega)) (by rw [← hk]; congr 2; omega) (by omega)
      rw [show i + (k + 1) = i + 1 + k by omega, ← this]
      rfl
theorem nth_eq (last : Int) (k : Nat) : nth last k = (last + k) % 65535 + 1 := by
  induction k with
  | zero => simp [nth, aft]
  | succ k ih => unfold nth; rw [ih]; unfold aft; omega
theorem nth_range (last : Int) (k : Nat) : 1 ≤ nth last k ∧ nth last k ≤ 65535 := by rw [nth_eq]; omega
theorem nth_inj {last : Int} {i j : Nat} (hi : i < 65535) (hj : j < 65535) (e : nth last i = nth last j) : i = j := by
  rw [nth_eq, nth_eq] at e; omega
theorem pigeon {f : Nat → Int} (n : Nat) : ∀ (l : List Int), (∀ i j, i < n → j < n → f i = f j → i = j) → (∀ i, i < n → f i ∈ l) → n ≤ l.length := by
  induction n with
  | zero => exact fun l _ _ => Nat.zero_le _
  | succ n ih =>
    intro l hinj hm
    have h1 : n ≤ (l.erase (f n)).length := ih _ (fun i j hi hj => hinj i j (by omega) (by omega)) (fun i hi => (List.mem_erase_of_ne (fun e => by have := hinj i n (by omega) (by omega) e; omega)).2 (hm i (by omega)))
    rw [List.length_erase_of_mem (hm n (by omega))] at h1
    have := List.length_pos_of_mem (hm n (by omega))
    omega
theorem busy_mem {l : List Uw} {id : Int} (h : busy l id = true) : id ∈ l.map (·.id) := by
  unfold busy at h
  rw [List.any_eq_true] at h
  obtain ⟨u, hu, e⟩ := h
  exact List.mem_map.2 ⟨u, hu, by simpa using e⟩
theorem idx_busy (l : List Uw) (id : Int) : (0 ≤ idx (fun u => u.id == id) l) ↔ busy l id = true := by
  unfold idx busy
  cases h : l.findIdx? (fun u => u.id == id) with
  | none =>
    rw [List.findIdx?_eq_none_iff] at h
    simp only [List.any_eq_true, show ¬ (0 : Int) ≤ -1 by omega, false_iff]
    rintro ⟨u, hu, e⟩
    rw [h u hu] at e; cases e
  | some i =>
    rw [List.findIdx?_eq_some_iff_getElem] at h
    obtain ⟨hi, hp, _⟩ := h
    simp only [List.any_eq_true]
    exact ⟨fun _ => ⟨_, List.getElem_mem hi, hp⟩, fun _ => by omega⟩
theorem busy_bound {l : List Uw} {last : Int} (k : Nat) (hk : k ≤ 65535) (h : ∀ j, j < k → busy l (nth last j) = true) : k ≤ l.length := by
  have := pigeon (f := nth last) k (l.map (·.id)) (fun i j hi hj => nth_inj (by omega) (by omega)) (fun i hi => busy_mem (h i hi))
  simpa using this

set_option maxHeartbeats 400000 in
theorem nextId_any (sb : Nat) (uv : Value) (l : List Uw) (last : Int) (w : World) (hs : w.cell? ⟨sb, 5, none⟩ = some uv) (hla : w.cell? ⟨sb, 6, none⟩ = some (.int .i64 last)) (hv : w.ownsRow 0 252 7 uv l.length (l.flatMap uwC)) (h0 : 0 ≤ last) (hl : l.length < 65000) :
    Calls Tryz.prog 233 #[.pointer (some ⟨sb, 0, none⟩)] w fun e w' => e = .returned (.int .i64 (nextS last l)) ∧ Below w.heap.size w w' := by
  have hlt := cell_blt hs
  simp only at hlt
  have c1 := hide fun id w h0 => after_any id w h0
  have c2 := hide fun id w' (hB : Below w.heap.size w w') => findId_any sb uv l id w' (by rw [hB.cell hlt]; exact hs) (own_keep hv (fun b hb => by obtain ⟨cur, hc⟩ := own_blk hv hb; exact hB.block b (blk_lt hc)))
  have HL := hide hl
  have H0 := hide h0
  clear hv hs hl
  go_enter Tryz.func233, Tryz.ntmps233
  go_wp2_with fail
  refine (c1.out _ _ H0.out).mono ?_
  rintro e w1 ⟨rfl, hw1⟩
  rw [hw1]
  clear hw1
  go_wp2_with fail
  go_loopg [3] l.length (fun g i wx => ∃ k : Nat, k + g = l.length ∧ i = .int .i64 (nth last k) ∧ Below w.heap.size w wx ∧ ∀ j, j < k → busy l (nth last j) = true)
  case atStart => exact ⟨0, by omega, rfl, Below.refl _ _, fun j hj => by omega⟩
  case round =>
    obtain ⟨k, hk, rfl, hB, hno⟩ := hrel
    have HB := hide hB
    have HN := hide hno
    clear hB hno
    go_wp2_with fail
    refine (c2.out _ _ HB.out).mono ?_
    rintro e w2 ⟨rfl, hB1⟩
    have HB1 := hide (HB.out.trans (hB1.mono HB.out.size))
    clear hB1
    by_cases hb : busy l (nth last k) = true
    · have hd : (0 : Int) ≤ idx (fun u => u.id == nth last k) l := (idx_busy _ _).2 hb
      have HY := hide hb
      clear hb
      generalize idx (fun u => u.id == nth last k) l = i at *
      go_wp2_with fail
      refine (c1.out _ _ (by have := nth_range last k; omega)).mono ?_
      rintro e w3 ⟨rfl, rfl⟩
      have hall : ∀ j, j < k + 1 → busy l (nth last j) = true := fun j hj => by
        by_cases e : j = k
        · subst e; exact HY.out
        · exact HN.out j (by omega)
      have hle := busy_bound (k + 1) (by have := HL.out; omega) hall
      have HA := hide hall
      clear hall
      go_wp2
      go_roundg (gk - 1)
      case measure => omega
      case rel => exact ⟨k + 1, by omega, rfl, HB1.out, HA.out⟩
    · have hd : ¬ (0 : Int) ≤ idx (fun u => u.id == nth last k) l := fun h => hb ((idx_busy _ _).1 h)
      have HY := hide (show busy l (nth last k) = false by simpa using hb)
      clear hb
      generalize idx (fun u => u.id == nth last k) l = i at *
      go_wp2
      go_ret
      refine ⟨?_, HB1.out⟩
      have := nextF_at (l := l) (last := last) (l.length + 1) k 0 (fun j _ hj => HN.out j (by omega)) (by simpa using HY.out) (by omega)
      rw [Nat.zero_add] at this
      unfold nextS
      exact congrArg (fun x => Ending.returned (.int .i64 x)) this.symm
end Go.Proofs.YtnmfmoimjkoieaaGreatDoor.br
