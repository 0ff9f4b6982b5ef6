import Derived.Test.YtnmfmoimjkoieaaGreatDoorJ02
import Derived.Test.YtnmfmoimjkoieaaGreatDoorJ01
import Derived.Test.YtnmfmoimjkoieaaGreatDoorJ16
import Derived.Lib.AppendStr
/- The writer of package packets in memory, and what its smallest steps do: fits, octet, bytes, number, text. -/
namespace Go.Proofs.YtnmfmoimjkoieaaGreatDoor.ew
open Go.RowKit Go.Proofs.YtnmfmoimjkoieaaGreatDoor.topPlain Go.Proofs.YtnmfmoimjkoieaaGreatDoor.topWalks Go.Proofs.YtnmfmoimjkoieaaGreatDoor.decPlain Go.Proofs.YtnmfmoimjkoieaaGreatDoor.encPlain

theorem infoB : (Tryz.prog.info? 5).map (fun i => (i.zero, i.size, i.bytes)) = some (some (.int .u8 0), 1, 1) := by kernel_rfl
def u8s (l : List UInt8) : List Value := l.map fun x => .int .u8 (x.toNat : Int)
theorem u8s_append (a b : List UInt8) : u8s (a ++ b) = u8s a ++ u8s b := by simp [u8s]
theorem u8_wrap (n : Int) : IntKind.u8.wrap n = ((byt8 n).toNat : Int) := by
  unfold byt8
  have h1 : (n % 256).toNat < 256 := by omega
  rw [UInt8.toNat_ofNat', Nat.mod_eq_of_lt h1]
  have h2 : IntKind.u8.wrap n = n % 256 := by
    unfold IntKind.wrap
    rfl
  rw [h2]
  omega
/-- some bytes more; none: full -/
def wr (x : List UInt8) : Option (List UInt8) → Option (List UInt8)
  | some l => if l.length + x.length ≤ 300 then some (l ++ x) else none
  | none => none
def fitS (n : Nat) : Option (List UInt8) → Option (List UInt8)
  | some l => if l.length + n ≤ 300 then some l else none
  | none => none
theorem wr_none (x : List UInt8) : wr x none = none := rfl
theorem wr_wr (x y : List UInt8) (st : Option (List UInt8)) : wr y (wr x st) = wr (x ++ y) st := by
  cases st with
  | none => rfl
  | some l =>
    unfold wr
    by_cases h : l.length + x.length ≤ 300
    · simp only [if_pos h, List.length_append, List.append_assoc]
      by_cases h2 : l.length + x.length + y.length ≤ 300
      · rw [if_pos h2, if_pos (by omega)]
      · rw [if_neg h2, if_neg (by omega)]
    · simp only [if_neg h, List.length_append]
      rw [if_neg (by omega)]
theorem wr_nil (st : Option (List UInt8)) (h : ∀ l, st = some l → l.length ≤ 300) : wr [] st = st := by
  cases st with
  | none => rfl
  | some l => simp [wr, h l rfl]

/-- the writer in block bw; its bytes in a row of their own, at C or above -/
structure Wr (bw C : Nat) (w : World) (full : Bool) (v : Value) (l : List UInt8) : Prop where
  lt : bw < C
  sz : C ≤ w.heap.size
  c0 : w.cell? ⟨bw, 0, none⟩ = some v
  c1 : w.cell? ⟨bw, 1, none⟩ = some (.bool full)
  f0 : w.frozen? ⟨bw, 0, none⟩ = false
  f1 : w.frozen? ⟨bw, 1, none⟩ = false
  own : w.ownsRow C 5 1 v l.length (u8s l)
  le : l.length ≤ 300
def Ws (bw C : Nat) (w : World) : Option (List UInt8) → Prop
  | some l => ∃ v, Wr bw C w false v l
  | none => ∃ v l, Wr bw C w true v l
/-- the row in which its bytes lie -/
def rowOf (bw : Nat) (w : World) : Option Nat := match w.cell? ⟨bw, 0, none⟩ with
  | some v => v.ownBlock
  | none => none
theorem rowOf_eq {bw : Nat} {w : World} {v : Value} (h : w.cell? ⟨bw, 0, none⟩ = some v) : rowOf bw w = v.ownBlock := by unfold rowOf; rw [h]
/-- all else is as it was -/
structure Kp (bw : Nat) (w w' : World) : Prop where
  os : w'.os = w.os
  tape : w'.tape = w.tape
  output : w'.output = w.output
  size : w.heap.size ≤ w'.heap.size
  keep : ∀ np, np ≠ bw → np < w.heap.size → rowOf bw w ≠ some np → rowOf bw w' ≠ some np ∧ w'.heap[np]? = w.heap[np]?
theorem Kp.refl (bw : Nat) (w : World) : Kp bw w w := ⟨rfl, rfl, rfl, Nat.le_refl _, fun _ _ _ h => ⟨h, rfl⟩⟩
theorem Kp.trans {bw : Nat} {a b c : World} (h : Kp bw a b) (k : Kp bw b c) : Kp bw a c :=
  ⟨k.os.trans h.os, k.tape.trans h.tape, k.output.trans h.output, Nat.le_trans h.size k.size, fun np h1 h2 h3 => by
    obtain ⟨x, y⟩ := h.keep np h1 h2 h3
    obtain ⟨x', y'⟩ := k.keep np h1 (Nat.lt_of_lt_of_le h2 h.size) x
    exact ⟨x', y'.trans y⟩⟩
theorem own_slice {w : World} {C : Nat} {e : TypeId} {sz : Nat} {v : Value} {n : Nat} {xs : List Value} (h : w.ownsRow C e sz v n xs) : ∃ q cap, v = .slice q n cap := by
  rcases h.2 with ⟨rfl, rfl⟩ | ⟨g, cap, cur, rfl, _⟩
  · exact ⟨none, 0, rfl⟩
  · exact ⟨some ⟨g, 0, none⟩, cap, rfl⟩
theorem Wr.row_ne {bw C : Nat} {w : World} {f : Bool} {v : Value} {l : List UInt8} (h : Wr bw C w f v l) {np : Nat} (hn : np < C) : v.ownBlock ≠ some np := fun e => by
  have := (h.own.lt np e).1
  omega
/-- blocks of others -/
theorem Ws.row_lt {bw C : Nat} {w : World} {st : Option (List UInt8)} (h : Ws bw C w st) {np : Nat} (hn : np < C ∨ w.heap.size ≤ np) : rowOf bw w ≠ some np := fun e => by
  have : ∃ f v l, Wr bw C w f v l := by
    cases st with
    | none => obtain ⟨v, l, h⟩ := h; exact ⟨_, _, _, h⟩
    | some l => obtain ⟨v, h⟩ := h; exact ⟨_, _, _, h⟩
  obtain ⟨f, v, l, h⟩ := this
  rw [rowOf_eq h.c0] at e
  have := h.own.lt np e
  omega
theorem Ws.below {bw C B : Nat} {w w' : World} {st : Option (List UInt8)} (h : Ws bw C w st) (k : Kp bw w w') (hB : B ≤ bw) : Below B w w' := by
  have hlt : bw < C ∧ C ≤ w.heap.size := by
    cases st with
    | none => obtain ⟨v, l, h⟩ := h; exact ⟨h.lt, h.sz⟩
    | some l => obtain ⟨v, h⟩ := h; exact ⟨h.lt, h.sz⟩
  exact ⟨k.os, k.tape, k.output, k.size, fun b hb => (k.keep b (by omega) (by omega) (h.row_lt (Or.inl (by omega)))).2⟩
/-- a new block, or anything that leaves what there was -/
theorem Wr.grow {bw C : Nat} {w w' : World} {f : Bool} {v : Value} {l : List UInt8} (h : Wr bw C w f v l) (hb : Below w.heap.size w w') : Wr bw C w' f v l ∧ Kp bw w w' := by
  have hlt : bw < w.heap.size := Nat.lt_of_lt_of_le h.lt h.sz
  have e0 : w'.cell? ⟨bw, 0, none⟩ = some v := by rw [hb.cell hlt]; exact h.c0
  refine ⟨⟨h.lt, Nat.le_trans h.sz hb.size, e0, by rw [hb.cell hlt]; exact h.c1, by rw [hb.frozen hlt]; exact h.f0, by rw [hb.frozen hlt]; exact h.f1, ?_, h.le⟩, hb.os, hb.tape, hb.output, hb.size, fun np _ h2 h3 => ⟨?_, hb.block np h2⟩⟩
  · exact h.own.kept (row := none) ⟨hb.os, hb.tape, hb.output, hb.size, fun k hk _ => hb.block k hk⟩ (by cases v.ownBlock with | none => exact Or.inl rfl | some k => exact Or.inr (by simp))
  · rw [rowOf_eq e0, ← rowOf_eq h.c0]; exact h3
theorem Ws.grow {bw C : Nat} {w w' : World} {st : Option (List UInt8)} (h : Ws bw C w st) (hb : Below w.heap.size w w') : Ws bw C w' st ∧ Kp bw w w' := by
  cases st with
  | none => obtain ⟨v, l, h⟩ := h; exact ⟨⟨v, l, (h.grow hb).1⟩, (h.grow hb).2⟩
  | some l => obtain ⟨v, h⟩ := h; exact ⟨⟨v, (h.grow hb).1⟩, (h.grow hb).2⟩

set_option maxHeartbeats 400000 in
theorem fits_any (bw C n : Nat) (w : World) (st : Option (List UInt8)) (h : Ws bw C w st) :
    Calls Tryz.prog 148 #[.pointer (some ⟨bw, 0, none⟩), .int .i64 (n : Int)] w fun e w' => e = .returned (.bool (fitS n st).isSome) ∧ Ws bw C w' (fitS n st) ∧ Kp bw w w' ∧ ((fitS n st).isSome = true → w' = w) := by
  have main : ∀ (full : Bool) v l, Wr bw C w full v l → Calls Tryz.prog 148 #[.pointer (some ⟨bw, 0, none⟩), .int .i64 (n : Int)] w fun e w' => e = .returned (.bool (!full && decide (l.length + n ≤ 300))) ∧ Wr bw C w' (full || !decide (l.length + n ≤ 300)) v l ∧ Kp bw w w' ∧ (l.length + n ≤ 300 → w' = w) := fun full v l H => by
    have HW := hide H
    obtain ⟨h1, h2, c0, c1, f0, f1, own, hle⟩ := H
    obtain ⟨q, cap, rfl⟩ := own_slice own
    clear own
    by_cases hf : l.length + n ≤ 300
    · have hd : ¬ (300 - (l.length : Int) < (n : Int)) := by omega
      rw [decide_eq_true hf]
      go_enter Tryz.func148, Tryz.ntmps148
      go_wp2
      go_ret
      exact ⟨by simp, by simpa using HW.out, Kp.refl _ _, by simp⟩
    · have hd : (300 - (l.length : Int) < (n : Int)) := by omega
      rw [decide_eq_false hf]
      have HF := hide hf
      clear hf
      go_enter Tryz.func148, Tryz.ntmps148
      go_wp2
      go_ret
      have hW := HW.out
      have e0 : (w.setCell ⟨bw, 1, none⟩ (.bool true)).cell? ⟨bw, 0, none⟩ = w.cell? ⟨bw, 0, none⟩ := by apply World.cell?_setCell_other; simp
      refine ⟨by simp, ⟨h1, by simpa [World.setCell] using h2, by rw [e0]; exact c0, by simp; apply World.cell?_setCell_same; exact c1, by rw [World.frozen?_setCell]; exact f0, by rw [World.frozen?_setCell]; exact f1, ?_, hle⟩, ⟨rfl, rfl, rfl, by simp [World.setCell], fun np k1 k2 k3 => ⟨?_, Below.heap_setCell _ _ _ _ (fun e => k1 (by rw [e]))⟩⟩, fun hh => absurd hh HF.out⟩
      · refine hW.own.kept (row := some bw) ⟨rfl, rfl, rfl, by simp [World.setCell], fun k _ hne => Below.heap_setCell _ _ _ _ (fun e => hne (by rw [e]))⟩ ?_
        cases hv : Value.ownBlock (.slice q l.length cap) with
        | none => exact Or.inl rfl
        | some k => exact Or.inr (fun e => by have := hW.row_ne h1; rw [hv] at this; exact this e)
      · have : rowOf bw (w.setCell ⟨bw, 1, none⟩ (.bool true)) = rowOf bw w := by unfold rowOf; rw [e0]
        rw [this]; exact k3
  cases st with
  | none =>
    obtain ⟨v, l, H⟩ := h
    refine (main true v l H).mono fun e w' ⟨h1, h2, h3, h4⟩ => ⟨by simpa [fitS] using h1, ⟨v, l, by simpa using h2⟩, h3, fun hh => by simp [fitS] at hh⟩
  | some l =>
    obtain ⟨v, H⟩ := h
    refine (main false v l H).mono fun e w' ⟨h1, h2, h3, h4⟩ => ?_
    by_cases hf : l.length + n ≤ 300
    · have hfs : fitS n (some l) = some l := by simp [fitS, hf]
      rw [hfs]
      refine ⟨by simpa [hf] using h1, ⟨v, by simpa [hf] using h2⟩, h3, fun _ => h4 hf⟩
    · have hfs : fitS n (some l) = none := by simp [fitS, hf]
      rw [hfs]
      refine ⟨by simpa [hf] using h1, ⟨v, l, by simpa [hf] using h2⟩, h3, fun hh => by simp at hh⟩

theorem run_append_at_string {P : Program} (w : World) (base : Nat) (t u ty e : TypeId) (i : TypeInfo) (ht : P.underlying t = some (.slice e)) (hu : P.underlying u = some .string) (hi : P.info? e = some i) (hz : i.zero = some (.int .u8 0))
    (hsize : i.size = 1) (hby : i.bytes = 1) (v : Value) (n : Nat) (xs : List Value) (hown : w.ownsRow base e 1 v n xs) (s : ByteArray) (h63 : n + s.size ≤ maxLen) (hbytes : n + s.size ≤ 140737488355328) (hbase : base ≤ w.heap.size) :
    ∃ v' w', (Builtin.append_ #[t, u] ty #[v, .string s]).run P w = .ok v' w' ∧ w'.ownsRow base e 1 v' (n + s.size) (xs ++ Lib.strCells s) ∧ w.grownBy w' v.ownBlock ∧ (v'.ownBlock = v.ownBlock ∨ v'.ownBlock = some w.heap.size) := by
  obtain ⟨v', w', hr, h2, h3, h4⟩ := Lib.run_append_own_string (P := P) w base t u ty e i ht hu hi hz hsize hby v n xs hown s h63 hbytes hbase
  refine ⟨v', w', hr, h2, h3, ?_⟩
  have h63' : n + s.size ≤ 9223372036854775807 := by unfold maxLen at h63; omega
  have hxl : xs.length = n := by simpa using hown.1
  rcases hown.2 with ⟨rfl, rfl⟩ | ⟨g, cap, cur, rfl, _, hg, _, _, hcs, _⟩
  · by_cases hm : s.size = 0
    · left; rw [h4.2 ⟨rfl, hm⟩]
    · have hr2 := run_append_nil_string (P := P) w t u ty e i (.int .u8 0) ht hu hi hz s (by omega) (by omega) (by rw [hby]; omega)
      have e2 := hr.symm.trans hr2
      simp only [Result.ok.injEq] at e2
      right; rw [e2.1]; rfl
  · by_cases hroom : n + s.size ≤ cap
    · have hr2 := Lib.run_append_room_string (P := P) w t u ty e i ht hu hi hsize g n cap cur hg s hroom (by omega)
      have e2 := hr.symm.trans hr2
      simp only [Result.ok.injEq] at e2
      left; rw [e2.1]; rfl
    · have holds : ∀ j u, xs[j]? = some u → w.cell? ((⟨g, 0, none⟩ : Addr).add j) = some u := hown.cells (g := g) rfl
      have hr2 := Lib.run_append_grow_string (P := P) w t u ty e i (.int .u8 0) ht hu hi hz ⟨g, 0, none⟩ n cap xs (by rw [hsize]; simpa using hxl) holds s (by omega) (by omega) (by rw [hby]; exact growslice_fits (by omega) (by omega))
      have e2 := hr.symm.trans hr2
      simp only [Result.ok.injEq] at e2
      right; rw [e2.1]; rfl
theorem wpList_append_at_string {P : Program} (w : World) {ops : Array Oper} {rest : List Oper} {o : Oper} {a : Act} {Q : Exit → Act → World → Prop} (hgd : o.guard = none) (sl x : Operand) (t u : TypeId)
    (ho : o.op = .call { callee := .builtin .append, args := #[sl, x], argTypes := #[t, u] })
    (base : Nat) (e : TypeId) (i : TypeInfo) (ht : P.underlying t = some (.slice e)) (hu : P.underlying u = some .string) (hi : P.info? e = some i) (hz : i.zero = some (.int .u8 0))
    (hsize : i.size = 1) (hby : i.bytes = 1) (v : Value) (n : Nat) (xs : List Value) (hs : a.eval sl = v) (hown : w.ownsRow base e 1 v n xs) (s : ByteArray) (hx : a.eval x = .string s)
    (h63 : n + s.size ≤ maxLen) (hbytes : n + s.size ≤ 140737488355328) (hbase : base ≤ w.heap.size)
    (h : ∀ v' w', w'.ownsRow base e 1 v' (n + s.size) (xs ++ Lib.strCells s) → w.grownBy w' v.ownBlock → (v'.ownBlock = v.ownBlock ∨ v'.ownBlock = some w.heap.size) → wpList P ops Q rest (a.put o.dst v') w') : wpList P ops Q (o :: rest) a w := by
  refine wpList_plain hgd fun K hK => ?_
  obtain ⟨v', w', hr, h2, h3, h4⟩ := run_append_at_string (P := P) w base t u o.type e i ht hu hi hz hsize hby v n xs hown s h63 hbytes hbase
  unfold Oper.wp execOp
  simp only [ho, resolve, invoke, builtin, Sem.run_bind, Sem.run_pure, Result.andThen_ok, List.map_toArray, List.map_cons, List.map_nil, hs, hx, hr]
  exact hK _ _ (h v' w' h2 h3 h4)

theorem sc_same {w : World} {a : Addr} {u v : Value} (h : w.cell? a = some u) : (w.setCell a v).cell? a = some v := by apply World.cell?_setCell_same; exact h
theorem sc_other {w : World} {a b : Addr} {v : Value} (h : a ≠ b) : (w.setCell a v).cell? b = w.cell? b := by apply World.cell?_setCell_other; exact h
theorem sc_frozen {w : World} {a b : Addr} {v : Value} : (w.setCell a v).frozen? b = w.frozen? b := by apply World.frozen?_setCell
theorem Wr.mid {bw C : Nat} {w wa w2 : World} {v : Value} {l : List UInt8} (h : Wr bw C w false v l) (ha : Below w.heap.size w wa) (hg : wa.grownBy w2 v.ownBlock) :
    w2.cell? ⟨bw, 0, none⟩ = some v ∧ w2.cell? ⟨bw, 1, none⟩ = some (.bool false) ∧ w2.frozen? ⟨bw, 0, none⟩ = false ∧ w2.frozen? ⟨bw, 1, none⟩ = false := by
  have hlt : bw < w.heap.size := Nat.lt_of_lt_of_le h.lt h.sz
  have hb : w2.heap[bw]? = w.heap[bw]? := (hg.block bw (Nat.lt_of_lt_of_le hlt ha.size) (fun e => h.row_ne h.lt e.symm)).trans (ha.block bw hlt)
  have k : ∀ i, w2.cell? ⟨bw, i, none⟩ = w.cell? ⟨bw, i, none⟩ := fun i => World.cell?_of_block (w := w) hb
  have f : ∀ i, w2.frozen? ⟨bw, i, none⟩ = w.frozen? ⟨bw, i, none⟩ := fun i => World.frozen?_of_block (w := w) hb
  exact ⟨by rw [k]; exact h.c0, by rw [k]; exact h.c1, by rw [f]; exact h.f0, by rw [f]; exact h.f1⟩
theorem Wr.put {bw C : Nat} {w wa w2 : World} {v v' : Value} {l l' : List UInt8} (h : Wr bw C w false v l) (ha : Below w.heap.size w wa) (hg : wa.grownBy w2 v.ownBlock) (hown : w2.ownsRow C 5 1 v' l'.length (u8s l'))
    (hat : v'.ownBlock = v.ownBlock ∨ v'.ownBlock = some wa.heap.size) (hle : l'.length ≤ 300) : Wr bw C (w2.setCell ⟨bw, 0, none⟩ v') false v' l' ∧ Kp bw w (w2.setCell ⟨bw, 0, none⟩ v') := by
  obtain ⟨k0, k1, g0, g1⟩ := h.mid ha hg
  have e0 : (w2.setCell ⟨bw, 0, none⟩ v').cell? ⟨bw, 0, none⟩ = some v' := sc_same k0
  have hsz : wa.heap.size ≤ (w2.setCell ⟨bw, 0, none⟩ v').heap.size := by simpa [World.setCell] using hg.size
  refine ⟨⟨h.lt, by have := h.sz; have := ha.size; omega, e0, by rw [sc_other (by simp)]; exact k1, by rw [sc_frozen]; exact g0, by rw [sc_frozen]; exact g1, ?_, hle⟩, hg.os.trans ha.os, hg.tape.trans ha.tape, hg.output.trans ha.output, by have := ha.size; omega, fun np h1 h2 h3 => ⟨?_, ?_⟩⟩
  · refine hown.kept (row := some bw) ⟨rfl, rfl, rfl, by simp [World.setCell], fun k _ hne => Below.heap_setCell _ _ _ _ (fun e => hne (by rw [e]))⟩ ?_
    cases hv : v'.ownBlock with
    | none => exact Or.inl rfl
    | some k => exact Or.inr (fun e => by have h1 := (hown.lt k hv).1; have h2 := h.lt; simp only [Option.some.injEq] at e; omega)
  · rw [rowOf_eq e0]
    rcases hat with e | e
    · rw [e, ← rowOf_eq h.c0]; exact h3
    · rw [e]; intro e; simp only [Option.some.injEq] at e; have := ha.size; omega
  · rw [Below.heap_setCell _ _ _ _ (fun e => h1 (by rw [e])), hg.block np (Nat.lt_of_lt_of_le h2 ha.size) (fun e => h3 (by rw [rowOf_eq h.c0]; exact e.symm)), ha.block np h2]

theorem fitS_none {x : List UInt8} {st : Option (List UInt8)} (h : fitS x.length st = none) : wr x st = none := by
  cases st with
  | none => rfl
  | some l =>
    by_cases hn : l.length + x.length ≤ 300
    · simp [fitS, hn] at h
    · simp [wr, hn]
theorem fitS_some {x l : List UInt8} {st : Option (List UInt8)} (h : fitS x.length st = some l) : st = some l ∧ l.length + x.length ≤ 300 ∧ wr x st = some (l ++ x) := by
  cases st with
  | none => cases h
  | some l =>
    unfold fitS at h
    simp only at h
    split at h
    · rename_i hn; cases h; exact ⟨rfl, hn, by simp [wr, hn]⟩
    · cases h

set_option maxHeartbeats 800000 in
theorem octet_any (bw C : Nat) (n : Int) (w : World) (st : Option (List UInt8)) (h : Ws bw C w st) :
    Calls Tryz.prog 113 #[.pointer (some ⟨bw, 0, none⟩), .int .i64 n] w fun e w' => e = .returned (.tuple #[]) ∧ Ws bw C w' (wr [byt8 n] st) ∧ Kp bw w w' := by
  have cF := hide (fits_any bw C 1 w st h)
  obtain ⟨i0, hi, hz0, hz1, hz2⟩ := info_parts infoB
  cases hfs : fitS 1 st with
  | none =>
    rw [hfs] at cF
    have hW : wr [byt8 n] st = none := fitS_none hfs
    rw [hW]
    clear h hfs hW
    go_enter Tryz.func113, Tryz.ntmps113
    go_wp2_with fail
    refine (unhide cF).mono ?_
    rintro e w1 ⟨rfl, hS, hK, _⟩
    have HS := hide hS
    clear hS
    simp only [Option.isSome_none]
    go_wp2
    go_end0
    exact ⟨rfl, HS.out, hK⟩
  | some l =>
    rw [hfs] at cF
    obtain ⟨rfl, hl, hW⟩ := fitS_some (x := [byt8 n]) hfs
    rw [hW]
    clear hW hfs
    obtain ⟨v, hV⟩ := h
    have HV := hide hV
    have c0 := hV.c0
    have f0 := hV.f0
    have hown := hV.own
    have hsz := hV.sz
    obtain ⟨q, cap, rfl⟩ := own_slice hown
    clear hV
    have hw8 := u8_wrap n
    go_enter Tryz.func113, Tryz.ntmps113
    go_wp2_with fail
    refine (unhide cF).mono ?_
    rintro e w1 ⟨rfl, _, _, hE⟩
    obtain rfl := hE rfl
    simp only [Option.isSome_some]
    have hA : Below w1.heap.size w1 (w1.alloc (.cells #[.int .u8 ((byt8 n).toNat : Int)] 5)) := (Below.refl _ _).alloc (Nat.le_refl _) _
    have HA := hide hA
    clear hA
    go_wp2_with (first
      | (at_builtin; refine wpList_append_own_at _ rfl _ _ 45 rfl C 5 i0 (.int .u8 0) 1 1 Tryz.underlying45 hi hz0 hz1 hz2 rfl (by decide) _ _ _ rfl (hown.alloc _) ⟨w1.heap.size, 0, none⟩ 1 1 [.int .u8 ((byt8 n).toNat : Int)] rfl rfl ?c1 ?c2 ?c3 ?c4 ?c5 ?_))
    case c2 => rfl
    case c3 => unfold maxLen; omega
    case c4 => omega
    case c5 => omega
    intro v' w2 hown' hgrow _ hat
    have hown2 : w2.ownsRow C 5 1 v' (l ++ [byt8 n]).length (u8s (l ++ [byt8 n])) := by rw [u8s_append, List.length_append]; exact hown'
    have hat2 : v'.ownBlock = (Value.slice q l.length cap).ownBlock ∨ v'.ownBlock = some (w1.alloc (.cells #[.int .u8 ((byt8 n).toNat : Int)] 5)).heap.size := by simpa using hat
    have HP := hide (HV.out.put HA.out hgrow hown2 hat2 (by simpa using hl))
    obtain ⟨k0, _, g0, _⟩ := HV.out.mid HA.out hgrow
    obtain ⟨q', cap', rfl⟩ := own_slice hown'
    clear hown' hgrow hat hown2 hat2 c0 f0
    go_wp2
    go_end0
    exact ⟨rfl, ⟨_, HP.out.1⟩, HP.out.2⟩

theorem strC (s : ByteArray) : Lib.strCells s = u8s s.data.toList := by unfold Lib.strCells u8s; simp
set_option maxHeartbeats 800000 in
theorem bytes_any (bw C : Nat) (s : ByteArray) (w : World) (st : Option (List UInt8)) (h : Ws bw C w st) :
    Calls Tryz.prog 149 #[.pointer (some ⟨bw, 0, none⟩), .string s] w fun e w' => e = .returned (.tuple #[]) ∧ Ws bw C w' (wr s.data.toList st) ∧ Kp bw w w' := by
  have hsl : s.data.toList.length = s.size := (Lib.size_eq s).symm
  have cF := hide (fits_any bw C s.size w st h)
  obtain ⟨i0, hi, hz0, hz1, hz2⟩ := info_parts infoB
  cases hfs : fitS s.size st with
  | none =>
    rw [hfs] at cF
    have hW : wr s.data.toList st = none := fitS_none (by rw [hsl]; exact hfs)
    rw [hW]
    clear h hfs hW hsl
    go_enter Tryz.func149, Tryz.ntmps149
    go_wp2_with fail
    refine (unhide cF).mono ?_
    rintro e w1 ⟨rfl, hS, hK, _⟩
    have HS := hide hS
    clear hS
    simp only [Option.isSome_none]
    go_wp2
    go_end0
    exact ⟨rfl, HS.out, hK⟩
  | some l =>
    rw [hfs] at cF
    obtain ⟨rfl, hl, hW⟩ := fitS_some (x := s.data.toList) (by rw [hsl]; exact hfs)
    rw [hW]
    clear hW hfs
    obtain ⟨v, hV⟩ := h
    have HV := hide hV
    have c0 := hV.c0
    have f0 := hV.f0
    have hown := hV.own
    have hsz := hV.sz
    obtain ⟨q, cap, rfl⟩ := own_slice hown
    rw [hsl] at hl
    have HSL := hide hsl
    clear hV hsl
    go_enter Tryz.func149, Tryz.ntmps149
    go_wp2_with fail
    refine (unhide cF).mono ?_
    rintro e w1 ⟨rfl, _, _, hE⟩
    obtain rfl := hE rfl
    simp only [Option.isSome_some]
    go_wp2_with (first
      | (at_builtin; refine wpList_append_at_string _ rfl _ _ 45 9 rfl C 5 i0 Tryz.underlying45 Tryz.underlying9 hi hz0 hz1 hz2 _ _ _ rfl hown s rfl ?c3 ?c4 ?c5 ?_))
    case c3 => unfold maxLen; omega
    case c4 => omega
    intro v' w2 hown' hgrow hat
    have hown2 : w2.ownsRow C 5 1 v' (l ++ s.data.toList).length (u8s (l ++ s.data.toList)) := by rw [u8s_append, List.length_append, HSL.out, ← strC]; exact hown'
    have HP := hide (HV.out.put (Below.refl _ _) hgrow hown2 hat (by rw [List.length_append, HSL.out]; exact hl))
    obtain ⟨k0, _, g0, _⟩ := HV.out.mid (Below.refl _ _) hgrow
    obtain ⟨q', cap', rfl⟩ := own_slice hown'
    clear hown' hgrow hat hown2 c0 f0
    go_wp2
    go_end0
    exact ⟨rfl, ⟨_, HP.out.1⟩, HP.out.2⟩

set_option maxHeartbeats 800000 in
theorem number_any (bw C : Nat) (n : Int) (w : World) (st : Option (List UInt8)) (h : Ws bw C w st) :
    Calls Tryz.prog 116 #[.pointer (some ⟨bw, 0, none⟩), .int .i64 n] w fun e w' => e = .returned (.tuple #[]) ∧ Ws bw C w' (wr (twoW n) st) ∧ Kp bw w w' := by
  have e2 : wr (twoW n) st = wr [byt8 n] (wr [byt8 (n / 256)] st) := by rw [wr_wr]; rfl
  have c1 := hide (octet_any bw C (n / 256) w st h)
  have c2 := hide fun w h => octet_any bw C n w (wr [byt8 (n / 256)] st) h
  rw [e2]
  clear h e2
  generalize wr [byt8 (n / 256)] st = st1 at *
  go_enter Tryz.func116, Tryz.ntmps116
  go_wp2_with fail
  refine (unhide c1).mono ?_
  rintro e w1 ⟨rfl, hS, hK⟩
  have HS := hide hS
  have HK := hide hK
  clear hS hK
  go_wp2_with fail
  refine (unhide c2 _ HS.out).mono ?_
  rintro e w2 ⟨rfl, hS, hK⟩
  have HS2 := hide hS
  have HK2 := hide hK
  clear hS hK
  go_wp2
  go_end0
  exact ⟨rfl, HS2.out, HK.out.trans HK2.out⟩

set_option maxHeartbeats 800000 in
theorem text_any (bw C : Nat) (s : ByteArray) (w : World) (st : Option (List UInt8)) (h : Ws bw C w st) :
    Calls Tryz.prog 147 #[.pointer (some ⟨bw, 0, none⟩), .string s] w fun e w' => e = .returned (.tuple #[]) ∧ Ws bw C w' (wr (txtW s.data.toList) st) ∧ Kp bw w w' := by
  have hsl : s.data.toList.length = s.size := (Lib.size_eq s).symm
  have e2 : wr (txtW s.data.toList) st = wr s.data.toList (wr (twoW s.size) st) := by rw [wr_wr]; unfold txtW; rw [hsl]
  have c1 := hide (number_any bw C s.size w st h)
  have c2 := hide fun w h => bytes_any bw C s w (wr (twoW s.size) st) h
  rw [e2]
  clear h e2 hsl
  generalize wr (twoW s.size) st = st1 at *
  go_enter Tryz.func147, Tryz.ntmps147
  go_wp2_with fail
  refine (unhide c1).mono ?_
  rintro e w1 ⟨rfl, hS, hK⟩
  have HS := hide hS
  have HK := hide hK
  clear hS hK
  go_wp2_with fail
  refine (unhide c2 _ HS.out).mono ?_
  rintro e w2 ⟨rfl, hS, hK⟩
  have HS2 := hide hS
  have HK2 := hide hK
  clear hS hK
  go_wp2
  go_end0
  exact ⟨rfl, HS2.out, HK.out.trans HK2.out⟩

set_option maxHeartbeats 400000 in
theorem bit_any (b : Bool) (n : Int) (w : World) : Calls Tryz.prog 114 #[.bool b, .int .i64 n] w fun e w' => e = .returned (.int .i64 (bitI b n)) ∧ w' = w := by
  unfold bitI
  cases b
  · go_enter Tryz.func114, Tryz.ntmps114
    go_wp2
    go_ret
    exact ⟨rfl, rfl⟩
  · go_enter Tryz.func114, Tryz.ntmps114
    go_wp2
    go_ret
    exact ⟨rfl, rfl⟩
end Go.Proofs.YtnmfmoimjkoieaaGreatDoor.ew
