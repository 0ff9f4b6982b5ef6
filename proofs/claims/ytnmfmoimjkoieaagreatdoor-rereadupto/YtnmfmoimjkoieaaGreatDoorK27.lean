import Derived.Test.YtnmfmoimjkoieaaGreatDoorK23
import Derived.Test.YtnmfmoimjkoieaaGreatDoorJ15
import Derived.Test.YtnmfmoimjkoieaaGreatDoorK24
import Derived.Test.YtnmfmoimjkoieaaGreatDoorK22
import Derived.Test.YtnmfmoimjkoieaaGreatDoorK09
/- takes, whole: each of what came out is decoded and kept at its connection. -/
namespace Go.Proofs.YtnmfmoimjkoieaaGreatDoor.br
open Go.RowKit Go.Proofs.YtnmfmoimjkoieaaGreatDoor.topPlain Go.Proofs.YtnmfmoimjkoieaaGreatDoor.topWalks Go.Proofs.YtnmfmoimjkoieaaGreatDoor.decPlain Go.Proofs.YtnmfmoimjkoieaaGreatDoor.rd Go.Proofs.YtnmfmoimjkoieaaGreatDoor.ew Go.Proofs.YtnmfmoimjkoieaaGreatDoor.encPlain Go.Proofs.YtnmfmoimjkoieaaGreatDoor.rf

/-- what a packet reads as -/
abbrev Dec := Pkt × List (List UInt8 × Int) × List Int
/-- a packet that was heard, in a row of one -/
def GotP (N : Nat) (w : World) (v : Value) (r : Dec) : Prop :=
  ∃ fv cv, w.ownsRow N 36 15 v 1 (pkK { r.1 with fv := fv, cv := cv }).toList ∧ w.ownsRow N 95 2 fv r.2.1.length (filC r.2.1) ∧ w.ownsRow N 3 1 cv r.2.2.length (ints r.2.2)
theorem own_past {w w' : World} {C lb : Nat} {e : TypeId} {sz : Nat} {v : Value} {n : Nat} {xs : List Value} (h : w.ownsRow C e sz v n xs) (hlb : lb < C) (hb : But (fun b => b = lb) w w') : w'.ownsRow C e sz v n xs :=
  own_but h hb (fun b hx f => by have := (own_zero h).2 b hx; omega)
theorem own_lower {w : World} {C C' : Nat} {e : TypeId} {sz : Nat} {v : Value} {n : Nat} {xs : List Value} (h : w.ownsRow C e sz v n xs) (hl : C' ≤ C) : w.ownsRow C' e sz v n xs := by
  refine ⟨h.1, ?_⟩
  rcases h.2 with h1 | ⟨g, cap, cur, e1, h2, h3⟩
  · exact Or.inl h1
  · exact Or.inr ⟨g, cap, cur, e1, Nat.le_trans hl h2, h3⟩
theorem GotP.past {N lb : Nat} {w w' : World} {v : Value} {r : Dec} (h : GotP N w v r) (hlb : lb < N) (hb : But (fun b => b = lb) w w') : GotP N w' v r := by
  obtain ⟨fv, cv, h1, h2, h3⟩ := h
  exact ⟨fv, cv, own_past h1 hlb hb, own_past h2 hlb hb, own_past h3 hlb hb⟩
theorem below_drew (N : Nat) (w : World) : Below N w w.drew := ⟨rfl, rfl, rfl, Nat.le_refl _, fun _ _ => rfl⟩
theorem OutsAt.but {F : Nat → Prop} {w w' : World} {v : Value} {L : List (OutS × Value)} (h : OutsAt w v L) (hb : But F w w') (h1 : ∀ b, v.ownBlock = some b → ¬ F b) (h2 : ∀ o b, o ∈ L → o.2.ownBlock = some b → ¬ F b) : OutsAt w' v L :=
  ⟨own_but h.row hb h1, fun o ho => own_but (h.dat o ho) hb (fun b => h2 o b ho)⟩
/-- behind the first i of what came out -/
structure Took (lb : Nat) (V : LineV) (L : List (OutS × Value)) (R : Nat → Dec) (w : World) (i : Nat) (w' : World) : Prop where
  but : But (fun b => b = lb) w w'
  line : ∃ V', LineAt w' lb V' ∧ V'.b = V.b ∧ V'.bad = false ∧ V'.off = V.off ∧ (∀ n : Nat, (∀ j o, j < i → L[j]? = some o → o.1.conn ≠ (n : Int)) → V'.got n = V.got n) ∧ ∀ j o, j < i → L[j]? = some o → ∃ n : Nat, o.1.conn = (n : Int) ∧ GotP w.heap.size w' (V'.got n) (R j)
theorem takes_all {N0 : Nat} {ash aw : Addr} (lb : Nat) (ov : Value) (L : List (OutS × Value)) (V : LineV) (R : Nat → Dec) (w : World) (hG : Gd N0 ash aw w) (hlb : N0 ≤ lb) (hO : OutsAt w ov L) (h : LineAt w lb V) (hbad : V.bad = false)
    (hL : ∀ (j : Nat) o, L[j]? = some o → o.1.closed = false ∧ decL o.1.data = .inr (R j, o.1.data.length) ∧ 0 < o.1.data.length ∧ o.1.data.length ≤ 1000000 ∧ ∃ n : Nat, n < 2 ∧ o.1.conn = (n : Int) ∧ V.got n = .slice none 0 0 ∧ V.off n = false)
    (hd : ∀ (i j : Nat) (o o' : OutS × Value), L[i]? = some o → L[j]? = some o' → o.1.conn = o'.1.conn → i = j) :
    Calls Tryz.prog 65 #[.pointer (some ⟨lb, 0, none⟩), ov, .int .i64 0] w fun e w' => e = .returned (.tuple #[]) ∧ Took lb V L R w L.length w' := by
  have hblk : w.heap[lb]? = some (.cells (lineC V) 60) := h
  have hlt := blk_lt hblk
  have hn1 : ∀ b, ov.ownBlock = some b → ¬ b = lb := fun b hb e => by
    subst e; obtain ⟨cur, hc⟩ := own_blk hO.row hb; rw [hblk] at hc; simp at hc
  have hn2 : ∀ (o : OutS × Value) b, o ∈ L → o.2.ownBlock = some b → ¬ b = lb := fun o b ho hb e => by
    subst e; obtain ⟨cur, hc⟩ := own_blk (hO.dat o ho) hb; rw [hblk] at hc; simp at hc
  refine takes_any lb ov L V w (Took lb V L R w) (fun i P w'' => ∃ w' fv cv, Took lb V L R w i w' ∧ Below w'.heap.size w' w'' ∧ P = { (R i).1 with fv := fv, cv := cv } ∧ w''.ownsRow w'.heap.size 95 2 fv (R i).2.1.length (filC (R i).2.1) ∧ w''.ownsRow w'.heap.size 3 1 cv (R i).2.2.length (ints (R i).2.2)) hO h hbad ?_ ?_ ?_ ?_
  · refine ⟨But.set _ _ _ rfl, { V with bad := false }, ?_, rfl, rfl, rfl, fun _ _ => rfl, fun j o hj => by omega⟩
    show (w.setCell ⟨lb, 17, none⟩ (.bool false)).heap[lb]? = _
    rw [blk_set _ hblk]
    rfl
  · rintro i w' o hT ho
    obtain ⟨_, h2, h3, h4, n, hn, h5, h6, h7⟩ := hL i o ho
    have hGw : Gd N0 ash aw w'.drew := (hG.below (hT.but.below (fun b e => by subst e; exact hlb) hG.env.size)).below (below_drew _ _)
    have hmem : o ∈ L := List.mem_of_getElem? ho
    have hdat : w'.drew.ownsRow 0 5 1 o.2 o.1.data.length (u8s o.1.data) := own_keep (own_but (hO.dat o hmem) hT.but (fun b hb => hn2 o b hmem hb)) (fun _ _ => rfl)
    obtain ⟨q, kap, hq⟩ := own_form hdat
    rw [hq] at hdat
    obtain ⟨g, rfl, _⟩ := own_at hdat h3
    rw [hq]
    refine (cDecode_any ash aw w'.drew o.1.data _ (by omega) (Or.inr (bytesV_own hdat)) hGw.errs hGw.env').mono ?_
    rintro e w'' ⟨hB, hR⟩
    rw [h2] at hR
    obtain ⟨fv, cv, rfl, hf, hc⟩ := hR
    have hB' : Below w'.heap.size w' w'' := ⟨hB.os, hB.tape, hB.output, hB.size, hB.block⟩
    obtain ⟨a1, a2, rfl⟩ := own_form hf
    obtain ⟨c1, c2, rfl⟩ := own_form hc
    exact ⟨_, a1, _, a2, c1, _, c2, rfl, rfl, rfl, hB', w', _, _, hT, hB', rfl, hf, hc⟩
  · rintro i o n P w1 w8 v' ho hcn ⟨w', fv, cv, hT, hB, rfl, hf, hc⟩ hB8 hv
    obtain ⟨_, _, _, _, n', hn', h5, h6, h7⟩ := hL i o ho
    have hnn : n = n' := by have := hcn.symm.trans h5; omega
    subst hnn
    have hB18 : Below w'.heap.size w' w8 := hB.trans (hB8.mono hB.size)
    obtain ⟨V', l1, l2, l3, l4, l5, l6⟩ := hT.line
    have hl8 : w8.heap[lb]? = some (.cells (lineC V') 60) := (hB18.block _ (blk_lt l1)).trans l1
    have hsz := hT.but.size
    have hsz1 := hB.size
    have hS : But (fun b => b = lb) w8 (w8.setCell ⟨lb, 1 + n, none⟩ v') := But.set _ _ _ rfl
    have hW : But (fun b => b = lb) w' (w8.setCell ⟨lb, 1 + n, none⟩ v') := (But.of_below hB18).trans hS (fun _ _ f => f)
    refine ⟨hT.but.trans hW (fun _ _ f => f), V'.setGot n v', ?_, l2, l3, l4, ?_, ?_⟩
    · show (w8.setCell ⟨lb, 1 + n, none⟩ v').heap[lb]? = _
      rw [blk_set _ hl8, lineC_setGot V' (by omega)]
    · intro m hm
      have hne : m ≠ n := by rintro rfl; exact hm i o (Nat.lt_succ_self i) ho hcn
      show (if m = n then v' else V'.got m) = _
      rw [if_neg hne]
      exact l5 m (fun j o' hj ho' => hm j o' (by omega) ho')
    · intro j o' hj ho'
      rcases (show j < i ∨ j = i by omega) with hji | rfl
      · obtain ⟨m, hm, hg⟩ := l6 j o' hji ho'
        have hne : m ≠ n := by rintro rfl; have := hd j i o' o ho' ho (hm.trans hcn.symm); omega
        refine ⟨m, hm, ?_⟩
        show GotP w.heap.size (w8.setCell ⟨lb, 1 + n, none⟩ v') (if m = n then v' else V'.got m) (R j)
        rw [if_neg hne]
        exact hg.past hlt hW
      · refine ⟨n, by rw [Option.some.inj (ho'.symm.trans ho)]; exact hcn, ?_⟩
        show GotP w.heap.size (w8.setCell ⟨lb, 1 + n, none⟩ v') (if n = n then v' else V'.got n) (R j)
        rw [if_pos rfl]
        exact ⟨fv, cv, own_past (own_lower hv (by omega)) hlt hS, own_past (own_lower (own_keep hf (fun b hb => by obtain ⟨cur, hcu⟩ := own_blk hf hb; exact hB8.block b (blk_lt hcu))) (by omega)) hlt hS, own_past (own_lower (own_keep hc (fun b hb => by obtain ⟨cur, hcu⟩ := own_blk hc hb; exact hB8.block b (blk_lt hcu))) (by omega)) hlt hS⟩
  · rintro i w' o hT ho
    obtain ⟨h1, _, h3, _, n, hn, h5, h6, h7⟩ := hL i o ho
    obtain ⟨V', l1, l2, l3, l4, l5, l6⟩ := hT.line
    have hmem : o ∈ L := List.mem_of_getElem? ho
    have hdat := hO.dat o hmem
    obtain ⟨q, kap, hq⟩ := own_form hdat
    rw [hq] at hdat
    obtain ⟨g, rfl, _⟩ := own_at hdat h3
    exact ⟨n, V', l1, hO.but hT.but hn1 hn2, h5, hn, h1, by rw [l4]; exact h7, (l5 n (fun j o' hj ho' e => by have := hd j i o' o ho' ho (e.trans h5.symm); omega)).trans h6, ⟨_, _, hq⟩, h3⟩
end Go.Proofs.YtnmfmoimjkoieaaGreatDoor.br

/- The hall: the caller's line, the broker, a side that is connected; what stays. -/
namespace Go.Proofs.YtnmfmoimjkoieaaGreatDoor.br
open Go.RowKit Go.Proofs.YtnmfmoimjkoieaaGreatDoor.topPlain Go.Proofs.YtnmfmoimjkoieaaGreatDoor.topWalks Go.Proofs.YtnmfmoimjkoieaaGreatDoor.decPlain Go.Proofs.YtnmfmoimjkoieaaGreatDoor.rd Go.Proofs.YtnmfmoimjkoieaaGreatDoor.ew Go.Proofs.YtnmfmoimjkoieaaGreatDoor.encPlain Go.Proofs.YtnmfmoimjkoieaaGreatDoor.rf

theorem ConAt.not {w : World} {B : Nat} {n : Int} {V : ConV} {C : Con} (h : ConAt w B n V C) {b : Nat} {c : Array Value} {t : TypeId} (hb : w.heap[b]? = some (.cells c t)) (ht : t ≠ 137 ∧ t ≠ 5 ∧ t ≠ 55 ∧ t ≠ 124) : ¬ V.has b := by
  rintro (rfl | hw | rfl | rfl | rfl | rfl)
  · have := h.blk; rw [hb] at this; simp at this; exact ht.1 this.2
  · obtain ⟨cur, hc⟩ := own_blk h.wai hw; rw [hb] at hc; simp at hc; exact ht.2.1 hc.2
  · have := h.b1.bx; rw [hb] at this; simp at this; exact ht.2.2.1 this.2
  · have := h.b1.by_; rw [hb] at this; simp at this; exact ht.2.2.2 this.2
  · have := h.b2.bx; rw [hb] at this; simp at this; exact ht.2.2.1 this.2
  · have := h.b2.by_; rw [hb] at this; simp at this; exact ht.2.2.2 this.2
theorem ConAt.notMap {w : World} {B : Nat} {n : Int} {V : ConV} {C : Con} (h : ConAt w B n V C) {b : Nat} {es : _} {k : Nat} (hb : w.heap[b]? = some (.map es k)) : ¬ V.has b := by
  rintro (rfl | hw | rfl | rfl | rfl | rfl)
  · have := h.blk; rw [hb] at this; simp at this
  · obtain ⟨cur, hc⟩ := own_blk h.wai hw; rw [hb] at hc; simp at hc
  · have := h.b1.bx; rw [hb] at this; simp at this
  · have := h.b1.by_; rw [hb] at this; simp at this
  · have := h.b2.bx; rw [hb] at this; simp at this
  · have := h.b2.by_; rw [hb] at this; simp at this
theorem SesAt.not {w : World} {sb : Nat} {V : SesV} {S : Ses} (k : SesAt w sb V S) {b : Nat} {c : Array Value} {t : TypeId} (hb : w.heap[b]? = some (.cells c t)) (ht : t ≠ 188 ∧ t ≠ 95 ∧ t ≠ 252) : ¬ V.has sb b := by
  rintro (rfl | hh | rfl | rfl | hh)
  · have := k.blk; rw [hb] at this; simp at this; exact ht.1 this.2
  · obtain ⟨cur, hc⟩ := own_blk k.fil hh; rw [hb] at hc; simp at hc; exact ht.2.1 hc.2
  · obtain ⟨D, ⟨es, clock, hk, _⟩, _⟩ := k.kno; rw [hb] at hk; simp at hk
  · obtain ⟨s, r, hk⟩ := k.chn; rw [hb] at hk; simp at hk
  · obtain ⟨cur, hc⟩ := own_blk k.und hh; rw [hb] at hc; simp at hc; exact ht.2.2 hc.2
theorem SesAt.notMap {w : World} {sb : Nat} {V : SesV} {S : Ses} (k : SesAt w sb V S) {b : Nat} {es : _} {n : Nat} (hb : w.heap[b]? = some (.map es n)) (hne : b ≠ V.kb) : ¬ V.has sb b := by
  rintro (rfl | hh | rfl | rfl | hh)
  · have := k.blk; rw [hb] at this; simp at this
  · obtain ⟨cur, hc⟩ := own_blk k.fil hh; rw [hb] at hc; simp at hc
  · exact hne rfl
  · obtain ⟨s, r, hk⟩ := k.chn; rw [hb] at hk; simp at hk
  · obtain ⟨cur, hc⟩ := own_blk k.und hh; rw [hb] at hc; simp at hc
/-- a block that is neither the broker's nor of what came out -/
theorem BlkAt.not {w : World} {B : Nat} {BV : BrV} {ov : Value} {L : List (OutS × Value)} (h : BlkAt w B BV ov L) {b : Nat} {c : Array Value} {t : TypeId} (hb : w.heap[b]? = some (.cells c t)) (ht : t ≠ 131 ∧ t ≠ 66 ∧ t ≠ 5) : ¬ OutHas B ov b ∧ ∀ o, o ∈ L → o.2.ownBlock ≠ some b := by
  refine ⟨?_, fun o ho e => ?_⟩
  · rintro (rfl | hh)
    · have := h.blk; rw [hb] at this; simp at this; exact ht.1 this.2
    · obtain ⟨cur, hc⟩ := own_blk h.out.row hh; rw [hb] at hc; simp at hc; exact ht.2.1 hc.2
  · obtain ⟨cur, hc⟩ := own_blk (h.out.dat o ho) e; rw [hb] at hc; simp at hc; exact ht.2.2 hc.2
theorem conC_wv (n : Int) (V : ConV) (C : Con) (v : Value) : (conC n V C).setIfInBounds 1 v = conC n { V with wv := v } C := by
  obtain ⟨wt, hd, hl⟩ := C
  cases hl <;> kernel_rfl
/-- what waits at a connection is cleared -/
theorem ConAt.cleared {w : World} {B N : Nat} {n : Int} {V : ConV} {C : Con} {v : Value} (h : ConAt w B n V C) (hC : C.waiting = []) (hv : w.ownsRow N 5 1 v 0 []) : ConAt (w.setCell ⟨V.cb, 1, none⟩ v) B n { V with wv := v } C := by
  have hk : ∀ b, b ≠ V.cb → (w.setCell ⟨V.cb, 1, none⟩ v).heap[b]? = w.heap[b]? := fun b hb => Below.heap_setCell _ _ _ _ (fun e => hb e)
  have hbox : ∀ {b : Nat} {c : Array Value} {t : TypeId}, w.heap[b]? = some (.cells c t) → t ≠ 137 → (w.setCell ⟨V.cb, 1, none⟩ v).heap[b]? = w.heap[b]? := fun hb ht => hk _ (fun e => by subst e; have := h.blk; rw [hb] at this; simp at this; exact ht this.2)
  refine ⟨by rw [← conC_wv]; exact blk_set _ h.blk, ?_, h.b1.keep (hbox h.b1.bx (by decide)) (hbox h.b1.by_ (by decide)), h.b2.keep (hbox h.b2.bx (by decide)) (hbox h.b2.by_ (by decide))⟩
  rw [hC]
  exact own_keep (own_lower hv (Nat.zero_le _)) (fun b hb => by obtain ⟨cur, hc⟩ := own_blk hv hb; exact hbox hc (by decide))
theorem Sink.cleared {w : World} {B cb x y : Nat} {n : Int} (h : Sink w B cb x y n) (v : Value) : Sink (w.setCell ⟨cb, 1, none⟩ v) B cb x y n := by
  obtain ⟨cc, h1, h2⟩ := h.num
  have hk : ∀ b, b ≠ cb → (w.setCell ⟨cb, 1, none⟩ v).heap[b]? = w.heap[b]? := fun b hb => Below.heap_setCell _ _ _ _ (fun e => hb e)
  refine ⟨(hk _ (fun e => ?_)).trans h.bx, (hk _ (fun e => ?_)).trans h.by_, _, blk_set _ h1, by simpa using h2⟩
  · subst e; have := h.bx; rw [h1] at this; simp at this
  · subst e; have := h.by_; rw [h1] at this; simp at this
/-- where a connected side's parts lie -/
structure SideV where
  cv : ConV
  sv : SesV
  x : Nat
  y : Nat
/-- a connection that is connected, and its session -/
structure Side (w : World) (B k : Nat) (X : SideV) (p : Pkt) (S : Ses) : Prop where
  con : ConAt w B (k : Int) X.cv ⟨[], 0, some p⟩
  wv : ∃ q, X.cv.wv = .slice q 0 0
  ses : SesAt w X.cv.sp X.sv S
  snd : X.sv.snd = some (X.x, X.y)
  snk : Sink w B X.cv.cb X.x X.y (k : Int)
def SideV.has (X : SideV) (b : Nat) : Prop := X.cv.has b ∨ X.sv.has X.cv.sp b ∨ b = X.x ∨ b = X.y
theorem Side.keep {w w' : World} {B k : Nat} {X : SideV} {p : Pkt} {S : Ses} (h : Side w B k X p S) (hk : ∀ b, X.has b → w'.heap[b]? = w.heap[b]?) : Side w' B k X p S :=
  ⟨h.con.keep (fun b hb => hk b (Or.inl hb)), h.wv, h.ses.keep (fun b hb => hk b (Or.inr (Or.inl hb))), h.snd, h.snk.keep (hk _ (Or.inr (Or.inr (Or.inl rfl)))) (hk _ (Or.inr (Or.inr (Or.inr rfl)))) (hk _ (Or.inl (Or.inl rfl)))⟩
theorem Side.lt {w : World} {B k : Nat} {X : SideV} {p : Pkt} {S : Ses} (h : Side w B k X p S) {b : Nat} (hb : X.has b) : b < w.heap.size := by
  rcases hb with hb | hb | rfl | rfl
  · exact h.con.lt hb
  · exact h.ses.lt hb
  · exact blk_lt h.snk.bx
  · exact blk_lt h.snk.by_
theorem Side.below {w w' : World} {B k : Nat} {X : SideV} {p : Pkt} {S : Ses} (h : Side w B k X p S) (hb : Below w.heap.size w w') : Side w' B k X p S := h.keep (fun b hx => hb.block b (h.lt hx))
theorem Side.but {F : Nat → Prop} {w w' : World} {B k : Nat} {X : SideV} {p : Pkt} {S : Ses} (h : Side w B k X p S) (hb : But F w w') (hn : ∀ b, X.has b → ¬ F b) : Side w' B k X p S := h.keep (fun b hx => hb.keep b (h.lt hx) (hn b hx))
theorem Side.not {w : World} {B k : Nat} {X : SideV} {p : Pkt} {S : Ses} (h : Side w B k X p S) {b : Nat} {c : Array Value} {t : TypeId} (hb : w.heap[b]? = some (.cells c t)) (h1 : t ≠ 137 ∧ t ≠ 5 ∧ t ≠ 55 ∧ t ≠ 124) (h2 : t ≠ 188 ∧ t ≠ 95 ∧ t ≠ 252) : ¬ X.has b := by
  rintro (hh | hh | rfl | rfl)
  · exact h.con.not hb h1 hh
  · exact h.ses.not hb h2 hh
  · have := h.snk.bx; rw [hb] at this; simp at this; exact h1.2.2.1 this.2
  · have := h.snk.by_; rw [hb] at this; simp at this; exact h1.2.2.2 this.2
theorem Side.notMap {w : World} {B k : Nat} {X : SideV} {p : Pkt} {S : Ses} (h : Side w B k X p S) {b : Nat} {es : _} {n : Nat} (hb : w.heap[b]? = some (.map es n)) (hne : b ≠ X.sv.kb) : ¬ X.has b := by
  rintro (hh | hh | rfl | rfl)
  · exact h.con.notMap hb hh
  · exact h.ses.notMap hb hne hh
  · have := h.snk.bx; rw [hb] at this; simp at this
  · have := h.snk.by_; rw [hb] at this; simp at this
/-- the broker and its sessions -/
structure Room (N0 : Nat) (ash aw : Addr) (w : World) (B : Nat) (BV : BrV) (m : Nat) (D : DataW Unit) : Prop where
  gd : Gd N0 ash aw w
  blk : BlkAt w B BV (.slice none 0 0) []
  B0 : N0 ≤ B
  mb0 : N0 ≤ BV.mb
  clk : BV.clk = 0
  win : BV.win = 1
  que : BV.que = 1
  rv : BV.rv = .slice none 0 0
  map : w.ownsMap Tryz.prog 9 ptrElem BV.mb m D
/-- the line; what was heard is looked at, but at the connections of G -/
structure LineOf (N0 : Nat) (w : World) (lb B : Nat) (V : LineV) (G : Nat → Prop) : Prop where
  line : LineAt w lb V
  lb0 : N0 ≤ lb
  b : V.b = B
  bad : V.bad = false
  off : ∀ n, V.off n = false
  got : ∀ n, ¬ G n → V.got n = .slice none 0 0
theorem map_keep {w w' : World} {b m : Nat} {D : DataW Unit} {t : TypeId} {R : Value → Option (DataW Unit × List MemPlace)} (h : w.ownsMap Tryz.prog t R b m D) (hk : w'.heap[b]? = w.heap[b]?) : w'.ownsMap Tryz.prog t R b m D := by
  obtain ⟨es, cl, k1, k2⟩ := h; exact ⟨es, cl, hk.trans k1, k2⟩
theorem map_blk {w : World} {b m : Nat} {D : DataW Unit} {t : TypeId} {R : Value → Option (DataW Unit × List MemPlace)} (h : w.ownsMap Tryz.prog t R b m D) : ∃ es cl, w.heap[b]? = some (.map es cl) := by
  obtain ⟨es, cl, k1, k2⟩ := h; exact ⟨es, cl, k1⟩
theorem Room.but {N0 : Nat} {ash aw : Addr} {w w' : World} {B : Nat} {BV : BrV} {m : Nat} {D : DataW Unit} {F : Nat → Prop} (h : Room N0 ash aw w B BV m D) (hb : But F w w') (h1 : ¬ F B) (h2 : ¬ F BV.mb) (h3 : ∀ b, F b → N0 ≤ b) : Room N0 ash aw w' B BV m D :=
  ⟨h.gd.below (hb.below h3 h.gd.env.size), ⟨hb.blk h1 h.blk.blk, OutsAt.nil _⟩, h.B0, h.mb0, h.clk, h.win, h.que, h.rv, by obtain ⟨es, cl, hm⟩ := map_blk h.map; exact map_keep h.map (hb.keep _ (blk_lt hm) h2)⟩
theorem LineOf.but {N0 : Nat} {w w' : World} {lb B : Nat} {V : LineV} {G : Nat → Prop} {F : Nat → Prop} (h : LineOf N0 w lb B V G) (hb : But F w w') (hn : ¬ F lb) : LineOf N0 w' lb B V G := ⟨hb.blk hn h.line, h.lb0, h.b, h.bad, h.off, h.got⟩
/-- what was heard is looked at -/
theorem LineOf.seen {N0 : Nat} {w : World} {lb B : Nat} {V : LineV} {G : Nat → Prop} (h : LineOf N0 w lb B V G) (k : Nat) (hk : k < 8) : LineOf N0 (w.setCell ⟨lb, 1 + k, none⟩ (.slice none 0 0)) lb B (V.setGot k (.slice none 0 0)) (fun n => G n ∧ n ≠ k) := by
  have hb : w.heap[lb]? = some (.cells (lineC V) 60) := h.line
  refine ⟨?_, h.lb0, h.b, h.bad, h.off, fun n hn => ?_⟩
  · show (w.setCell ⟨lb, 1 + k, none⟩ (.slice none 0 0)).heap[lb]? = _
    rw [blk_set _ hb, lineC_setGot V hk]
  · show (if n = k then _ else V.got n) = _
    by_cases hnk : n = k
    · rw [if_pos hnk]
    · rw [if_neg hnk]; exact h.got n (fun g => hn ⟨g, hnk⟩)
theorem Room.lb_ne {N0 : Nat} {ash aw : Addr} {w : World} {lb B : Nat} {V : LineV} {BV : BrV} {m : Nat} {D : DataW Unit} (h : Room N0 ash aw w B BV m D) (hl : LineAt w lb V) : B ≠ lb ∧ BV.mb ≠ lb ∧ BV.mb ≠ B := by
  have hb : w.heap[lb]? = some (.cells (lineC V) 60) := hl
  obtain ⟨es, cl, hm⟩ := map_blk h.map
  refine ⟨fun e => ?_, fun e => ?_, fun e => ?_⟩
  · have := h.blk.blk; rw [e, hb] at this; simp at this
  · rw [e, hb] at hm; simp at hm
  · have := h.blk.blk; rw [← e, hm] at this; simp at this
/-- the line stays where the broker works -/
theorem line_but {F : Nat → Prop} {w w' : World} {lb : Nat} {V : LineV} (h : LineAt w lb V) (hb : But F w w') (hn : ¬ F lb) : LineAt w' lb V := hb.blk hn h

/-- sends: the packet is encoded, fed, and what comes out is taken -/
theorem send_all {N0 : Nat} {ash aw : Addr} (lb B k : Nat) (p : Pkt) (fs : List (List UInt8 × Int)) (cs : List Int) (l : List UInt8) (V : LineV) (R : Nat → Dec) (w : World) (FP : World → World → Value → List (OutS × Value) → Prop)
    (hG : Gd N0 ash aw w) (hlb : N0 ≤ lb) (h : LineAt w lb V) (hb : V.b = B) (hbad : V.bad = false) (hf : FilV w p.fv fs) (hc : IntV w p.cv cs) (hl : encL (fwW p) (cbW p) p fs cs = some l) (hl0 : 0 < l.length)
    (hF : ∀ w' g c, Below w.heap.size w w' → (∀ j x, l[j]? = some x → w'.cell? ⟨g, 0 + j, none⟩ = some (.int .u8 (x.toNat : Int))) → Calls Tryz.prog 24 #[.pointer (some ⟨B, 0, none⟩), .int .i64 (k : Int), .slice (some ⟨g, 0, none⟩) l.length c] w' fun e w'' => ∃ ov L, e = .returned (.tuple #[ov, .int .i64 0]) ∧ FP w' w'' ov L)
    (hFP : ∀ w' w'' ov L, Below w.heap.size w w' → FP w' w'' ov L → Gd N0 ash aw w'' ∧ LineAt w'' lb V ∧ OutsAt w'' ov L ∧ (∀ (j : Nat) o, L[j]? = some o → o.1.closed = false ∧ decL o.1.data = .inr (R j, o.1.data.length) ∧ 0 < o.1.data.length ∧ o.1.data.length ≤ 1000000 ∧ ∃ n : Nat, n < 2 ∧ o.1.conn = (n : Int) ∧ V.got n = .slice none 0 0 ∧ V.off n = false) ∧ ∀ (i j : Nat) (o o' : OutS × Value), L[i]? = some o → L[j]? = some o' → o.1.conn = o'.1.conn → i = j) :
    Calls Tryz.prog 50 #[.pointer (some ⟨lb, 0, none⟩), .int .i64 (k : Int), .agg (pkK p)] w fun e w' => e = .returned (.tuple #[]) ∧ ∃ w1 w2 ov L, Below w.heap.size w w1 ∧ FP w1 w2 ov L ∧ Took lb V L R w2 L.length w' := by
  have hblk : w.heap[lb]? = some (.cells (lineC V) 60) := h
  refine sends_any lb B (k : Int) p w (fun w' v => ∃ g c, v = .slice (some ⟨g, 0, none⟩) l.length c ∧ Below w.heap.size w w' ∧ w'.ownsRow 0 5 1 v l.length (u8s l)) (fun w'' ov => ∃ w1 L, Below w.heap.size w w1 ∧ FP w1 w'' ov L) _ ?_ ?_ ?_ ?_ ?_ ?_ ?_
  · obtain ⟨q, cap, e, _⟩ := hf; exact ⟨_, _, _, e⟩
  · obtain ⟨q, cap, e, _⟩ := hc; exact ⟨_, _, _, e⟩
  · intro w' hb'
    have hG' : Gd N0 ash aw w' := hG.below (hb'.mono hG.env.size)
    refine (cEncode_any ash aw p fs cs w' (filV_below hf hb') (intV_below hc hb') hG'.errs hG'.env').mono ?_
    rintro e w'' ⟨hB, hR⟩
    rw [hl] at hR
    obtain ⟨v, rfl, ho⟩ := hR
    obtain ⟨q, cap, rfl⟩ := own_form ho
    obtain ⟨g, rfl, _⟩ := own_at ho hl0
    exact ⟨_, _, _, rfl, g, cap, rfl, hb'.trans (hB.mono hb'.size), own_lower ho (Nat.zero_le _)⟩
  · rintro w' v ⟨g, c, rfl, hb', ho⟩
    rw [← hb]
    exact blk_cell ((hb'.block _ (blk_lt hblk)).trans hblk) rfl
  · rintro w' v ⟨g, c, rfl, hb', ho⟩
    exact ⟨g, c, rfl, hb'.trans (below_drew _ _), own_keep ho (fun _ _ => rfl)⟩
  · rintro w' q n c ⟨g, c', e, hb', ho⟩
    cases e
    refine (hF w' g c hb' ?_).mono ?_
    · intro j x hx
      obtain ⟨b, off, cap, e1, _, _, _, h5⟩ := bytesV_own ho
      cases e1
      exact h5 j x hx
    · rintro e w'' ⟨ov, L, rfl, hP⟩
      exact ⟨ov, rfl, w', L, hb', hP⟩
  · rintro w' ov ⟨w1, L, hb1, hP⟩
    obtain ⟨g1, g2, g3, g4, g5⟩ := hFP w1 w' ov L hb1 hP
    refine (takes_all lb ov L V R w' g1 hlb g3 g2 hbad g4 g5).mono ?_
    rintro e w'' ⟨rfl, hT⟩
    exact ⟨rfl, rfl, w1, w', ov, L, hb1, hP, hT⟩
end Go.Proofs.YtnmfmoimjkoieaaGreatDoor.br
