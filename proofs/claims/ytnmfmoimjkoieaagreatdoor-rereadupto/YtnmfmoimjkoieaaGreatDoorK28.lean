import Derived.Test.YtnmfmoimjkoieaaGreatDoorK27
import Derived.Test.YtnmfmoimjkoieaaGreatDoorK11
import Derived.Test.YtnmfmoimjkoieaaGreatDoorK25
import Derived.Test.YtnmfmoimjkoieaaGreatDoorK22
import Derived.Test.YtnmfmoimjkoieaaGreatDoorK12
/- Feed of a CONNECT: a new session, and CONNACK. -/
namespace Go.Proofs.YtnmfmoimjkoieaaGreatDoor.br
open Go.RowKit Go.Proofs.YtnmfmoimjkoieaaGreatDoor.topPlain Go.Proofs.YtnmfmoimjkoieaaGreatDoor.topWalks Go.Proofs.YtnmfmoimjkoieaaGreatDoor.decPlain Go.Proofs.YtnmfmoimjkoieaaGreatDoor.rd Go.Proofs.YtnmfmoimjkoieaaGreatDoor.ew Go.Proofs.YtnmfmoimjkoieaaGreatDoor.encPlain Go.Proofs.YtnmfmoimjkoieaaGreatDoor.rf

theorem ConO.but {F : Nat → Prop} {w w' : World} {B j : Nat} {V : BrV} {o : Option (ConV × Con)} (h : ConO w B V j o) (hb : But F w w') (hn : ∀ CVj Cj, o = some (CVj, Cj) → ∀ b, CVj.has b → ¬ F b) : ConO w' B V j o := by
  cases o with
  | none => exact h
  | some x => obtain ⟨CVj, Cj⟩ := x; exact ⟨h.1, h.2.but hb (hn _ _ rfl)⟩
theorem map_one {M : List (OutS × Value)} {o : OutS} (h : M.map Prod.fst = [o]) : ∃ dv, M = [(o, dv)] := by
  match M, h with
  | [(a, dv)], h => simp at h; subst h; exact ⟨dv, rfl⟩
  | [], h => simp at h
  | _ :: _ :: _, h => simp at h
/-- what a CONNECT leaves, but for what came out -/
def SideC (B k m que : Nat) (p : Pkt) (D : DataW Unit) (BV : BrV) (CV : ConV) (w w' : World) : Prop :=
  ∃ X fv cv, Side w' B k X { p with fv := fv, cv := cv } (newS BV.win que) ∧ X.cv.cb = CV.cb ∧ (∀ g, X.has g → g = CV.cb ∨ w.heap.size ≤ g) ∧ w'.ownsMap Tryz.prog 9 ptrElem BV.mb (m + 1) (D.put (.string p.client) (.lit (.int .i64 (X.cv.sp : Int)))) ∧ But (fun g => g = B ∨ g = BV.mb ∨ g = CV.cb) w w'
def FdC (B k m que : Nat) (p : Pkt) (d : List UInt8) (D : DataW Unit) (BV : BrV) (CV : ConV) (w w' : World) (ov : Value) (L : List (OutS × Value)) : Prop :=
  (∃ dv, L = [(⟨(k : Int), d, false⟩, dv)]) ∧ OutsAt w' ov L ∧ BlkAt w' B BV (.slice none 0 0) [] ∧ SideC B k m que p D BV CV w w'
theorem feed_conn {N0 : Nat} {ash aw : Addr} (B k m que : Nat) (p : Pkt) (l d : List UInt8) (D : DataW Unit) (BV : BrV) (CV : ConV) (cs : Nat → Option (ConV × Con)) (db dc : Nat) (w : World) (hG : Gd N0 ash aw w) (h : BlkAt w B BV (.slice none 0 0) []) (hc : ConAt w B (k : Int) CV ⟨[], 0, none⟩) (hWv : ∃ q, CV.wv = .slice q 0 0) (hk : k < 8) (hv : BV.cv k = .pointer (some ⟨CV.cb, 0, none⟩)) (hclk : BV.clk = 0) (hl0 : 0 < l.length) (hl : l.length ≤ 1000000)
    (hd : ∀ j x, l[j]? = some x → w.cell? ⟨db, 0 + j, none⟩ = some (.int .u8 (x.toNat : Int))) (hdec : decL l = .inr ((p, [], []), l.length)) (hkind : p.kind = 1) (hN0 : ∀ g, CV.has g → N0 ≤ g) (hNm : N0 ≤ BV.mb) (hNB : N0 ≤ B)
    (hcs : ∀ j, j < 8 → j ≠ k → ConO w B BV j (cs j) ∧ ∀ CVj Cj, cs j = some (CVj, Cj) → ¬ CVj.has CV.cb) (hn : ∀ j, j < 8 → j ≠ k → notFor p.client (cs j)) (hne : p.client ≠ [])
    (hM : w.ownsMap Tryz.prog 9 ptrElem BV.mb m D) (hD : Maps.has D (.string p.client) = false) (hm : Maps.size D < 8) (hm2 : m < 1000) (hcl : p.client.length ≤ 1000) (hq : BV.que = (que : Int)) (hq8 : que ≤ 8) (hdd : encD (ackS false 0) [] [] = d) :
    Calls Tryz.prog 24 #[.pointer (some ⟨B, 0, none⟩), .int .i64 (k : Int), .slice (some ⟨db, 0, none⟩) l.length dc] w fun e w' => ∃ ov L, e = .returned (.tuple #[ov, .int .i64 0]) ∧ FdC B k m que p d D BV CV w w' ov L := by
  obtain ⟨HP, hHP⟩ : ∃ HP : World → World → Prop, HP = fun w1 w2 => ∃ w0 sb V CV' x y f1 f2 f3 c1 c2 c3, But (fun g => g = BV.mb) w1 w0 ∧ w1.heap.size ≤ x ∧ w1.heap.size ≤ y ∧ CnPost w0 B (k : Int) d { p with fv := .slice f1 f2 f3, cv := .slice c1 c2 c3 } que m D BV (.slice none 0 0) [] CV ⟨[], 0, none⟩ w2 sb V CV' x y := ⟨_, rfl⟩
  have hcb0 : N0 ≤ CV.cb := hN0 _ (Or.inl rfl)
  have gd1 : ∀ w' w1 fv cv, Below w.heap.size w w' → ReadPre w' B k BV CV ⟨[], 0, none⟩ [] [] w1 fv cv → Gd N0 ash aw w1 := fun w' w1 fv cv hb hpre => by
    have hG' : Gd N0 ash aw w' := hG.below (hb.mono hG.env.size)
    exact hG'.below (hpre.but.below (fun b e => by subst e; exact hcb0) hG'.env.size)
  have hread : ∀ w', Below w.heap.size w w' → Calls Tryz.prog 59 #[.pointer (some ⟨B, 0, none⟩), .pointer (some ⟨CV.cb, 0, none⟩), .slice (some ⟨db, 0, none⟩) l.length dc] w' (ReadPost w' B k BV CV ⟨[], 0, none⟩ [] [] HP) := by
    intro w' hb
    refine read_conn (N0 := N0) (ash := ash) (aw := aw) B k BV CV ⟨[], 0, none⟩ p [] [] l db 0 dc w' HP (hG.below (hb.mono hG.env.size)) (h.below hb) (hc.below hb) rfl hWv rfl hk hv hl0 hl (fun j x hx => by have := hd j x hx; rw [hb.cell (cell_blt this)]; exact this) hdec hkind hN0 ?_ ?_
    · intro w1 fv cv hpre
      have hG1 := gd1 w' w1 fv cv hb hpre
      obtain ⟨f1, f3, rfl⟩ := own_form hpre.fil
      obtain ⟨c1, c3, rfl⟩ := own_form hpre.cod
      have hcon : ConAt w1 B (k : Int) CV ⟨[], 0, none⟩ := by have := hpre.con; rw [hclk] at this; exact this
      refine h_conn B CV.cb CV.x' CV.y' { p with fv := .slice f1 ([] : List (List UInt8 × Int)).length f3, cv := .slice c1 ([] : List Int).length c3 } w1 _ hcon.b2 ⟨_, _, _, rfl⟩ ⟨_, _, _, rfl⟩ ?_
      intro w1' hb1
      have hG1' : Gd N0 ash aw w1' := hG1.below (hb1.mono hG1.env.size)
      have hE : EncOK N0 w1' (ackS false 0) d := by rw [← hdd]; exact hG1'.enc _ rfl rfl
      have hcsw : ∀ j, j < 8 → ConO w1' B BV j ((fun j => if j = k then some (CV, (⟨[], 0, none⟩ : Con)) else cs j) j) := by
        intro j hj
        show ConO w1' B BV j (if j = k then some (CV, (⟨[], 0, none⟩ : Con)) else cs j)
        by_cases hjk : j = k
        · subst hjk; rw [if_pos rfl]; exact ⟨hv, hcon.below hb1⟩
        · rw [if_neg hjk]
          obtain ⟨h1, h2⟩ := hcs j hj hjk
          have s1 : ConO w' B BV j (cs j) := h1.but (But.of_below (F := fun _ => False) hb) (fun _ _ _ _ _ f => f)
          have s2 : ConO w1 B BV j (cs j) := s1.but hpre.but (fun CVj Cj e b hb' f => by subst f; exact h2 CVj Cj e hb')
          exact s2.but (But.of_below (F := fun _ => False) hb1) (fun _ _ _ _ _ f => f)
      have hnw : ∀ j, j < 8 → notFor p.client ((fun j => if j = k then some (CV, (⟨[], 0, none⟩ : Con)) else cs j) j) := by
        intro j hj
        show notFor p.client (if j = k then some (CV, (⟨[], 0, none⟩ : Con)) else cs j)
        by_cases hjk : j = k
        · rw [if_pos hjk]; intro q hq; cases hq
        · rw [if_neg hjk]; exact hn j hj hjk
      have hMw : w1'.ownsMap Tryz.prog 9 ptrElem BV.mb m D := by
        obtain ⟨es, cl, hmb⟩ := map_blk hM
        have hmb' := (hb.block _ (blk_lt hmb)).trans hmb
        have e2 : w1.heap[BV.mb]? = w'.heap[BV.mb]? := hpre.but.keep _ (blk_lt hmb') (fun e => by have := (hc.below hb).blk; rw [← e, hmb'] at this; simp at this)
        exact map_keep (map_keep (map_keep hM (hb.block _ (blk_lt hmb))) e2) (hb1.block _ (blk_lt (e2.trans hmb')))
      refine (conn_fresh (N0 := N0) B m (k : Int) que p f1 _ f3 c1 _ c3 d D BV (.slice none 0 0) [] CV ⟨[], 0, none⟩ (fun j => if j = k then some (CV, (⟨[], 0, none⟩ : Con)) else cs j) w1' hE (hpre.blk.below hb1) (hcon.below hb1) rfl hcsw hnw hne hMw hD hm hm2 hcl hq hq8 (by simp) ⟨hcb0, hNm⟩).mono ?_
      rintro e w2 ⟨rfl, w0, sb, V, CV', x, y, hb0, hx, hy, hpost⟩
      refine ⟨rfl, rfl, ?_⟩
      rw [hHP]
      exact ⟨w0, sb, V, CV', x, y, f1, _, f3, c1, _, c3, (But.of_below hb1).trans hb0 (fun _ _ f => f), Nat.le_trans hb1.size hx, Nat.le_trans hb1.size hy, hpost⟩
    · intro w1 w2 fv cv hpre hHp
      rw [hHP] at hHp
      obtain ⟨w0, sb, V, CV', x, y, f1, f2, f3, c1, c2, c3, hb0, hx, hy, hpost⟩ := hHp
      obtain ⟨ov', M, k1, k2, k3, k4, k5⟩ := hpost.out
      have hG1 := gd1 w' w1 fv cv hb hpre
      have hG0 : Gd N0 ash aw w0 := hG1.below (hb0.below (fun b e => by subst e; exact hNm) hG1.env.size)
      refine ⟨hG0.below (k3.below (fun b e => ?_) hG0.env.size), Nat.le_trans hb0.size k3.size, ⟨BV, ov', k1.blk, hv⟩, CV', _, by rw [← hpost.cb]; exact hpost.con.blk⟩
      rcases e with (rfl | rfl) | rfl | e
      · exact hcb0
      · exact hNm
      · exact hNB
      · cases e
  refine (feed_any B k CV.cb (some ⟨db, 0, none⟩) l.length dc BV _ w (fun w' w'' => ReadPost w' B k BV CV ⟨[], 0, none⟩ [] [] HP (.returned (.tuple #[])) w'') (fun w' w'' BV' ov' L' => BV' = BV ∧ (∃ dv, L' = [(⟨(k : Int), d, false⟩, dv)]) ∧ SideC B k m que p D BV CV w' w'') h.blk hk hv ?_ ?_).mono ?_
  · intro w' hb
    refine (hread w' hb).mono ?_
    rintro e w'' ⟨rfl, hR⟩
    exact ⟨rfl, rfl, hR⟩
  · rintro w' w'' hb ⟨_, w1, fv, cv, w2, w3, v, hpre, hHp, hb3, hv3, ⟨qv, rfl⟩, rfl⟩
    rw [hHP] at hHp
    obtain ⟨w0, sb, V, CV', x, y, f1, f2, f3, c1, c2, c3, hb0, hx, hy, hpost⟩ := hHp
    obtain ⟨ov', M, k1, k2, k3, k4, k5⟩ := hpost.out
    obtain ⟨dv, rfl⟩ := map_one k2
    have s1 := hpre.but.size
    have s0 := hb0.size
    have s2 := k3.size
    have hcb3 : w3.heap[CV.cb]? = some (.cells (conC (k : Int) CV' ⟨[], 0, some { p with fv := .slice f1 f2 f3, cv := .slice c1 c2 c3 }⟩) 137) := by rw [← hpost.cb]; exact (hpost.con.below hb3).blk
    have hset : But (fun g => g = CV.cb) w3 (w3.setCell ⟨CV.cb, 1, none⟩ (.slice qv 0 0)) := But.set _ _ _ rfl
    have hB3 : BlkAt w3 B BV ov' [(⟨(k : Int), d, false⟩, dv)] := k1.below hb3
    refine ⟨BV, ov', _, hB3.but hset (fun b e => by subst e; exact hB3.not hcb3 (by decide)), rfl, ⟨dv, rfl⟩, ⟨{ CV' with wv := .slice qv 0 0 }, { V with snd := some (x, y) }, x, y⟩, .slice f1 f2 f3, .slice c1 c2 c3, ⟨?_, ⟨qv, rfl⟩, ?_, rfl, ?_⟩, hpost.cb, ?_, ?_, ?_⟩
    · rw [← hpost.cb]
      exact (hpost.con.below hb3).cleared rfl hv3
    · show SesAt _ CV'.sp _ _
      rw [hpost.sp]
      exact (hpost.ses.below hb3).but hset (fun b hb' e => by subst e; exact (hpost.ses.below hb3).not hcb3 (by decide) hb')
    · show Sink _ B CV'.cb x y _
      rw [hpost.cb]
      exact (hpost.snk.below hb3).cleared _
    · rintro g ((rfl | hg | rfl | rfl | rfl | rfl) | hg | rfl | rfl)
      · exact Or.inl hpost.cb
      · have := (own_zero hv3).2 g hg; exact Or.inr (by omega)
      · exact Or.inr (by have := hpost.bx.1; simp only; omega)
      · exact Or.inr (by have := hpost.bx.2.1; simp only; omega)
      · exact Or.inr (by have := hpost.bx.2.2.1; simp only; omega)
      · exact Or.inr (by have := hpost.bx.2.2.2; simp only; omega)
      · have hg' : V.has sb g := by have h9 : V.has CV'.sp g := hg; rw [hpost.sp] at h9; exact h9
        exact Or.inr (by have := hpost.new g hg'; omega)
      · exact Or.inr (by omega)
      · exact Or.inr (by omega)
    · show (w3.setCell ⟨CV.cb, 1, none⟩ (.slice qv 0 0)).ownsMap Tryz.prog 9 ptrElem BV.mb (m + 1) (D.put (.string p.client) (.lit (.int .i64 (CV'.sp : Int))))
      rw [hpost.sp]
      obtain ⟨es, cl, hmb⟩ := map_blk hpost.map
      have hmb3 := (hb3.block _ (blk_lt hmb)).trans hmb
      exact map_keep (map_keep hpost.map (hb3.block _ (blk_lt hmb))) (hset.keep _ (blk_lt hmb3) (fun e => by rw [e, hcb3] at hmb3; simp at hmb3))
    · have t1 : But (fun g => g = B ∨ g = BV.mb ∨ g = CV.cb) w' w1 := hpre.but.wide (fun _ _ e => Or.inr (Or.inr e))
      have t2 := t1.trans hb0 (fun _ _ e => Or.inr (Or.inl e))
      have t3 := t2.trans k3 (fun x _ e => by
        rcases e with (e | e) | e | e
        · exact Or.inr (Or.inr e)
        · exact Or.inr (Or.inl e)
        · exact Or.inl e
        · cases e)
      have t4 := t3.trans (But.of_below (F := fun _ => False) hb3) (fun _ _ f => f.elim)
      exact t4.trans hset (fun _ _ e => Or.inr (Or.inr e))
  · rintro e w' ⟨w1, w2, BV', ov', L', hb1, ⟨rfl, hL', X, fv, cv, hS, hcbX, hX, hMp, hBut⟩, hb2, rfl, ho, hblk, hbB⟩
    have hnB : ∀ b, X.has b → ¬ b = B := fun b hb e => by subst e; exact hS.not hb2.blk (by decide) (by decide) hb
    refine ⟨ov', L', rfl, hL', ho, hblk, X, fv, cv, hS.but hbB hnB, hcbX, fun g hg => (hX g hg).imp id (fun hh => Nat.le_trans hb1.size hh), ?_, ?_⟩
    · obtain ⟨es, cl, hmb⟩ := map_blk hMp
      exact map_keep hMp (hbB.keep _ (blk_lt hmb) (fun e => by have := hb2.blk; rw [← e, hmb] at this; simp at this))
    · exact ((But.of_below hb1).trans hBut (fun _ _ f => f)).trans hbB (fun _ _ e => Or.inl e)
end Go.Proofs.YtnmfmoimjkoieaaGreatDoor.br

/- Feed of a SUBSCRIBE with one filter: the session takes it, and SUBACK. -/
namespace Go.Proofs.YtnmfmoimjkoieaaGreatDoor.br
open Go.RowKit Go.Proofs.YtnmfmoimjkoieaaGreatDoor.topPlain Go.Proofs.YtnmfmoimjkoieaaGreatDoor.topWalks Go.Proofs.YtnmfmoimjkoieaaGreatDoor.decPlain Go.Proofs.YtnmfmoimjkoieaaGreatDoor.rd Go.Proofs.YtnmfmoimjkoieaaGreatDoor.ew Go.Proofs.YtnmfmoimjkoieaaGreatDoor.encPlain Go.Proofs.YtnmfmoimjkoieaaGreatDoor.rf

/-- what kind of block is a connection's -/
theorem ConAt.ty {w : World} {B : Nat} {n : Int} {V : ConV} {C : Con} (h : ConAt w B n V C) {b : Nat} (hb : V.has b) : ∃ c t, w.heap[b]? = some (.cells c t) ∧ t ≠ 188 ∧ t ≠ 95 ∧ t ≠ 252 := by
  rcases hb with rfl | hw | rfl | rfl | rfl | rfl
  · exact ⟨_, _, h.blk, by decide⟩
  · obtain ⟨cur, hc⟩ := own_blk h.wai hw; exact ⟨_, _, hc, by decide⟩
  · exact ⟨_, _, h.b1.bx, by decide⟩
  · exact ⟨_, _, h.b1.by_, by decide⟩
  · exact ⟨_, _, h.b2.bx, by decide⟩
  · exact ⟨_, _, h.b2.by_, by decide⟩
/-- ahead of the handler the side stands -/
theorem Side.pre {w w1 : World} {B k : Nat} {BV : BrV} {X : SideV} {p : Pkt} {S : Ses} {fs : List (List UInt8 × Int)} {cs : List Int} {fv cv : Value} (h : Side w B k X p S) (hclk : BV.clk = 0) (hpre : ReadPre w B k BV X.cv ⟨[], 0, some p⟩ fs cs w1 fv cv) : Side w1 B k X p S := by
  have hne : ∀ {b : Nat} {c : Array Value} {t : TypeId}, w.heap[b]? = some (.cells c t) → t ≠ 137 → w1.heap[b]? = w.heap[b]? := fun hb ht => hpre.but.keep _ (blk_lt hb) (fun e => by subst e; have := h.con.blk; rw [hb] at this; simp at this; exact ht this.2)
  exact ⟨by have := hpre.con; rw [hclk] at this; exact this, h.wv, h.ses.but hpre.but (fun b hb e => by subst e; exact h.ses.not h.con.blk (by decide) hb), h.snd, (hne h.snk.bx (by decide)).trans h.snk.bx, (hne h.snk.by_ (by decide)).trans h.snk.by_, _, hpre.con.blk, (conC_at _ _ _).1⟩
/-- behind it what waits is cleared -/
theorem Side.post {w : World} {B k N : Nat} {X : SideV} {p : Pkt} {S : Ses} {q : Option Addr} (h : Side w B k X p S) (hv : w.ownsRow N 5 1 (.slice q 0 0) 0 []) : Side (w.setCell ⟨X.cv.cb, 1, none⟩ (.slice q 0 0)) B k ⟨{ X.cv with wv := .slice q 0 0 }, X.sv, X.x, X.y⟩ p S :=
  ⟨h.con.cleared rfl hv, ⟨q, rfl⟩, h.ses.but (But.set (F := fun g => g = X.cv.cb) _ _ _ rfl) (fun b hb e => by subst e; exact h.ses.not h.con.blk (by decide) hb), h.snd, h.snk.cleared _⟩
/-- the handler works on the session -/
theorem Side.work {w w' : World} {B k : Nat} {X : SideV} {p : Pkt} {S S' : Ses} {F : Nat → Prop} {V' : SesV} (h : Side w B k X p S) (hb : But F w w') (hn : ∀ g, F g → ¬ X.cv.has g ∧ g ≠ X.x ∧ g ≠ X.y) (hs : SesAt w' X.cv.sp V' S') (hV : V'.snd = X.sv.snd) : Side w' B k ⟨X.cv, V', X.x, X.y⟩ p S' :=
  ⟨h.con.but hb (fun b hx f => (hn b f).1 hx), h.wv, hs, hV.trans h.snd, h.snk.keep (hb.keep _ (blk_lt h.snk.bx) (fun f => (hn _ f).2.1 rfl)) (hb.keep _ (blk_lt h.snk.by_) (fun f => (hn _ f).2.2 rfl)) (hb.keep _ (blk_lt h.con.blk) (fun f => (hn _ f).1 (Or.inl rfl)))⟩
/-- a session's block is none of a connection's -/
theorem Side.apart {w : World} {B k sb : Nat} {X : SideV} {p : Pkt} {S S2 : Ses} {V2 : SesV} (h : Side w B k X p S) (hs : SesAt w sb V2 S2) {g : Nat} (hg : V2.has sb g) : ¬ X.cv.has g ∧ g ≠ X.x ∧ g ≠ X.y := by
  refine ⟨fun hx => ?_, fun e => ?_, fun e => ?_⟩
  · obtain ⟨c, t, hc, ht⟩ := h.con.ty hx; exact hs.not hc ht hg
  · subst e; exact hs.not h.snk.bx (by decide) hg
  · subst e; exact hs.not h.snk.by_ (by decide) hg
theorem Side.notB {w : World} {B k : Nat} {X : SideV} {p : Pkt} {S : Ses} {c : Array Value} (h : Side w B k X p S) (hB : w.heap[B]? = some (.cells c 131)) : ¬ X.has B := h.not hB (by decide) (by decide)
theorem intV_own {w : World} {C : Nat} {v : Value} {x : Int} (h : w.ownsRow C 3 1 v 1 [.int .i64 x]) : IntV w v [x] := by
  obtain ⟨q, cap, rfl⟩ := own_form h
  obtain ⟨g, rfl, h1, h2, h3, h4⟩ := own_at h (by omega)
  refine ⟨_, cap, rfl, by simp [maxLen], fun j c hj => ⟨g, rfl, h1, ?_⟩⟩
  obtain ⟨rfl, rfl⟩ : j = 0 ∧ c = x := by
    match j, hj with
    | 0, hj => simp at hj; exact ⟨rfl, hj.symm⟩
    | n + 1, hj => simp at hj
  exact h4 0 _ rfl
/-- what a SUBSCRIBE leaves, but for what came out -/
def SideS (B k : Nat) (ph : Pkt) (X : SideV) (S : Ses) (w w' : World) : Prop :=
  ∃ X', Side w' B k X' ph S ∧ X'.cv.cb = X.cv.cb ∧ X'.cv.sp = X.cv.sp ∧ X'.sv.kb = X.sv.kb ∧ (∀ g, X'.has g → X.has g ∨ w.heap.size ≤ g) ∧ But (fun g => g = B ∨ X.has g) w w'
def FdS (B k : Nat) (ph : Pkt) (d : List UInt8) (BV : BrV) (X : SideV) (S : Ses) (w w' : World) (ov : Value) (L : List (OutS × Value)) : Prop :=
  (∃ dv, L = [(⟨(k : Int), d, false⟩, dv)]) ∧ OutsAt w' ov L ∧ BlkAt w' B BV (.slice none 0 0) [] ∧ SideS B k ph X S w w'
theorem feed_sub {N0 : Nat} {ash aw : Addr} (B k : Nat) (p ph : Pkt) (f : List UInt8 × Int) (l d : List UInt8) (BV : BrV) (X : SideV) (S : Ses) (F' : List (List UInt8 × Int)) (db dc : Nat) (w : World) (hG : Gd N0 ash aw w) (h : BlkAt w B BV (.slice none 0 0) []) (hS : Side w B k X ph S) (hX0 : ∀ g, X.has g → N0 ≤ g) (hNB : N0 ≤ B) (hk : k < 8) (hv : BV.cv k = .pointer (some ⟨X.cv.cb, 0, none⟩)) (hclk : BV.clk = 0) (hrv : BV.rv = .slice none 0 0) (hl0 : 0 < l.length) (hl : l.length ≤ 1000000)
    (hd : ∀ j x, l[j]? = some x → w.cell? ⟨db, 0 + j, none⟩ = some (.int .u8 (x.toNat : Int))) (hdec : decL l = .inr ((p, [f], []), l.length)) (hkind : p.kind = 8) (htk : takeS S.filters f = some F') (hdd : ∀ cv, encD (subS p.id cv) [] [f.2] = d) :
    Calls Tryz.prog 24 #[.pointer (some ⟨B, 0, none⟩), .int .i64 (k : Int), .slice (some ⟨db, 0, none⟩) l.length dc] w fun e w' => ∃ ov L, e = .returned (.tuple #[ov, .int .i64 0]) ∧ FdS B k ph d BV X { S with filters := F' } w w' ov L := by
  obtain ⟨HP, hHP⟩ : ∃ HP : World → World → Prop, HP = fun w1 w2 => ∃ fv' ov' dv, But (fun g => X.sv.has X.cv.sp g ∨ g = B) w1 w2 ∧ SesAt w2 X.cv.sp { X.sv with fv := fv' } { S with filters := F' } ∧ BlkAt w2 B BV ov' [(⟨(k : Int), d, false⟩, dv)] ∧ (fv'.ownBlock = X.sv.fv.ownBlock ∨ ∃ b, fv'.ownBlock = some b ∧ w1.heap.size ≤ b) := ⟨_, rfl⟩
  have hcb0 : N0 ≤ X.cv.cb := hX0 _ (Or.inl (Or.inl rfl))
  have hs0 : ∀ g, X.sv.has X.cv.sp g → N0 ≤ g := fun g hg => hX0 g (Or.inr (Or.inl hg))
  have gd1 : ∀ w' w1 fv cv, Below w.heap.size w w' → ReadPre w' B k BV X.cv ⟨[], 0, some ph⟩ [f] [] w1 fv cv → Gd N0 ash aw w1 := fun w' w1 fv cv hb hpre => by
    have hG' : Gd N0 ash aw w' := hG.below (hb.mono hG.env.size)
    exact hG'.below (hpre.but.below (fun b e => by subst e; exact hcb0) hG'.env.size)
  have hread : ∀ w', Below w.heap.size w w' → Calls Tryz.prog 59 #[.pointer (some ⟨B, 0, none⟩), .pointer (some ⟨X.cv.cb, 0, none⟩), .slice (some ⟨db, 0, none⟩) l.length dc] w' (ReadPost w' B k BV X.cv ⟨[], 0, some ph⟩ [f] [] HP) := by
    intro w' hb
    refine read_sub (N0 := N0) (ash := ash) (aw := aw) B k BV X.cv ⟨[], 0, some ph⟩ p [f] [] l db 0 dc w' HP (hG.below (hb.mono hG.env.size)) (h.below hb) (hS.below hb).con rfl hS.wv ⟨_, rfl⟩ hk hv hl0 hl (fun j x hx => by have := hd j x hx; rw [hb.cell (cell_blt this)]; exact this) hdec hkind (fun g hg => hX0 g (Or.inl hg)) ?_ ?_
    · intro w1 fv cv hpre
      have hG1 := gd1 w' w1 fv cv hb hpre
      have hS1 := (hS.below hb).pre hclk hpre
      obtain ⟨f1, f3, rfl⟩ := own_form hpre.fil
      obtain ⟨c1, c3, rfl⟩ := own_form hpre.cod
      obtain ⟨g, rfl, hg1, _, _, hg⟩ := own_at hpre.fil (by simp)
      refine h_sub B X.cv.cb X.cv.x' X.cv.y' { p with fv := .slice (some ⟨g, 0, none⟩) [f].length f3, cv := .slice c1 ([] : List Int).length c3 } w1 _ hS1.con.b2 ⟨_, _, _, rfl⟩ ⟨_, _, _, rfl⟩ ?_
      intro w1' hb1
      have hG1' : Gd N0 ash aw w1' := hG1.below (hb1.mono hG1.env.size)
      have hS1' := hS1.below hb1
      have hB1' := hpre.blk.below hb1
      have hfil := own_below4 hpre.fil hb1
      have hncb : ¬ X.sv.has X.cv.sp X.cv.cb := hS1'.ses.not hS1'.con.blk (by decide)
      have hcbB : X.cv.cb ≠ B := fun e => by have h1 := hS1'.con.blk; have h2 := hB1'.blk; rw [e, h2] at h1; simp at h1
      have c18 : w1'.cell? ⟨X.cv.cb, 18, none⟩ = some (.pointer (some ⟨X.cv.sp, 0, none⟩)) := blk_cell hS1'.con.blk (conC_at _ _ _).2.2.2.1
      have c0 : w1'.cell? ⟨X.cv.cb, 0, none⟩ = some (.int .i64 (k : Int)) := blk_cell hS1'.con.blk (conC_at _ _ _).1
      have hnsB : ¬ X.sv.has X.cv.sp B := fun hh => hS1'.notB hB1'.blk (Or.inr (Or.inl hh))
      have hlts : ∀ b, X.sv.has X.cv.sp b → b < w1'.heap.size := fun b hb' => hS1'.ses.lt hb'
      have hltB := blk_lt hB1'.blk
      refine subscribe_one B X.cv.cb X.cv.sp g f3 f { p with fv := .slice (some ⟨g, 0, none⟩) 1 f3, cv := .slice c1 0 c3 } w1' (fun a => ∃ fv', But (fun g => X.sv.has X.cv.sp g) w1' a ∧ SesAt a X.cv.sp { X.sv with fv := fv' } { S with filters := F' } ∧ (fv'.ownBlock = X.sv.fv.ownBlock ∨ ∃ b, fv'.ownBlock = some b ∧ w1'.heap.size ≤ b)) (fun a => ∃ fv' ov' dv, But (fun g => X.sv.has X.cv.sp g ∨ g = B) w1' a ∧ SesAt a X.cv.sp { X.sv with fv := fv' } { S with filters := F' } ∧ BlkAt a B BV ov' [(⟨(k : Int), d, false⟩, dv)] ∧ (fv'.ownBlock = X.sv.fv.ownBlock ∨ ∃ b, fv'.ownBlock = some b ∧ w1'.heap.size ≤ b)) _ c1 0 c3 rfl rfl c18 (by rw [hb1.cell hg1]; exact hg 0 _ rfl) (by rw [hb1.cell hg1]; exact hg 1 _ rfl) ?_ ?_ ?_ ?_ ?_ ?_ ?_
      · intro a ha
        refine (take_any X.cv.sp X.sv S f a (hS1'.ses.below ha)).mono ?_
        rintro e a' ⟨rfl, hbut, fv', hs', hf'⟩
        rw [htk] at hs' ⊢
        refine ⟨rfl, ⟨fv', (But.of_below ha).trans hbut (fun _ _ f => f), hs', hf'.imp id (fun ⟨b, e1, e2⟩ => ⟨b, e1, Nat.le_trans ha.size e2⟩)⟩, hbut.size, fun b h1 h2 => hbut.keep b h2 (fun hh => ?_)⟩
        have := hlts b hh
        omega
      · rintro a ⟨fv', hbut, _⟩
        exact hbut.cell hncb c18
      · rintro a ⟨fv', ov', dv, hbut, _⟩
        exact hbut.cell (fun hh => hh.elim hncb hcbB) c18
      · rintro a b ⟨fv', hbut, hs', hf'⟩ hab
        exact ⟨fv', hbut.trans (But.of_below (F := fun _ => False) hab) (fun _ _ f => f.elim), hs'.below hab, hf'⟩
      · rintro a b ⟨fv', ov', dv, hbut, hs', hbl, hf'⟩ hab
        exact ⟨fv', ov', dv, hbut.trans (But.of_below (F := fun _ => False) hab) (fun _ _ f => f.elim), hs'.below hab, hbl.below hab, hf'⟩
      · rintro a cv ⟨fv', hbut, hs', hf'⟩ hcv
        have hGa : Gd N0 ash aw a := hG1'.below (hbut.below hs0 hG1'.env.size)
        have hBa : BlkAt a B BV (.slice none 0 0) [] := ⟨hbut.blk hnsB hB1'.blk, OutsAt.nil _⟩
        have hE := hGa.encCodes (subS p.id cv) [f.2] rfl (intV_own hcv)
        rw [hdd] at hE
        refine (bwrite_any B X.cv.cb (k : Int) (subS p.id cv) d BV (.slice none 0 0) [] a hE hBa (hbut.cell hncb c0) (by simp)).mono ?_
        rintro e a' ⟨rfl, ov', dv, k1, k2, k3, k4⟩
        have k2' : But (fun g => g = B) a a' := k2.wide (fun x _ e => e.elim id (fun e => by cases e))
        refine ⟨rfl, ⟨fv', ov', dv, (hbut.wide (fun _ _ f => Or.inl f)).trans k2' (fun _ _ e => Or.inr e), hs'.but k2' (fun b hb' e => by subst e; exact hs'.not hBa.blk (by decide) hb'), k1, hf'⟩, k2'.size, fun b h1 h2 => k2'.keep b h2 (fun e => ?_)⟩
        omega
      · rintro a ⟨fv', ov', dv, hbut, hs', hbl, hf'⟩
        have c11 : a.cell? ⟨B, 11, none⟩ = some (.slice none 0 0) := by rw [← hrv]; exact blk_cell hbl.blk rfl
        refine (tellRetained_none B X.cv.sp none 0 f a c11).mono ?_
        rintro e a' ⟨rfl, hab⟩
        refine ⟨rfl, ⟨rfl, rfl, ?_⟩, hab⟩
        rw [hHP]
        exact ⟨fv', ov', dv, (But.of_below hb1).trans (hbut.trans (But.of_below (F := fun _ => False) hab) (fun _ _ f => f.elim)) (fun _ _ f => f), hs'.below hab, hbl.below hab, hf'.imp id (fun ⟨b, e1, e2⟩ => ⟨b, e1, Nat.le_trans hb1.size e2⟩)⟩
    · intro w1 w2 fv cv hpre hHp
      rw [hHP] at hHp
      obtain ⟨fv', ov', dv, hbut, hs', hbl, hf'⟩ := hHp
      have hG1 := gd1 w' w1 fv cv hb hpre
      have hS1 := (hS.below hb).pre hclk hpre
      refine ⟨hG1.below (hbut.below (fun b e => e.elim (hs0 b) (fun e => by subst e; exact hNB)) hG1.env.size), hbut.size, ⟨BV, ov', hbl.blk, hv⟩, X.cv, ⟨[], 0, some ph⟩, hbut.blk (fun e => ?_) hS1.con.blk⟩
      rcases e with e | e
      · exact hS1.ses.not hS1.con.blk (by decide) e
      · exact hS1.notB hpre.blk.blk (Or.inl (Or.inl e.symm))
  refine (feed_any B k X.cv.cb (some ⟨db, 0, none⟩) l.length dc BV _ w (fun w' w'' => ReadPost w' B k BV X.cv ⟨[], 0, some ph⟩ [f] [] HP (.returned (.tuple #[])) w'') (fun w' w'' BV' ov' L' => BV' = BV ∧ (∃ dv, L' = [(⟨(k : Int), d, false⟩, dv)]) ∧ SideS B k ph X { S with filters := F' } w' w'') h.blk hk hv ?_ ?_).mono ?_
  · intro w' hb
    refine (hread w' hb).mono ?_
    rintro e w'' ⟨rfl, hR⟩
    exact ⟨rfl, rfl, hR⟩
  · rintro w' w'' hb ⟨_, w1, fv, cv, w2, w3, v, hpre, hHp, hb3, hv3, ⟨qv, rfl⟩, rfl⟩
    rw [hHP] at hHp
    obtain ⟨fv', ov', dv, hbut, hs', hbl, hf'⟩ := hHp
    have hS1 := (hS.below hb).pre hclk hpre
    have hnB := hS1.notB hpre.blk.blk
    have hS2 := hS1.work hbut (fun g hg => hg.elim (fun hg => hS1.apart hS1.ses hg) (fun e => by subst e; exact ⟨fun hx => hnB (Or.inl hx), fun e => hnB (Or.inr (Or.inr (Or.inl e))), fun e => hnB (Or.inr (Or.inr (Or.inr e)))⟩)) hs' rfl
    have hS3 := hS2.below hb3
    have hset : But (fun g => g = X.cv.cb) w3 (w3.setCell ⟨X.cv.cb, 1, none⟩ (.slice qv 0 0)) := But.set _ _ _ rfl
    have hB3 : BlkAt w3 B BV ov' [(⟨(k : Int), d, false⟩, dv)] := hbl.below hb3
    have s1 := hpre.but.size
    have s2 := hbut.size
    refine ⟨BV, ov', _, hB3.but hset (fun b e => by subst e; exact hB3.not hS3.con.blk (by decide)), rfl, ⟨dv, rfl⟩, _, hS3.post hv3, rfl, rfl, rfl, ?_, ?_⟩
    · rintro q ((rfl | hg | rfl | rfl | rfl | rfl) | hg | rfl | rfl)
      · exact Or.inl (Or.inl (Or.inl rfl))
      · have := (own_zero hv3).2 q hg; exact Or.inr (by omega)
      · exact Or.inl (Or.inl (Or.inr (Or.inr (Or.inl rfl))))
      · exact Or.inl (Or.inl (Or.inr (Or.inr (Or.inr (Or.inl rfl)))))
      · exact Or.inl (Or.inl (Or.inr (Or.inr (Or.inr (Or.inr (Or.inl rfl))))))
      · exact Or.inl (Or.inl (Or.inr (Or.inr (Or.inr (Or.inr (Or.inr rfl))))))
      · rcases hg with hg | hg | hg | hg | hg
        · exact Or.inl (Or.inr (Or.inl (Or.inl hg)))
        · rcases hf' with e | ⟨b, e1, e2⟩
          · exact Or.inl (Or.inr (Or.inl (Or.inr (Or.inl (e ▸ hg)))))
          · have hg2 : fv'.ownBlock = some q := hg
            rw [e1] at hg2
            cases hg2
            exact Or.inr (by omega)
        · exact Or.inl (Or.inr (Or.inl (Or.inr (Or.inr (Or.inl hg)))))
        · exact Or.inl (Or.inr (Or.inl (Or.inr (Or.inr (Or.inr (Or.inl hg))))))
        · exact Or.inl (Or.inr (Or.inl (Or.inr (Or.inr (Or.inr (Or.inr hg))))))
      · exact Or.inl (Or.inr (Or.inr (Or.inl rfl)))
      · exact Or.inl (Or.inr (Or.inr (Or.inr rfl)))
    · have t1 : But (fun g => g = B ∨ X.has g) w' w1 := hpre.but.wide (fun _ _ e => Or.inr (Or.inl (Or.inl e)))
      have t2 := t1.trans hbut (fun _ _ e => e.elim (fun e => Or.inr (Or.inr (Or.inl e))) Or.inl)
      have t3 := t2.trans (But.of_below (F := fun _ => False) hb3) (fun _ _ f => f.elim)
      exact t3.trans hset (fun _ _ e => Or.inr (Or.inl (Or.inl e)))
  · rintro e w' ⟨w1, w2, BV', ov', L', hb1, ⟨rfl, hL', X', hS', e1, e2, e3, hX', hBut⟩, hb2, rfl, ho, hblk, hbB⟩
    have hnB : ∀ b, X'.has b → ¬ b = B := fun b hb e => by subst e; exact hS'.notB hb2.blk hb
    exact ⟨ov', L', rfl, hL', ho, hblk, X', hS'.but hbB hnB, e1, e2, e3, fun g hg => (hX' g hg).imp id (fun hh => Nat.le_trans hb1.size hh), ((But.of_below hb1).trans hBut (fun _ _ f => f)).trans hbB (fun _ _ e => Or.inl e)⟩
end Go.Proofs.YtnmfmoimjkoieaaGreatDoor.br
