import Derived.Test.YtnmfmoimjkoieaaGreatDoorF50
import Derived.Test.YtnmfmoimjkoieaaGreatDoorF48
import Derived.Test.YtnmfmoimjkoieaaGreatDoorF49
namespace Go.Proofs.YtnmfmoimjkoieaaGreatDoor.kw
open Go.RowKit Go.Proofs.YtnmfmoimjkoieaaGreatDoor.topPlain Go.Proofs.YtnmfmoimjkoieaaGreatDoor.topWalks Go.Proofs.YtnmfmoimjkoieaaGreatDoor.decPlain Go.Proofs.YtnmfmoimjkoieaaGreatDoor.rd Go.Proofs.YtnmfmoimjkoieaaGreatDoor.ew Go.Proofs.YtnmfmoimjkoieaaGreatDoor.encPlain Go.Proofs.YtnmfmoimjkoieaaGreatDoor.rf Go.Proofs.YtnmfmoimjkoieaaGreatDoor.br Go.Proofs.YtnmfmoimjkoieaaGreatDoor.kp
theorem outsM {q : Int} (hq : q = 1 ∨ q = 2) (m i : Nat) (h : i ≤ 16) : OutsOk (outM q m i) (fun _ => (msgP q ((m : Int) + 1) (numB m), [], [])) (fun _ => False) := by
  unfold outM
  by_cases hm : m < i
  · rw [if_pos hm]
    exact outs_one _ (goes_msg hq m (by omega)) 0 (by omega) _ rfl _ (fun f => f)
  · rw [if_neg hm]
    exact outs_nil _ _
theorem Wh.shut {N0 : Nat} {ash aw : Addr} {w0 w w' : World} {b lb B : Nat} {V : LineV} {BV : BrV} {px py : Pkt} {X Y : SideV} {SX SY : Ses} {G : Nat → Prop} {VS : StgV} {T : List Int} {O O' : List Pkt} {Sn : List Int} {v' : Value} (h : Wh N0 ash aw w0 w b lb B V BV px py X Y SX SY G VS T O Sn) (hs : StgAt w' b { VS with pv := v' } T O' Sn) (hb : But (fun g => g = b) w w') (hv : ∀ g, v'.ownBlock = some g → w.heap.size ≤ g) : Wh N0 ash aw w0 w' b lb B V BV px py X Y SX SY G { VS with pv := v' } T O' Sn :=
  h.stage (hb.wide (fun g _ e => Or.inl e)) hs rfl (fun g hg => by
    rcases hg with hg | hg | hg | hg
    · exact Or.inl (Or.inl hg)
    · exact Or.inl (Or.inr (Or.inl hg))
    · exact Or.inr (hv g hg)
    · exact Or.inl (Or.inr (Or.inr (Or.inr hg))))
theorem pick0 (n : Nat) : pickN 0 n = 0 := by
  unfold pickN
  simp
theorem ack_st {N0 : Nat} {ash aw : Addr} {w0 w : World} {b lb : Nat} (q : Int) (hq : q = 1 ∨ q = 2) (W Qn a m i : Nat) (hf : Fit W Qn a m i) (ha : a < m) (h : St N0 ash aw w0 b lb q W Qn a m i w) :
    Calls Tryz.prog 28 #[.pointer (some ⟨b, 0, none⟩), .int .i64 0] w fun e w' => e = .returned (.bool true) ∧ St N0 ash aw w0 b lb q W Qn (a + 1) (upM m i) i w' := by
  obtain ⟨B, V, BV, px, py, X, Y, VS, T, O, Sn, hW, hC⟩ := h
  have h1 := hf.mi
  have h2 := hf.i16
  have hlb : lb < w.heap.size := hW.hall.lt (Or.inl rfl)
  have hl := hC.len
  refine ack_one b lb VS T Sn O 0 w _ hW.stg hW.vlb (by omega) (by omega) (by omega) (by omega) hC.idx_at ?_ ?_
  · rw [pick0]
    intro p hp hq1 w' v' hs hbut hv
    obtain ⟨e1, e2, _⟩ := hC.at hp
    have hq' : q = 1 := by omega
    subst hq'
    rw [show p.id = (a : Int) + 1 by omega]
    have hW' := hW.shut hs hbut hv
    refine (send_zero (ackK 4 ((a : Int) + 1)) (outM 1 m i) (fun _ => (msgP 1 ((m : Int) + 1) (numB m), [], [])) w' hW' rfl rfl (goes_ack4 a (by omega)) (outsM hq m i h2) (fun w1 g c hh hx => feed4 W Qn a m i hf ha hh g c hx)).mono ?_
    rintro e w2 ⟨rfl, V2, X2, Y2, hA⟩
    refine ⟨rfl, fun k hk hk' => hA.but.keep k hk' (fun i => by have := hW.hall.lt i; omega), ?_⟩
    obtain ⟨qa, n, c, hS⟩ := see_after 1 hq W Qn a m i hf ha (Nat.lt_of_lt_of_le hlb hbut.size) hA (hC.shut ha rfl)
    exact ⟨qa, n, c, V2, hS⟩
  · rw [pick0]
    intro p hp hq1 w' hb'
    obtain ⟨e1, e2, _⟩ := hC.at hp
    have hq' : q = 2 := by omega
    subst hq'
    rw [show p.id = (a : Int) + 1 by omega]
    have hW' := hW.below hb'
    refine (send_zero (ackK 5 ((a : Int) + 1)) [⟨((0 : Nat) : Int), encD (relS ((a : Int) + 1)) [] [], false⟩] (fun _ => (relS ((a : Int) + 1), [], [])) w' hW' rfl rfl (goes_ack5 a (by omega)) (outs_one _ (goes_ack6 a (by omega)) 0 (by omega) _ rfl _ (fun f => f)) (fun w1 g c hh hx => feed5 W Qn a m i hf ha hh g c hx)).mono ?_
    rintro e w2 ⟨rfl, V2, X2, Y2, hA⟩
    have hlb' : lb < w'.heap.size := Nat.lt_of_lt_of_le hlb hb'.size
    refine ⟨rfl, hA.wh.stg, fun hx => hW.apart lb hx (Or.inl rfl), fun k hk hk' => hA.but.keep k hk' (fun i => by have := hW.hall.lt i; omega), hA.but.size, hlb, ?_, ?_⟩
    · obtain ⟨n, e, hg⟩ := hA.new 0 _ rfl
      have e' : n = 0 := by have : ((0 : Nat) : Int) = (n : Int) := e; omega
      subst e'
      obtain ⟨g, cap, fv, cv, e1, hgN, hc1, hcm, hcell, _, _⟩ := hg.at
      exact ⟨g, cap, V2, hA.wh.hall.line.line, e1, hc1, hcm, hcell 0 _ rfl, hcell 12 _ rfl, by omega⟩
    · intro w3 v' hs hbut hv
      have hW2 := (hA.wh.seen 0 (by omega)).only (G' := fun _ => False) (fun n hn => by
        rcases hn with ⟨hn | ⟨o, ho, e⟩, hn0⟩
        · exact hn
        · simp at ho; subst ho
          exact hn0 (by have : ((0 : Nat) : Int) = (n : Int) := e; omega))
      have hsz2 : w2.heap.size ≤ (w2.setCell ⟨lb, 1 + 0, none⟩ (.slice none 0 0)).heap.size := (But.set (F := fun _ => True) _ _ _ trivial).size
      have hW3 := hW2.shut hs hbut (fun g hg => by
        have := hv g hg
        simpa using this)
      refine (send_zero (ackK 7 ((a : Int) + 1)) (outM 2 m i) (fun _ => (msgP 2 ((m : Int) + 1) (numB m), [], [])) w3 hW3 rfl rfl (goes_ack7 a (by omega)) (outsM hq m i h2) (fun w1 g c hh hx => feed7 W Qn a m i hf ha hh g c hx)).mono ?_
      rintro e w4 ⟨rfl, V4, X4, Y4, hA4⟩
      have hs3 : w2.heap.size ≤ w3.heap.size := Nat.le_trans hsz2 hbut.size
      have hs2 := hA.but.size
      have hs1 := hb'.size
      refine ⟨rfl, fun k hk hk' => hA4.but.keep k (by omega) (fun i => ?_), ?_⟩
      · rcases hA.grow k i with i | i
        · have := hW.hall.lt i; omega
        · omega
      · obtain ⟨qa, n, c, hS⟩ := see_after 2 hq W Qn a m i hf ha (by omega) hA4 (hC.shut ha rfl)
        exact ⟨qa, n, c, V4, hS⟩
def Came (w : World) (lb : Nat) (p : Pkt) (v : Value) : Prop :=
  ∃ g cap fv cv, v = .slice (some ⟨g, 0, none⟩) 1 cap ∧ g ≠ lb ∧ (∃ c, w.heap[g]? = some (.cells c 36)) ∧ 1 ≤ cap ∧ cap ≤ maxLen ∧ (∀ i u, (pkK { p with fv := fv, cv := cv })[i]? = some u → w.cell? ⟨g, i, none⟩ = some u) ∧ Shaped { p with fv := fv, cv := cv }
theorem Came.of {N lb : Nat} {w : World} {v : Value} {p : Pkt} (h : GotP N w v (p, [], [])) (hl : lb < N) : Came w lb p v := by
  obtain ⟨g, cap, fv, cv, e1, hgN, hc1, hcm, hcell, hf, hc⟩ := h.at
  obtain ⟨f1, f3, hfv⟩ := br.own_form hf
  obtain ⟨c1, c3, hcv⟩ := br.own_form hc
  obtain ⟨fv', cv', k1, _, _⟩ := h
  obtain ⟨c, hb⟩ := own_blk k1 (b := g) (by rw [e1]; rfl)
  exact ⟨g, cap, fv, cv, e1, by omega, ⟨c, hb⟩, hc1, hcm, hcell, ⟨_, _, _, hfv⟩, _, _, _, hcv⟩
theorem Came.but {F : Nat → Prop} {w w' : World} {lb : Nat} {v : Value} {p : Pkt} (h : Came w lb p v) (hb : But F w w') (hn : ∀ g c, w.heap[g]? = some (.cells c 36) → ¬ F g) : Came w' lb p v := by
  obtain ⟨g, cap, fv, cv, e1, hgl, ⟨c, hc⟩, hc1, hcm, hcell, hs⟩ := h
  exact ⟨g, cap, fv, cv, e1, hgl, ⟨c, hb.blk (hn g c hc) hc⟩, hc1, hcm, fun i u hu => hb.cell (hn g c hc) (hcell i u hu), hs⟩
theorem Wh.notPkt {N0 : Nat} {ash aw : Addr} {w0 w : World} {b lb B : Nat} {V : LineV} {BV : BrV} {px py : Pkt} {X Y : SideV} {SX SY : Ses} {G : Nat → Prop} {VS : StgV} {T : List Int} {O : List Pkt} {Sn : List Int} (H : Wh N0 ash aw w0 w b lb B V BV px py X Y SX SY G VS T O Sn) (g : Nat) (c : Array Value) (hg : w.heap[g]? = some (.cells c 36)) : ¬ InHall lb B BV.mb X Y g := by
  rintro (rfl | rfl | rfl | i | i)
  · have h : w.heap[g]? = some (.cells (lineC V) 60) := H.hall.line.line
    rw [hg] at h; simp at h
  · have h := H.hall.room.blk.blk; rw [hg] at h; simp at h
  · obtain ⟨es, cl, h⟩ := map_blk H.hall.room.map; rw [hg] at h; simp at h
  · exact H.hall.sx.not hg (by decide) (by decide) i
  · exact H.hall.sy.not hg (by decide) (by decide) i
theorem seesCame {N0 : Nat} {ash aw : Addr} {w0 w : World} {b lb B : Nat} {V : LineV} {BV : BrV} {px py : Pkt} {X Y : SideV} {SX SY : Ses} {G : Nat → Prop} {VS : StgV} {T : List Int} {O : List Pkt} {Sn : List Int} (q : Int) (hq : q = 1 ∨ q = 2) (k : Nat) (hk : k < 60000) (H : Wh N0 ash aw w0 w b lb B V BV px py X Y SX SY G VS T O Sn) (hG : ∀ n, G n → n = 0) (hg : Came w lb (msgP q ((k : Int) + 1) (numB k)) (V.got 0)) (hid : idx (fun p => p.id == (k : Int) + 1) O = -1) (hT : T.length ≤ 100000) (hO : O.length ≤ 100000) :
    ∃ qa n c, SeesOk b lb (fun w3 => ∃ V' VS' p, Wh N0 ash aw w0 w3 b lb B V' BV px py X Y SX SY (fun _ => False) VS' (T ++ [(k : Int)]) (O ++ [p]) Sn ∧ VS'.id = VS.id ∧ p.id = (k : Int) + 1 ∧ p.qos = q) w qa n c V := by
  obtain ⟨g, cap, fv, cv, e1, hgl, ⟨c, hc⟩, _, _, hcell, hsh⟩ := hg
  refine ⟨_, _, _, H.hall.line.line, H.cell0, fun e => H.apart b (Or.inl rfl) (Or.inl e), e1, fun w1 hb1 => ?_⟩
  have H1 := (H.below hb1).seen 0 (by omega)
  refine (sees_one b g cap k VS T O Sn { msgP q ((k : Int) + 1) (numB k) with fv := fv, cv := cv } _ H1.stg (fun i u hu => ?_) rfl rfl hk rfl rfl hq hid hT hO hsh).mono ?_
  · have h := hcell i u hu
    have hlt := cell_blt h
    simp only at hlt
    rw [World.cell?_of_block (w := w) ((Below.heap_setCell _ _ _ _ (fun e => hgl e)).trans (hb1.block g hlt))]
    exact h
  · rintro e w3 ⟨rfl, tv', pv', hs, hbut, ht, hp⟩
    refine ⟨rfl, _, _, _, (H1.stage hbut hs rfl (fun g hg => ?_)).only (fun n hn => hn.2 (hG n hn.1)), rfl, rfl, rfl⟩
    rcases hg with hg | hg | hg | hg
    · exact Or.inl (Or.inl hg)
    · rcases ht with e | ⟨g', e1, e2⟩
      · exact Or.inl (Or.inr (Or.inl (e ▸ hg)))
      · have hg2 : tv'.ownBlock = some g := hg
        rw [e1] at hg2; cases hg2
        exact Or.inr e2
    · rcases hp with e | ⟨g', e1, e2⟩
      · exact Or.inl (Or.inr (Or.inr (Or.inl (e ▸ hg))))
      · have hg2 : pv'.ownBlock = some g := hg
        rw [e1] at hg2; cases hg2
        exact Or.inr e2
    · exact Or.inl (Or.inr (Or.inr (Or.inr hg)))
def Heard0 (w : World) (lb : Nat) (q : Int) (W a m : Nat) (V : LineV) : Prop :=
  (m - a < W → Came w lb (msgP q ((m : Int) + 1) (numB m)) (V.got 0)) ∧ (¬ m - a < W → V.got 0 = .slice none 0 0)
theorem see_pub {N0 : Nat} {ash aw : Addr} {w0 w : World} {b lb B : Nat} {V : LineV} {BV : BrV} {px py : Pkt} {X Y : SideV} {VS : StgV} {T : List Int} {O : List Pkt} {Sn : List Int} (q : Int) (hq : q = 1 ∨ q = 2) (W Qn a m i : Nat) (hf : Fit W Qn a m i) (H : Wh N0 ash aw w0 w b lb B V BV px py X Y (lisQ q W Qn a (upP W a m i) (i + 1)) (newS (W : Int) Qn) (fun n => n = 0) VS T O Sn) (h0 : Heard0 w lb q W a m V) (hC : Cnt q a m (i + 1) VS T O Sn) :
    ∃ qa n c, SeesOk b lb (St N0 ash aw w0 b lb q W Qn a (upP W a m i) (i + 1)) w qa n c V := by
  have h16 := hf.i16
  have hmi := hf.mi
  by_cases hm : m - a < W
  · obtain ⟨qa, n, c, hS⟩ := seesCame q hq m (by omega) H (fun n hn => hn) (h0.1 hm) hC.idx_new (by rw [hC.told]; simp; omega) (by rw [hC.len]; omega)
    refine ⟨qa, n, c, hS.line, hS.cell, hS.ne, hS.got, fun w1 hb1 => (hS.see w1 hb1).mono ?_⟩
    rintro e w3 ⟨rfl, V3, VS3, p, hW, h1, h2, h3⟩
    refine ⟨rfl, B, V3, BV, px, py, X, Y, VS3, _, _, Sn, hW, ?_⟩
    have : upP W a m i = m + 1 := if_pos hm
    rw [this]
    exact hC.add hf.am p h2 h3 h1
  · have hv := h0.2 hm
    have hw : Wh N0 ash aw w0 w b lb B V BV px py X Y (lisQ q W Qn a (upP W a m i) (i + 1)) (newS (W : Int) Qn) (fun _ => False) VS T O Sn := ⟨⟨H.hall.room, ⟨H.hall.line.line, H.hall.line.lb0, H.hall.line.b, H.hall.line.bad, H.hall.line.off, fun n _ => by
      by_cases hn : n = 0
      · subst hn; exact hv
      · exact H.hall.line.got n hn⟩, H.hall.sx, H.hall.sy, H.hall.x0, H.hall.y0, H.hall.xm, H.hall.ym, H.hall.dis, H.hall.vx, H.hall.vy⟩, H.stg, H.vlb, H.s0, H.apart, H.bel⟩
    have hS := seesNone hw
    refine ⟨_, _, _, hS.line, hS.cell, hS.ne, hS.got, fun w1 hb1 => (hS.see w1 hb1).mono ?_⟩
    rintro e w3 ⟨rfl, V3, hW⟩
    refine ⟨rfl, B, V3, BV, px, py, X, Y, VS, T, O, Sn, hW, ?_⟩
    have : upP W a m i = m := if_neg hm
    rw [this]
    exact hC
theorem outsP {q : Int} (hq : q = 1 ∨ q = 2) (W a m i : Nat) (hm : m < 16) (p : Pkt) (hp : Goes p) : OutsOk (outP q W a m i ++ [⟨((1 : Nat) : Int), encD p [] [], false⟩]) (fun j => if m - a < W ∧ j = 0 then (msgP q ((m : Int) + 1) (numB m), [], []) else (p, [], [])) (fun _ => False) := by
  unfold outP
  have hg := goes_msg hq m hm
  by_cases hw : m - a < W
  · rw [if_pos hw]
    refine ⟨fun j o h1 => ?_, fun i j o o' h1 h2 e => ?_⟩
    · match j, h1 with
      | 0, h1 =>
        simp at h1
        subst h1
        exact ⟨rfl, by show decL _ = .inr ((if m - a < W ∧ (0 : Nat) = 0 then (msgP q ((m : Int) + 1) (numB m), [], []) else (p, [], [])), _); rw [if_pos ⟨hw, rfl⟩]; exact hg.dec, hg.pos, hg.max, 0, by omega, rfl, fun f => f⟩
      | 1, h1 =>
        simp at h1
        subst h1
        exact ⟨rfl, by show decL _ = .inr ((if m - a < W ∧ (1 : Nat) = 0 then (msgP q ((m : Int) + 1) (numB m), [], []) else (p, [], [])), _); rw [if_neg (by omega)]; exact hp.dec, hp.pos, hp.max, 1, by omega, rfl, fun f => f⟩
    · match i, j, h1, h2 with
      | 0, 0, _, _ => rfl
      | 1, 1, _, _ => rfl
      | 0, 1, h1, h2 => simp at h1 h2; subst h1; subst h2; cases e
      | 1, 0, h1, h2 => simp at h1 h2; subst h1; subst h2; cases e
  · rw [if_neg hw]
    exact outs_one p hp 1 (by omega) _ (if_neg (by omega)) _ (fun f => f)
theorem after_pub {N0 : Nat} {ash aw : Addr} {w0 w w' : World} {b lb B : Nat} {V V' : LineV} {BV : BrV} {px py : Pkt} {X Y X' Y' : SideV} {SX SY : Ses} {VS : StgV} {T : List Int} {O : List Pkt} {Sn : List Int} (q : Int) (W a m i : Nat) (p : Pkt) (hlb : lb < w.heap.size) (hV : V.got 0 = .slice none 0 0)
    (hA : After N0 ash aw w0 w b lb B V BV px py X Y SX SY (fun _ => False) VS T O Sn (outP q W a m i ++ [⟨((1 : Nat) : Int), encD p [] [], false⟩]) (fun j => if m - a < W ∧ j = 0 then (msgP q ((m : Int) + 1) (numB m), [], []) else (p, [], [])) w' V' X' Y') :
    Heard0 w' lb q W a m V' ∧ GotP w.heap.size w' (V'.got 1) (p, [], []) := by
  by_cases hw : m - a < W
  · have e : outP q W a m i = [⟨((0 : Nat) : Int), encD (msgP q ((m : Int) + 1) (numB m)) [] [], false⟩] := if_pos hw
    rw [e] at hA
    obtain ⟨n0, e0, hg0⟩ := hA.new 0 _ rfl
    obtain ⟨n1, e1, hg1⟩ := hA.new 1 _ rfl
    have e0' : n0 = 0 := by have : ((0 : Nat) : Int) = (n0 : Int) := e0; omega
    have e1' : n1 = 1 := by have : ((1 : Nat) : Int) = (n1 : Int) := e1; omega
    subst e0' e1'
    simp only [hw, true_and, if_true] at hg0 hg1
    exact ⟨⟨fun _ => Came.of hg0 hlb, fun h => (h hw).elim⟩, hg1⟩
  · have e : outP q W a m i = [] := if_neg hw
    rw [e] at hA
    obtain ⟨n1, e1, hg1⟩ := hA.new 0 _ rfl
    have e1' : n1 = 1 := by have : ((1 : Nat) : Int) = (n1 : Int) := e1; omega
    subst e1'
    rw [if_neg (by omega)] at hg1
    refine ⟨⟨fun h => (hw h).elim, fun _ => ?_⟩, hg1⟩
    rw [hA.old 0 (fun o ho => by simp at ho; subst ho; simp), hV]
theorem Wh.mid {N0 : Nat} {ash aw : Addr} {w0 w w1 : World} {b lb B : Nat} {V : LineV} {BV : BrV} {px py : Pkt} {X Y : SideV} {SX SY : Ses} {G : Nat → Prop} {VS : StgV} {T : List Int} {O : List Pkt} {Sn : List Int} {q : Int} {i : Nat} {v' : Value} (h : Wh N0 ash aw w0 w b lb B V BV px py X Y SX SY G VS T O Sn) (hM : Mid b VS T Sn O q i w w1 v') : Wh N0 ash aw w0 w1 b lb B V BV px py X Y SX SY G { VS with sv := v', id := (i : Int) + 1 } T O (Sn ++ [q]) :=
  h.stage hM.but hM.stg rfl (fun g hg => by
    rcases hg with hg | hg | hg | hg
    · exact Or.inl (Or.inl hg)
    · exact Or.inl (Or.inr (Or.inl hg))
    · exact Or.inl (Or.inr (Or.inr (Or.inl hg)))
    · rcases hM.own with e | ⟨g', e1, e2⟩
      · exact Or.inl (Or.inr (Or.inr (Or.inr (e ▸ hg))))
      · have hg2 : v'.ownBlock = some g := hg
        rw [e1] at hg2; cases hg2
        exact Or.inr e2)
theorem Cnt.mid {q : Int} {a m i : Nat} {VS : StgV} {T : List Int} {O : List Pkt} {Sn : List Int} (h : Cnt q a m i VS T O Sn) (v' : Value) (q' : Int) : Cnt q a m (i + 1) { VS with sv := v', id := (i : Int) + 1 } T O (Sn ++ [q']) :=
  ⟨h.told, h.opn, by simp [h.sent], by show (i : Int) + 1 = ((i + 1 : Nat) : Int); omega⟩
theorem heardK {N lb : Nat} {w : World} {V : LineV} {p : Pkt} (hl : LineAt w lb V) (h : GotP N w (V.got 1) (p, [], [])) (hlb : lb < N) : ∃ g cap V', HeardK w lb 1 g cap V' p.kind p.id := by
  obtain ⟨g, cap, fv, cv, e1, hgN, hc1, hcm, hcell, _, _⟩ := h.at
  exact ⟨g, cap, V, hl, e1, hc1, hcm, hcell 0 _ rfl, hcell 12 _ rfl, by omega⟩
theorem Heard0.but {F : Nat → Prop} {w w' : World} {lb : Nat} {q : Int} {W a m : Nat} {V V' : LineV} (h : Heard0 w lb q W a m V) (hb : But F w w') (hn : ∀ g c, w.heap[g]? = some (.cells c 36) → ¬ F g) (hv : V'.got 0 = V.got 0) : Heard0 w' lb q W a m V' := by
  unfold Heard0
  rw [hv]
  exact ⟨fun hw => (h.1 hw).but hb hn, h.2⟩
theorem conn_out {q : Int} {W a m i : Nat} {d : List UInt8} {n : Nat} {o : OutS} (ho : o ∈ outP q W a m i ++ [⟨((1 : Nat) : Int), d, false⟩]) (e : o.conn = (n : Int)) : n = 0 ∨ n = 1 := by
  unfold outP at ho
  split at ho
  · simp at ho
    rcases ho with rfl | rfl
    · have : (0 : Int) = (n : Int) := e; omega
    · have : (1 : Int) = (n : Int) := e; omega
  · simp at ho
    subst ho
    have : (1 : Int) = (n : Int) := e
    omega
theorem step_st {N0 : Nat} {ash aw : Addr} {w0 w : World} {b lb : Nat} (q : Int) (hq : q = 1 ∨ q = 2) (W Qn a m i : Nat) (hf : Fit W Qn a m i) (hi : i < 16) (hQ : i - a < W + Qn) (h : St N0 ash aw w0 b lb q W Qn a m i w) :
    Calls Tryz.prog 26 #[.pointer (some ⟨b, 0, none⟩), .agg #[.int .i64 0, .int .i64 q, .int .i64 0]] w fun e w' => e = .returned (.bool true) ∧ St N0 ash aw w0 b lb q W Qn a (upP W a m i) (i + 1) w' := by
  obtain ⟨B, V, BV, px, py, X, Y, VS, T, O, Sn, hW, hC⟩ := h
  have h1 := hf.mi
  have hlb : lb < w.heap.size := hW.hall.lt (Or.inl rfl)
  have hset : ∀ u : World, But (fun g => g = lb) u (u.setCell ⟨lb, 2, none⟩ (.slice none 0 0)) := fun u => But.set (F := fun g => g = lb) _ _ _ rfl
  rcases hq with rfl | rfl
  · refine step1 b lb i VS T Sn O w _ hW.stg hC.id (by omega) hC.sent ?_
    intro w1 v' hM
    have hW1 := hW.mid hM
    have hs1 := hM.but.size
    refine (spoken1 b lb ((i : Int) + 1) (numB i) w1 (fun w2 => ∃ V2 X2 Y2, Wh N0 ash aw w0 w2 b lb B V2 BV px py X2 Y2 (lisQ 1 W Qn a (upP W a m i) (i + 1)) (newS (W : Int) Qn) (fun n => n = 0 ∨ n = 1) { VS with sv := v', id := (i : Int) + 1 } T O (Sn ++ [1]) ∧ Heard0 w2 lb 1 W a m V2) hW1.cell0 ?_).mono ?_
    · intro w2 hb2
      have hW2 := hW1.below hb2
      have hs2 := hb2.size
      refine (send_one (msgP 1 ((i : Int) + 1) (numB i)) _ _ w2 hW2 rfl rfl (goes_msg1 i hi) (outsP (Or.inl rfl) W a m i (by omega) _ (goes_ack4 i hi)) (fun w3 g c hh hx => feedP1 W Qn a m i hf hi hQ hh g c hx)).mono ?_
      rintro e w3 ⟨rfl, V3, X3, Y3, hA⟩
      obtain ⟨hH0, hG1⟩ := after_pub 1 W a m i _ (by omega) (hW2.hall.line.got 0 (fun f => f)) hA
      exact ⟨rfl, ⟨V3, X3, Y3, hA.wh.only (fun n hn => by
        rcases hn with hn | ⟨o, ho, e⟩
        · exact hn.elim
        · exact conn_out ho e), hH0⟩, hA.wh.cell0, heardK hA.wh.hall.line.line hG1 (by omega)⟩
    · rintro e w3 ⟨w2, rfl, ⟨V2, X2, Y2, hW2, hH0⟩, rfl⟩
      have hW3 := (hW2.seen 1 (by omega)).only (G' := fun n => n = 0) (fun n hn => hn.1.elim id (fun e => (hn.2 e).elim))
      have hbl : b ≠ lb := fun e => hW2.apart b (Or.inl rfl) (Or.inl e)
      refine ⟨rfl, ?_, ?_, ?_⟩
      · rw [show (w2.setCell ⟨lb, 2, none⟩ (.slice none 0 0)).cell? ⟨b, 4, none⟩ = _ from blk_cell hW3.stg.blk (i := 4) rfl, show w1.cell? ⟨b, 4, none⟩ = _ from blk_cell hM.stg.blk (i := 4) rfl]
      · rw [show (w2.setCell ⟨lb, 2, none⟩ (.slice none 0 0)).cell? ⟨b, 5, none⟩ = _ from blk_cell hW3.stg.blk (i := 5) rfl, show w1.cell? ⟨b, 5, none⟩ = _ from blk_cell hM.stg.blk (i := 5) rfl]
      · obtain ⟨qa, n, c, hS⟩ := see_pub 1 (Or.inl rfl) W Qn a m i hf hW3 (hH0.but (hset w2) (fun g c hg e => hW2.notPkt g c hg (Or.inl e)) rfl) (hC.mid v' 1)
        exact ⟨qa, n, c, _, hS⟩
  · refine step2 b lb i VS T Sn O w _ hW.stg hC.id (by omega) hC.sent ?_
    intro w1 v' hM
    have hW1 := hW.mid hM
    have hs1 := hM.but.size
    refine (spoken2 b lb ((i : Int) + 1) (numB i) w1 (fun w2 => ∃ V2 X2 Y2, Wh N0 ash aw w0 w2 b lb B V2 BV px py X2 Y2 (lisQ 2 W Qn a (upP W a m i) (i + 1)) { newS (W : Int) Qn with known := [(i : Int) + 1] } (fun n => n = 0 ∨ n = 1) { VS with sv := v', id := (i : Int) + 1 } T O (Sn ++ [2]) ∧ Heard0 w2 lb 2 W a m V2 ∧ lb < w2.heap.size) hW1.cell0 ?_).mono ?_
    · intro w2 hb2
      have hW2 := hW1.below hb2
      have hs2 := hb2.size
      refine (send_one (msgP 2 ((i : Int) + 1) (numB i)) _ _ w2 hW2 rfl rfl (goes_msg2 i hi) (outsP (Or.inr rfl) W a m i (by omega) _ (goes_ack5 i hi)) (fun w3 g c hh hx => feedP2 W Qn a m i hf hi hQ hh g c hx)).mono ?_
      rintro e w3 ⟨rfl, V3, X3, Y3, hA⟩
      obtain ⟨hH0, hG1⟩ := after_pub 2 W a m i _ (by omega) (hW2.hall.line.got 0 (fun f => f)) hA
      exact ⟨rfl, ⟨V3, X3, Y3, hA.wh.only (fun n hn => by
        rcases hn with hn | ⟨o, ho, e⟩
        · exact hn.elim
        · exact conn_out ho e), hH0, hA.wh.hall.lt (Or.inl rfl)⟩, hA.wh.cell0, heardK hA.wh.hall.line.line hG1 (by omega)⟩
    · rintro e w3 ⟨w2, rfl, ⟨V2, X2, Y2, hW2, hH0, hl2⟩, rfl⟩
      have hW3 := (hW2.seen 1 (by omega)).only (G' := fun n => n = 0) (fun n hn => hn.1.elim id (fun e => (hn.2 e).elim))
      have hH3 : Heard0 (w2.setCell ⟨lb, 2, none⟩ (.slice none 0 0)) lb 2 W a m (V2.setGot 1 (.slice none 0 0)) := hH0.but (hset w2) (fun g c hg e => hW2.notPkt g c hg (Or.inl e)) rfl
      refine ⟨rfl, ?_, ?_, hW3.cell0, ?_⟩
      · rw [show (w2.setCell ⟨lb, 2, none⟩ (.slice none 0 0)).cell? ⟨b, 4, none⟩ = _ from blk_cell hW3.stg.blk (i := 4) rfl, show w1.cell? ⟨b, 4, none⟩ = _ from blk_cell hM.stg.blk (i := 4) rfl]
      · rw [show (w2.setCell ⟨lb, 2, none⟩ (.slice none 0 0)).cell? ⟨b, 5, none⟩ = _ from blk_cell hW3.stg.blk (i := 5) rfl, show w1.cell? ⟨b, 5, none⟩ = _ from blk_cell hM.stg.blk (i := 5) rfl]
      · intro w4 hb4
        have hW4 := hW3.below hb4
        have hl4 : lb < w4.heap.size := hW4.hall.lt (Or.inl rfl)
        have hH4 := hH3.but (F := fun _ => False) (V' := V2.setGot 1 (.slice none 0 0)) (But.of_below hb4) (fun _ _ _ f => f) rfl
        refine (send_one (ackK 6 ((i : Int) + 1)) [⟨((1 : Nat) : Int), encD (compS ((i : Int) + 1)) [] [], false⟩] (fun _ => (compS ((i : Int) + 1), [], [])) w4 hW4 rfl rfl (goes_ack6 i hi) (outs_one _ (goes_ack7 i hi) 1 (by omega) _ rfl _ (by omega)) (fun w5 g c hh hx => feedR W Qn i hi hh g c hx)).mono ?_
        rintro e w5 ⟨rfl, V5, X5, Y5, hA⟩
        obtain ⟨n1, e1, hg1⟩ := hA.new 0 _ rfl
        have e1' : n1 = 1 := by have : ((1 : Nat) : Int) = (n1 : Int) := e1; omega
        subst e1'
        have hold : V5.got 0 = (V2.setGot 1 (.slice none 0 0)).got 0 := hA.old 0 (fun o ho => by simp at ho; subst ho; simp)
        have hH5 := hH4.but (V' := V5) hA.but (fun g c hg => hW4.notPkt g c hg) hold
        have hW6 := (hA.wh.seen 1 (by omega)).only (G' := fun n => n = 0) (fun n hn => by
          rcases hn with ⟨hn | ⟨o, ho, e⟩, hn1⟩
          · exact hn
          · simp at ho; subst ho
            exact (hn1 (by have : ((1 : Nat) : Int) = (n : Int) := e; omega)).elim)
        refine ⟨rfl, hA.wh.cell0, blk_cell hA.wh.stg.blk rfl, heardK hA.wh.hall.line.line hg1 hl4, ?_⟩
        obtain ⟨qa, n, c, hS⟩ := see_pub 2 (Or.inr rfl) W Qn a m i hf hW6 (hH5.but (hset w5) (fun g c hg e => hA.wh.notPkt g c hg (Or.inl e)) rfl) (hC.mid v' 2)
        exact ⟨qa, n, c, _, hS⟩
def vs0 (lb : Nat) (Wi Qi : Int) : StgV := ⟨lb, .slice none 0 0, 0, .slice none 0 0, .slice none 0 0, 0, Wi, Qi⟩
structure BgX (N0 : Nat) (w0 : World) (Wi Qi : Int) (b lb : Nat) (w : World) : Prop where
  bel : Below N0 w0 w
  b0 : N0 ≤ b
  stg : w.heap[b]? = some (.cells (stgC (vs0 lb Wi Qi)) 77)
theorem BgX.but {F : Nat → Prop} {N0 : Nat} {w0 w w' : World} {Wi Qi : Int} {b lb : Nat} (h : BgX N0 w0 Wi Qi b lb w) (hb : But F w w') (hs : N0 ≤ w0.heap.size) (hF : ∀ g, F g → N0 ≤ g) (hn : ¬ F b) : BgX N0 w0 Wi Qi b lb w' :=
  ⟨below_of h.bel hb hF hs, h.b0, hb.blk hn h.stg⟩
theorem BgX.cell {N0 : Nat} {w0 w : World} {Wi Qi : Int} {b lb : Nat} (h : BgX N0 w0 Wi Qi b lb w) : w.cell? ⟨b, 0, none⟩ = some (.pointer (some ⟨lb, 0, none⟩)) := blk_cell h.stg rfl
def BgA (N0 : Nat) (ash aw : Addr) (w0 : World) (Wi Qi : Int) (b lb : Nat) (w : World) : Prop :=
  BgX N0 w0 Wi Qi b lb w ∧ ∃ B V BV, Room N0 ash aw w B BV 0 (.map []) ∧ LineOf N0 w lb B V (fun _ => False) ∧ (BV.win = Wi ∧ BV.que = Qi) ∧ ∀ j, BV.cv j = .pointer none
def BgB (N0 : Nat) (ash aw : Addr) (w0 : World) (Wi Qi : Int) (S : Ses) (b lb : Nat) (w : World) : Prop :=
  BgX N0 w0 Wi Qi b lb w ∧ ∃ B V BV X fv cv, Room N0 ash aw w B BV 1 (D1 X.cv.sp) ∧ LineOf N0 w lb B V (fun _ => False) ∧ Side w B 0 X { helloD [99] false with fv := fv, cv := cv } S ∧ (∀ g, X.has g → N0 ≤ g) ∧ X.sv.kb ≠ BV.mb ∧ BV.cv 0 = .pointer (some ⟨X.cv.cb, 0, none⟩) ∧ (BV.win = Wi ∧ BV.que = Qi) ∧ ∀ j, j ≠ 0 → BV.cv j = .pointer none
theorem stage_ne {N0 : Nat} {ash aw : Addr} {w : World} {b lb B nn : Nat} {V : LineV} {BV : BrV} {D : DataW Unit} {c : Array Value} (hR : Room N0 ash aw w B BV nn D) (hL : LineAt w lb V) (hb : w.heap[b]? = some (.cells c 77)) : b ≠ lb ∧ b ≠ B ∧ b ≠ BV.mb := by
  have hl : w.heap[lb]? = some (.cells (lineC V) 60) := hL
  obtain ⟨es, cl, hm⟩ := map_blk hR.map
  refine ⟨fun e => ?_, fun e => ?_, fun e => ?_⟩
  · rw [e, hl] at hb; simp at hb
  · have := hR.blk.blk; rw [← e, hb] at this; simp at this
  · rw [e, hm] at hb; simp at hb
theorem Side.notS {w : World} {B k : Nat} {X : SideV} {p : Pkt} {S : Ses} (h : Side w B k X p S) {b : Nat} {c : Array Value} (hb : w.heap[b]? = some (.cells c 77)) : ¬ X.has b := h.not hb (by decide) (by decide)
set_option maxRecDepth 100000 in
theorem ask_two {N0 : Nat} {ash aw : Addr} (lb B : Nat) (q Wi : Int) (Qn : Nat) (hq : q = 1 ∨ q = 2) (ph : Pkt) (V : LineV) (BV : BrV) (D : DataW Unit) (X : SideV) (w : World) (hR : Room N0 ash aw w B BV 1 D) (hL : LineOf N0 w lb B V (fun _ => False)) (hS : Side w B 0 X ph (newS Wi Qn)) (hX0 : ∀ g, X.has g → N0 ≤ g) (hXm : X.sv.kb ≠ BV.mb) (hv : BV.cv 0 = .pointer (some ⟨X.cv.cb, 0, none⟩)) :
    Calls Tryz.prog 49 #[.pointer (some ⟨lb, 0, none⟩), .int .i64 0, .string (bs [35]), .int .i64 q] w fun e w' => e = .returned (.bool true) ∧ ∃ V' X', LineOf N0 w' lb B V' (fun _ => False) ∧ Room N0 ash aw w' B BV 1 D ∧ Side w' B 0 X' ph { newS Wi Qn with filters := [([35], q)] } ∧ X'.cv.cb = X.cv.cb ∧ X'.cv.sp = X.cv.sp ∧ X'.sv.kb = X.sv.kb ∧ (∀ g, X'.has g → X.has g ∨ w.heap.size ≤ g) ∧ But (fun g => g = lb ∨ g = B ∨ X.has g) w w' := by
  rcases hq with rfl | rfl
  · exact ask_hall lb B 0 1 ([35], 1) [130, 6, 0, 1, 0, 1, 35, 1] [144, 3, 0, 1, 1] askD _ sackD V BV D X (newS Wi Qn) [([35], 1)] w hR hL hS hX0 hXm (by omega) hv (fun fv => by kernel_rfl) (by decide) (by decide) (by kernel_rfl) rfl rfl (fun cv => by kernel_rfl) (by decide) (by decide) (by kernel_rfl) rfl
  · exact ask_hall lb B 0 1 ([35], 2) [130, 6, 0, 1, 0, 1, 35, 2] [144, 3, 0, 1, 2] askD _ sackD V BV D X (newS Wi Qn) [([35], 2)] w hR hL hS hX0 hXm (by omega) hv (fun fv => by kernel_rfl) (by decide) (by decide) (by kernel_rfl) rfl rfl (fun cv => by kernel_rfl) (by decide) (by decide) (by kernel_rfl) rfl
set_option maxRecDepth 100000 in
theorem begun_st (win que q : Int) (hq : q = 1 ∨ q = 2) (h1 : -9223372036854775808 ≤ win) (h2 : win ≤ 9223372036854775807) (h3 : -9223372036854775808 ≤ que) (h4 : que ≤ 9223372036854775807) (w : World) (ash aw : Addr) (hG : Gd w.heap.size ash aw w) :
    Calls Tryz.prog 25 #[.int .i64 win, .int .i64 que, .int .i64 q] w fun e w' => ∃ b lb, e = .returned (.pointer (some ⟨b, 0, none⟩)) ∧ St w.heap.size ash aw w b lb q (1 + pickN win 8) (pickN que 9) 0 0 0 w' ∧ w'.cell? ⟨b, 6, none⟩ = some (.int .i64 (1 + (pickN win 8 : Int))) ∧ w'.cell? ⟨b, 7, none⟩ = some (.int .i64 (pickN que 9 : Int)) := by
  have l1 : pickN win 8 < 8 := pickN_lt _ (by omega)
  have l2 : pickN que 9 < 9 := pickN_lt _ (by omega)
  have l3 : (pickN q 3 : Int) = q := by rcases hq with rfl | rfl <;> rfl
  refine (begun_any win que q w (BgA w.heap.size ash aw w (1 + (pickN win 8 : Int)) (pickN que 9 : Int)) (BgB w.heap.size ash aw w (1 + (pickN win 8 : Int)) (pickN que 9 : Int) (newS (1 + (pickN win 8 : Int)) (pickN que 9))) (BgB w.heap.size ash aw w (1 + (pickN win 8 : Int)) (pickN que 9 : Int) { newS (1 + (pickN win 8 : Int)) (pickN que 9) with filters := [([35], q)] }) (fun b lb w' => St w.heap.size ash aw w b lb q (1 + pickN win 8) (pickN que 9) 0 0 0 w' ∧ w'.cell? ⟨b, 6, none⟩ = some (.int .i64 (1 + (pickN win 8 : Int))) ∧ w'.cell? ⟨b, 7, none⟩ = some (.int .i64 (pickN que 9 : Int))) h1 h2 h3 h4 (by omega) (by omega) (sure_head w ash aw hG) ?_ ?_ ?_ ?_ ?_ ?_ ?_ ?_).mono ?_
  · generalize pickN win 8 = W at *
    generalize pickN que 9 = Q at *
    intro w1 b hb1 hle hblk
    refine (opened_any (1 + (W : Int)) (Q : Int) w1 (by omega) (by omega) (by omega) (by omega)).mono ?_
    rintro e w2 ⟨lb, B, mb, rfl, hb, hB, hm, hl, n1, n2, k1, k2, k3⟩
    have hbk := hb.block b (blk_lt hblk)
    have hblk2 := hbk.trans hblk
    have hs1 := hb1.size
    have hb02 : Below w.heap.size w w2 := hb1.trans (hb.mono hs1)
    have hR : Room w.heap.size ash aw w2 B ⟨1 + (W : Int), (Q : Int), fun _ => .pointer none, mb, .slice none 0 0, 0⟩ 0 (.map []) := ⟨hG.below hb02, k2, by omega, by show w.heap.size ≤ mb; omega, rfl, by show (1 : Int) ≤ 1 + (W : Int); omega, by show (Q : Int) ≤ 8; omega, rfl, k3⟩
    obtain ⟨m1, m2, m3⟩ := stage_ne hR k1 hblk2
    have hset : But (fun g => g = b) w2 (w2.setCell ⟨b, 0, none⟩ (.pointer (some ⟨lb, 0, none⟩))) := But.set (F := fun g => g = b) _ _ _ rfl
    refine ⟨lb, rfl, hbk, ⟨below_of hb02 hset (fun g e => by subst e; exact hle) (Nat.le_refl _), hle, by rw [blk_set _ hblk2]; rfl⟩, B, _, _, hR.but hset (fun e => m2 e.symm) (fun e => m3 e.symm) (fun g e => by subst e; exact hle), (LineOf.mk k1 (by omega) rfl rfl (fun _ => rfl) (fun _ _ => rfl)).but hset (fun e => m1 e.symm), ⟨rfl, rfl⟩, fun _ => rfl⟩
  · exact fun b lb w' h => h.1.cell
  · exact fun b lb w' h => h.1.cell
  · exact fun b lb w' h => h.1.cell
  · rintro b lb w1 w2 ⟨hX, B, V, BV, X, fv, cv, hR, hL, hS, hX0, hXm, hv, hwq, hvn⟩ hb
    have hbut : But (fun _ => False) w1 w2 := But.of_below hb
    exact ⟨hX.but hbut (Nat.le_refl _) (fun _ e => e.elim) (fun e => e), B, V, BV, X, fv, cv, hR.but hbut (fun e => e) (fun e => e) (fun _ e => e.elim), hL.but hbut (fun e => e), hS.below hb, hX0, hXm, hv, hwq, hvn⟩
  · generalize pickN win 8 = W at *
    generalize pickN que 9 = Q at *
    rintro b lb w1 ⟨hX, B, V, BV, hR, hL, hwq, hcv⟩
    refine (join_hall lb B 0 0 Q [99] false [16, 13, 0, 4, 77, 81, 84, 84, 4, 0, 0, 0, 0, 1, 99] [32, 2, 0, 0] (helloD [99] false) ackD V BV (.map []) (fun _ => none) w1 hR hL (by omega) (hcv 0) hwq.2 (by omega) (fun j _ _ => hcv j) (fun _ _ _ => trivial) (by decide) (by decide) rfl (by decide) (by omega) (by kernel_rfl) (by decide) (by decide) (by kernel_rfl) rfl rfl (by kernel_rfl) (by decide) (by decide) (by kernel_rfl) rfl rfl).mono ?_
    rintro e w2 ⟨v, rfl, V', X, fv, cv, hL', hR', hS', hX', hbut⟩
    have hs : w.heap.size ≤ w1.heap.size := hX.bel.size
    obtain ⟨m1, m2, m3⟩ := stage_ne hR hL.line hX.stg
    refine ⟨v, rfl, hX.but hbut (Nat.le_refl _) (fun g e => ?_) (fun e => ?_), B, V', _, X, fv, cv, hR', hL', by have h9 := hS'; rw [hwq.1] at h9; exact h9, fun g hg => Nat.le_trans hs (hX' g hg), fun e => ?_, setCon_same _ _ _, hwq, fun j hj => (setCon_ne _ hj _).trans (hcv j)⟩
    · rcases e with rfl | rfl | rfl
      · exact hL.lb0
      · exact hR.B0
      · exact hR.mb0
    · rcases e with e | e | e
      · exact m1 e
      · exact m2 e
      · exact m3 e
    · obtain ⟨es, cl, hmb⟩ := map_blk hR.map
      have h1 := hX' X.sv.kb (Or.inr (Or.inl (Or.inr (Or.inr (Or.inl rfl)))))
      have h2 := blk_lt hmb
      have e' : X.sv.kb = BV.mb := e
      omega
  · rw [l3]
    generalize pickN win 8 = W at *
    generalize pickN que 9 = Q at *
    rintro b lb w2 ⟨hX, B, V, BV, X, fv, cv, hR, hL, hS, hX0, hXm, hv, hwq, hvn⟩
    refine (ask_two lb B q _ Q hq _ V BV _ X w2 hR hL hS hX0 hXm hv).mono ?_
    rintro e w3 ⟨rfl, V', X', hL', hR', hS', e1, e2, e3, hX', hbut⟩
    have hs : w.heap.size ≤ w2.heap.size := hX.bel.size
    obtain ⟨m1, m2, m3⟩ := stage_ne hR hL.line hX.stg
    refine ⟨rfl, hX.but hbut (Nat.le_refl _) (fun g e => ?_) (fun e => ?_), B, V', BV, X', fv, cv, by rw [e2]; exact hR', hL', hS', fun g hg => (hX' g hg).elim (hX0 g) (fun h => Nat.le_trans hs h), by rw [e3]; exact hXm, by rw [e1]; exact hv, hwq, hvn⟩
    · rcases e with rfl | rfl | e
      · exact hL.lb0
      · exact hR.B0
      · exact hX0 g e
    · rcases e with e | e | e
      · exact m1 e
      · exact m2 e
      · exact Side.notS hS hX.stg e
  · generalize pickN win 8 = W at *
    generalize pickN que 9 = Q at *
    rintro b lb w3 ⟨hX, B, V, BV, X, fv, cv, hR, hL, hS, hX0, hXm, hv, hwq, hvn⟩
    refine (join_hall lb B 1 1 Q [100] false [16, 13, 0, 4, 77, 81, 84, 84, 4, 0, 0, 0, 0, 1, 100] [32, 2, 0, 0] (helloD [100] false) ackD V BV (D1 X.cv.sp) (fun j => if j = 0 then some (X.cv, ⟨[], 0, some { helloD [99] false with fv := fv, cv := cv }⟩) else none) w3 hR hL (by omega) (hvn 1 (by decide)) hwq.2 (by omega) (fun j _ hj1 => ?_) (fun j _ _ => ?_) (by decide) (by decide) rfl (by show (1 : Nat) < 8; decide) (by omega) (by kernel_rfl) (by decide) (by decide) (by kernel_rfl) rfl rfl (by kernel_rfl) (by decide) (by decide) (by kernel_rfl) rfl rfl).mono ?_
    · show ConO w3 B BV j (if j = 0 then _ else none)
      by_cases hj : j = 0
      · subst hj; rw [if_pos rfl]; exact ⟨hv, hS.con⟩
      · rw [if_neg hj]; exact hvn j hj
    · show notFor [100] (if j = 0 then _ else none)
      by_cases hj : j = 0
      · rw [if_pos hj]; intro q hq; cases hq; show ([99] : List UInt8) ≠ [100]; decide
      · rw [if_neg hj]; trivial
    · rintro e w4 ⟨v, rfl, V', X1, fv1, cv1, hL', hR', hS', hX1, hbut⟩
      have hs : w.heap.size ≤ w3.heap.size := hX.bel.size
      obtain ⟨es, cl, hmb⟩ := map_blk hR.map
      have hlb : w3.heap[lb]? = some (.cells (lineC V) 60) := hL.line
      obtain ⟨m1, m2, m3⟩ := stage_ne hR hL.line hX.stg
      have hF0 : ∀ g, (g = lb ∨ g = B ∨ g = BV.mb) → w.heap.size ≤ g := fun g e => by
        rcases e with rfl | rfl | rfl
        · exact hL.lb0
        · exact hR.B0
        · exact hR.mb0
      have hX4 := hX.but hbut (Nat.le_refl _) hF0 (fun e => by
        rcases e with e | e | e
        · exact m1 e
        · exact m2 e
        · exact m3 e)
      have hS4 := hS.but hbut (fun g hg e => by
        rcases e with rfl | rfl | rfl
        · exact hS.not hlb (by decide) (by decide) hg
        · exact hS.notB hR.blk.blk hg
        · exact hS.notMap hmb (fun e => hXm e.symm) hg)
      have hblt := blk_lt hX.stg
      have eW : ((1 + W : Nat) : Int) = 1 + (W : Int) := by omega
      have hSX : Side w4 B 0 X { helloD [99] false with fv := fv, cv := cv } (lisQ q (1 + W) Q 0 0 0) := by
        unfold lisQ
        rw [eW]
        exact hS4
      have hSY : Side w4 B 1 X1 { helloD [100] false with fv := fv1, cv := cv1 } (newS ((1 + W : Nat) : Int) Q) := by
        rw [eW]
        have h9 := hS'
        rw [hwq.1] at h9
        exact h9
      refine ⟨v, rfl, ⟨B, V', _, _, _, X, X1, vs0 lb (1 + (W : Int)) (Q : Int), [], [], [], ⟨⟨hR', hL', hSX, hSY, hX0, fun g hg => Nat.le_trans hs (hX1 g hg), hXm, fun e => ?_, fun g h1 h2 => ?_, (setCon_ne _ (by decide) _).trans hv, setCon_same _ _ _⟩, ⟨hX4.stg, ⟨rfl, Or.inl ⟨rfl, rfl⟩⟩, ⟨rfl, Or.inl ⟨rfl, rfl⟩⟩, ⟨rfl, Or.inl ⟨rfl, rfl⟩⟩, (fun p hp => by cases hp), (fun g hg => by cases hg)⟩, rfl, fun g hg => ?_, fun g hg i => ?_, hX4.bel⟩, ⟨rfl, rfl, rfl, rfl⟩⟩, blk_cell hX4.stg rfl, blk_cell hX4.stg rfl⟩
      · have h1 := hX1 X1.sv.kb (Or.inr (Or.inl (Or.inr (Or.inr (Or.inl rfl)))))
        have h2 := blk_lt hmb
        have e' : X1.sv.kb = BV.mb := e
        omega
      · have := hS.lt h1; have := hX1 g h2; omega
      · rcases hg with rfl | hg | hg | hg
        · exact hX.b0
        · cases hg
        · cases hg
        · cases hg
      · have hgb : g = b := by
          rcases hg with rfl | hg | hg | hg
          · rfl
          · cases hg
          · cases hg
          · cases hg
        subst hgb
        rcases i with i | i | i | i | i
        · exact m1 i
        · exact m2 i
        · exact m3 i
        · exact Side.notS hS hX.stg i
        · have := hX1 g i; omega
  · rintro e w' ⟨b, lb, rfl, h⟩
    exact ⟨b, lb, rfl, h⟩
theorem gd_up {N : Nat} {ash aw : Addr} {w : World} (h : Gd N ash aw w) : Gd w.heap.size ash aw w :=
  ⟨h.errs, h.env', Nat.lt_of_lt_of_le h.sh h.env.size, Nat.lt_of_lt_of_le h.wr h.env.size⟩
theorem fit0 (W Qn i : Nat) (hi : i ≤ W + Qn) (h16 : i ≤ 16) (hW : 1 ≤ W) : Fit W Qn 0 (min i W) i := by
  constructor <;> omega
theorem up0 (W i : Nat) : upP W 0 (min i W) i = min (i + 1) W := by
  unfold upP
  split <;> omega
def toldN (W n k : Nat) : Nat := min n (W + k)
theorem fitK (W Qn n k : Nat) (hn : n ≤ W + Qn) (h16 : n ≤ 16) (hW : 1 ≤ W) (hk : k ≤ n) : Fit W Qn k (toldN W n k) n := by
  unfold toldN
  constructor <;> omega
theorem upK (W n k : Nat) : upM (toldN W n k) n = toldN W n (k + 1) := by
  unfold upM toldN
  split <;> omega
theorem St.stay {N0 : Nat} {ash aw : Addr} {w0 w w' : World} {b lb : Nat} {q : Int} {W Qn a m i : Nat} (h : St N0 ash aw w0 b lb q W Qn a m i w) (hb : Below w.heap.size w w') : St N0 ash aw w0 b lb q W Qn a m i w' := by
  obtain ⟨B, V, BV, px, py, X, Y, VS, T, O, Sn, hW, hC⟩ := h
  exact ⟨B, V, BV, px, py, X, Y, VS, T, O, Sn, hW.below hb, hC⟩
theorem whole_st (win que qos many : Int) (h1 : -9223372036854775808 ≤ win) (h2 : win ≤ 9223372036854775807) (h3 : -9223372036854775808 ≤ que) (h4 : que ≤ 9223372036854775807) (h5 : -9223372036854775808 ≤ qos) (h6 : qos ≤ 9223372036854775807) (h7 : -9223372036854775808 ≤ many) (h8 : many ≤ 9223372036854775807) (w : World) (ash aw : Addr) (hG : Gd w.heap.size ash aw w) :
    Calls Tryz.prog 9 #[.int .i64 win, .int .i64 que, .int .i64 qos, .int .i64 many] w fun e w' => e = .returned (.bool true) ∧ Below w.heap.size w w' := by
  have l1 : pickN win 8 < 8 := pickN_lt _ (by omega)
  have l2 : pickN que 9 < 9 := pickN_lt _ (by omega)
  have l3 : pickN qos 2 < 2 := pickN_lt _ (by omega)
  have l4 : pickN many (pickN win 8 + pickN que 9 + 2) < pickN win 8 + pickN que 9 + 2 := pickN_lt _ (by omega)
  have hq : (1 + (pickN qos 2 : Int)) = 1 ∨ (1 + (pickN qos 2 : Int)) = 2 := by omega
  refine whole_any win que qos many (pickN win 8) (pickN que 9) w
    (fun b k w' => ∃ w1 lb, Below w.heap.size w w1 ∧ St w1.heap.size ash aw w1 b lb (1 + (pickN qos 2 : Int)) (1 + pickN win 8) (pickN que 9) 0 (min k (1 + pickN win 8)) k w')
    (fun b k w' => k ≤ pickN many (pickN win 8 + pickN que 9 + 2) ∧ ∃ w1 lb, Below w.heap.size w w1 ∧ St w1.heap.size ash aw w1 b lb (1 + (pickN qos 2 : Int)) (1 + pickN win 8) (pickN que 9) k (toldN (1 + pickN win 8) (pickN many (pickN win 8 + pickN que 9 + 2)) k) (pickN many (pickN win 8 + pickN que 9 + 2)) w')
    _ l1 l2 h5 h6 h7 h8 ?_ ?_ ?_ ?_ ?_ ?_ ?_ ?_
  · intro w1 hb1
    refine (begun_st win que _ hq h1 h2 h3 h4 w1 ash aw (gd_up (hG.below hb1))).mono ?_
    rintro e w2 ⟨b, lb, rfl, hS, c6, c7⟩
    exact ⟨b, rfl, ⟨w1, lb, hb1, by rw [Nat.zero_min]; exact hS⟩, c6, c7⟩
  · rintro b k w1 w2 ⟨w0, lb, hb0, hS⟩ hb
    exact ⟨w0, lb, hb0, hS.stay hb⟩
  · rintro b k w1 w2 ⟨hk, w0, lb, hb0, hS⟩ hb
    exact ⟨hk, w0, lb, hb0, hS.stay hb⟩
  · rintro b k w1 hk ⟨w0, lb, hb0, hS⟩
    refine (step_st _ hq _ _ 0 _ k (fit0 _ _ k (by omega) (by omega) (by omega)) (by omega) (by omega) hS).mono ?_
    rintro e w2 ⟨rfl, hS2⟩
    rw [up0] at hS2
    exact ⟨rfl, w0, lb, hb0, hS2⟩
  · rintro b w1 ⟨w0, lb, hb0, hS⟩
    exact ⟨Nat.zero_le _, w0, lb, hb0, by unfold toldN; rw [Nat.add_zero]; exact hS⟩
  · rintro b k w1 ⟨hk, w0, lb, hb0, B, V, BV, px, py, X, Y, VS, T, O, Sn, hW, hC⟩
    obtain ⟨q3, c3, e3⟩ := br.own_form hW.stg.opn
    have hl := hC.len
    have hc : w1.cell? ⟨b, 3, none⟩ = some VS.pv := blk_cell hW.stg.blk rfl
    rw [e3] at hc
    refine ⟨q3, O.length, c3, hc, ⟨fun h => ?_, fun h => ?_⟩, hk⟩
    · rw [hl]; unfold toldN; omega
    · rw [hl]; unfold toldN; omega
  · rintro b k w1 hk ⟨hk', w0, lb, hb0, hS⟩
    refine (ack_st _ hq _ _ k _ _ (fitK _ _ _ k (by omega) (by omega) (by omega) hk') (by unfold toldN; omega) hS).mono ?_
    rintro e w2 ⟨rfl, hS2⟩
    rw [upK] at hS2
    exact ⟨rfl, hk, w0, lb, hb0, hS2⟩
  · rintro b w1 ⟨hk, w0, lb, hb0, B, V, BV, px, py, X, Y, VS, T, O, Sn, hW, hC⟩
    have hT : T.length = pickN many (pickN win 8 + pickN que 9 + 2) := by
      rw [hC.told]; simp; unfold toldN; omega
    obtain ⟨q1, c1, e1⟩ := br.own_form hW.stg.told
    have hc : w1.cell? ⟨b, 1, none⟩ = some VS.tv := blk_cell hW.stg.blk rfl
    rw [e1, hT] at hc
    have hline : w1.heap[lb]? = some (.cells (lineC V) 60) := hW.hall.line.line
    have hbad : w1.cell? ⟨lb, 17, none⟩ = some (.bool V.bad) := blk_cell hline rfl
    rw [hW.hall.line.bad] at hbad
    refine ⟨q1, c1, lb, hc, fun hp => ?_, hW.cell0, hbad, hb0.trans (hW.bel.mono hb0.size)⟩
    have ho := hW.stg.told
    rw [e1] at ho
    obtain ⟨g, rfl, _, hk1, hk2, hcell⟩ := own_at ho (by omega)
    refine ⟨g, rfl, by omega, hk2, fun j hj => ?_⟩
    have hjT : T[j]? = some (j : Int) := by
      rw [hC.told, List.getElem?_map, List.getElem?_range (by unfold toldN; omega)]
      rfl
    have := hcell j (.int .i64 (j : Int)) (by unfold rd.ints; rw [List.getElem?_map, hjT]; rfl)
    exact this
end Go.Proofs.YtnmfmoimjkoieaaGreatDoor.kw
