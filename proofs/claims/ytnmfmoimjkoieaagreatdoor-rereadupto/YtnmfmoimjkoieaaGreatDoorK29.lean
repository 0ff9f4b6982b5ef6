import Derived.Test.YtnmfmoimjkoieaaGreatDoorK28
import Derived.Test.YtnmfmoimjkoieaaGreatDoorK12
import Derived.Test.YtnmfmoimjkoieaaGreatDoorK26
import Derived.Test.YtnmfmoimjkoieaaGreatDoorK20
import Derived.Test.YtnmfmoimjkoieaaGreatDoorK07
import Derived.Test.YtnmfmoimjkoieaaGreatDoorK05
import Derived.Test.YtnmfmoimjkoieaaGreatDoorK09
/- joins, in the hall: a client that is new. -/
namespace Go.Proofs.YtnmfmoimjkoieaaGreatDoor.br
open Go.RowKit Go.Proofs.YtnmfmoimjkoieaaGreatDoor.topPlain Go.Proofs.YtnmfmoimjkoieaaGreatDoor.topWalks Go.Proofs.YtnmfmoimjkoieaaGreatDoor.decPlain Go.Proofs.YtnmfmoimjkoieaaGreatDoor.rd Go.Proofs.YtnmfmoimjkoieaaGreatDoor.ew Go.Proofs.YtnmfmoimjkoieaaGreatDoor.encPlain Go.Proofs.YtnmfmoimjkoieaaGreatDoor.rf

theorem ConO.setCon {w : World} {B j k : Nat} {V : BrV} {o : Option (ConV × Con)} (h : ConO w B V j o) (hjk : j ≠ k) (v : Value) : ConO w B (V.setCon k v) j o := by
  have e : (V.setCon k v).cv j = V.cv j := by show (if j = k then v else V.cv j) = _; rw [if_neg hjk]
  cases o with
  | none => exact e.trans h
  | some x => obtain ⟨CVj, Cj⟩ := x; exact ⟨e.trans h.1, h.2⟩
/-- of a list of one -/
theorem one_at {α : Type} {a o : α} {j : Nat} (h : [a][j]? = some o) : j = 0 ∧ o = a := by
  match j, h with
  | 0, h => simp at h; exact ⟨rfl, h.symm⟩
  | n + 1, h => simp at h
/-- the cells of a packet that was heard -/
theorem GotP.at {N : Nat} {w : World} {v : Value} {r : Dec} (h : GotP N w v r) : ∃ g cap fv cv, v = .slice (some ⟨g, 0, none⟩) 1 cap ∧ N ≤ g ∧ 1 ≤ cap ∧ cap ≤ maxLen ∧ (∀ i u, (pkK { r.1 with fv := fv, cv := cv })[i]? = some u → w.cell? ⟨g, i, none⟩ = some u) ∧ w.ownsRow N 95 2 fv r.2.1.length (filC r.2.1) ∧ w.ownsRow N 3 1 cv r.2.2.length (ints r.2.2) := by
  obtain ⟨fv, cv, h1, h2, h3⟩ := h
  obtain ⟨q, cap, rfl⟩ := own_form h1
  obtain ⟨g, rfl, _, k1, k2, k3⟩ := own_at h1 (by omega)
  exact ⟨g, cap, fv, cv, rfl, (own_zero h1).2 g rfl, k1, k2, fun i u hu => k3 i u (by simpa using hu), h2, h3⟩
theorem join_hall {N0 : Nat} {ash aw : Addr} (lb B k m : Nat) (client : List UInt8) (clean : Bool) (l d : List UInt8) (pd pa : Pkt) (V : LineV) (BV : BrV) (D : DataW Unit) (cs : Nat → Option (ConV × Con)) (w : World) (hR : Room N0 ash aw w B BV m D) (hL : LineOf N0 w lb B V (fun _ => False)) (hk : k < 2) (hv : BV.cv k = .pointer none)
    (hcs : ∀ j, j < 8 → j ≠ k → ConO w B BV j (cs j)) (hn : ∀ j, j < 8 → j ≠ k → notFor client (cs j)) (hne : client ≠ []) (hcl : client.length ≤ 1000) (hD : Maps.has D (.string client) = false) (hm : Maps.size D < 8) (hm2 : m < 1000)
    (henc : encL (fwW (helloS client clean)) (cbW (helloS client clean)) (helloS client clean) [] [] = some l) (hl0 : 0 < l.length) (hl : l.length ≤ 1000000) (hdec : decL l = .inr ((pd, [], []), l.length)) (hpk : pd.kind = 1) (hpc : pd.client = client)
    (hdd : encD (ackS false 0) [] [] = d) (hd0 : 0 < d.length) (hd1 : d.length ≤ 1000000) (hda : decL d = .inr ((pa, [], []), d.length)) (hpa : pa.kind = 2) (hpa0 : pa.code = 0) :
    Calls Tryz.prog 48 #[.pointer (some ⟨lb, 0, none⟩), .int .i64 (k : Int), .string (bs client), .bool clean] w fun e w' => ∃ v, e = .returned (.tuple #[v, .bool true]) ∧ ∃ V' X fv cv, LineOf N0 w' lb B V' (fun _ => False) ∧ Room N0 ash aw w' B (BV.setCon k (.pointer (some ⟨X.cv.cb, 0, none⟩))) (m + 1) (D.put (.string client) (.lit (.int .i64 (X.cv.sp : Int)))) ∧ Side w' B k X { pd with fv := fv, cv := cv } (newS 1 1) ∧ (∀ g, X.has g → w.heap.size ≤ g) ∧ But (fun g => g = lb ∨ g = B ∨ g = BV.mb) w w' := by
  have hk8 : k < 8 := by omega
  have hlb : w.heap[lb]? = some (.cells (lineC V) 60) := hL.line
  obtain ⟨nB, nM, nMB⟩ := hR.lb_ne hL.line
  obtain ⟨es, cl, hmb⟩ := map_blk hR.map
  have hltB := blk_lt hR.blk.blk
  have hltl := blk_lt hlb
  have hltm := blk_lt hmb
  refine (joins_any lb k client clean V w (fun w' => ∃ CV, BlkAt w' B (BV.setCon k (.pointer (some ⟨CV.cb, 0, none⟩))) (.slice none 0 0) [] ∧ ConAt w' B (k : Int) CV ⟨[], 0, none⟩ ∧ (∀ b, CV.has b → w.heap.size ≤ b) ∧ CV.wv = .slice none 0 0 ∧ But (fun b => b = B) w w') (fun w' => ∃ V' X fv cv, LineOf N0 w' lb B V' (fun n => n = k) ∧ Room N0 ash aw w' B (BV.setCon k (.pointer (some ⟨X.cv.cb, 0, none⟩))) (m + 1) (D.put (.string client) (.lit (.int .i64 (X.cv.sp : Int)))) ∧ Side w' B k X { pd with fv := fv, cv := cv } (newS 1 1) ∧ (∀ g, X.has g → w.heap.size ≤ g) ∧ But (fun g => g = lb ∨ g = B ∨ g = BV.mb) w w') hL.line hk8 ?_ ?_ ?_).mono ?_
  · rw [hL.b]
    exact open_any B k BV (.slice none 0 0) [] w hR.blk hk8 hv
  · rintro w' ⟨CV, _, _, _, _, hb⟩
    exact line_but hL.line hb (fun e => nB e.symm)
  · rintro w' ⟨CV, b1, b2, b3, b4, hb⟩
    obtain ⟨w9, hw9⟩ : ∃ w9, w9 = w'.setCell ⟨lb, 9 + k, none⟩ (.bool false) := ⟨_, rfl⟩
    rw [← hw9]
    have hlb' : w'.heap[lb]? = some (.cells (lineC V) 60) := hb.blk (fun e => nB e.symm) hlb
    have hs9 : But (fun g => g = lb) w' w9 := by rw [hw9]; exact But.set _ _ _ rfl
    have hl9 : LineOf N0 w9 lb B (V.setOff k false) (fun _ => False) := by
      refine ⟨?_, hL.lb0, hL.b, hL.bad, fun n => ?_, hL.got⟩
      · show w9.heap[lb]? = _
        rw [hw9, blk_set _ hlb', lineC_setOff V hk8]
      · show (if n = k then false else V.off n) = false
        split
        · rfl
        · exact hL.off n
    have t9 : But (fun g => g = lb ∨ g = B ∨ g = BV.mb) w w9 := (hb.wide (fun _ _ e => Or.inr (Or.inl e))).trans hs9 (fun _ _ e => Or.inl e)
    have hF0 : ∀ g, (g = lb ∨ g = B ∨ g = BV.mb) → N0 ≤ g := by
      rintro g (rfl | rfl | rfl)
      · exact hL.lb0
      · exact hR.B0
      · exact hR.mb0
    have hG9 : Gd N0 ash aw w9 := hR.gd.below (t9.below hF0 hR.gd.env.size)
    have hB9 : BlkAt w9 B (BV.setCon k (.pointer (some ⟨CV.cb, 0, none⟩))) (.slice none 0 0) [] := ⟨hs9.blk (fun e => nB e) b1.blk, OutsAt.nil _⟩
    have hC9 : ConAt w9 B (k : Int) CV ⟨[], 0, none⟩ := b2.but hs9 (fun b hb' e => by have := b3 b hb'; omega)
    have hm9 : w9.heap[BV.mb]? = w.heap[BV.mb]? := (hs9.keep _ (by have := hb.size; omega) nM).trans (hb.keep _ hltm nMB)
    have hM9 : w9.ownsMap Tryz.prog 9 ptrElem BV.mb m D := map_keep hR.map hm9
    have hcs9 : ∀ j, j < 8 → j ≠ k → ConO w9 B (BV.setCon k (.pointer (some ⟨CV.cb, 0, none⟩))) j (cs j) ∧ ∀ CVj Cj, cs j = some (CVj, Cj) → ¬ CVj.has CV.cb := by
      intro j hj hjk
      have h0 := hcs j hj hjk
      refine ⟨ConO.setCon (h0.but t9 (fun CVj Cj e b hb' f => ?_)) hjk _, fun CVj Cj e hh => ?_⟩
      · rw [e] at h0
        rcases f with rfl | rfl | rfl
        · exact h0.2.not hlb (by decide) hb'
        · exact h0.2.not hR.blk.blk (by decide) hb'
        · exact h0.2.notMap hmb hb'
      · rw [e] at h0
        have := h0.2.lt hh
        have := b3 CV.cb (Or.inl rfl)
        omega
    have s9 := t9.size
    refine (send_all lb B k (helloS client clean) [] [] l (V.setOff k false) (fun _ => (pa, [], [])) w9 (fun w1 w2 ov L => Below w9.heap.size w9 w1 ∧ FdC B k m 1 pd d D (BV.setCon k (.pointer (some ⟨CV.cb, 0, none⟩))) CV w1 w2 ov L) hG9 hL.lb0 hl9.line hL.b hl9.bad (filV_nil _) (intV_nil _) henc hl0 ?_ ?_).mono ?_
    · intro w1 g c hb1 hby
      refine (feed_conn (N0 := N0) (ash := ash) (aw := aw) B k m 1 pd l d D (BV.setCon k (.pointer (some ⟨CV.cb, 0, none⟩))) CV cs g c w1 (hG9.below (hb1.mono hG9.env.size)) (hB9.below hb1) (hC9.below hb1) ⟨_, b4⟩ hk8 (by show (if k = k then _ else _) = _; rw [if_pos rfl]) hR.clk hl0 hl hby hdec hpk (fun g hg => Nat.le_trans hR.gd.env.size (b3 g hg)) hR.mb0 hR.B0 (fun j hj hjk => ⟨(hcs9 j hj hjk).1.but (But.of_below (F := fun _ => False) hb1) (fun _ _ _ _ _ f => f), (hcs9 j hj hjk).2⟩) (by rw [hpc]; exact hn) (by rw [hpc]; exact hne) (map_keep hM9 (hb1.block _ (by rw [← hm9] at hmb; exact blk_lt hmb))) (by rw [hpc]; exact hD) hm hm2 (by rw [hpc]; exact hcl) hR.que (by omega) hdd).mono ?_
      rintro e w2 ⟨ov, L, rfl, hF⟩
      exact ⟨ov, L, rfl, hb1, hF⟩
    · rintro w1 w2 ov L hb1 ⟨_, ⟨dv, rfl⟩, ho, hblk, X, fv, cv, hS, hcb, hX, hMp, hBut⟩
      have hG1 := hG9.below (hb1.mono hG9.env.size)
      have hcb0 := b3 CV.cb (Or.inl rfl)
      have hN0 := hR.gd.env.size
      refine ⟨hG1.below (hBut.below (fun b e => ?_) hG1.env.size), ?_, ho, fun j o hj => ?_, fun i j o o' hi hj _ => (one_at hi).1.trans (one_at hj).1.symm⟩
      · rcases e with rfl | rfl | rfl
        · exact hR.B0
        · exact hR.mb0
        · omega
      · exact line_but (V := V.setOff k false) ((hb1.block _ (blk_lt hl9.line)).trans hl9.line) hBut (fun e => by
          rcases e with e | e | e
          · exact nB e.symm
          · exact nM e.symm
          · omega)
      · obtain ⟨rfl, rfl⟩ := one_at hj
        exact ⟨rfl, hda, hd0, hd1, k, hk, rfl, hL.got k (fun f => f), hl9.off k⟩
    · rintro e w'' ⟨rfl, w1, w2, ov, L, hb1, ⟨_, ⟨dv, rfl⟩, ho, hblk, X, fv, cv, hS, hcb, hX, hMp, hBut⟩, hT⟩
      have hG1 := hG9.below (hb1.mono hG9.env.size)
      have hcb0 := b3 CV.cb (Or.inl rfl)
      have hN0 := hR.gd.env.size
      have hs1 := hb1.size
      have hs2 := hBut.size
      have hl2 : w2.heap[lb]? = some (.cells (lineC (V.setOff k false)) 60) := hBut.blk (fun e => by
          rcases e with e | e | e
          · exact nB e.symm
          · exact nM e.symm
          · omega) ((hb1.block _ (blk_lt hl9.line)).trans hl9.line)
      have hR2 : Room N0 ash aw w2 B (BV.setCon k (.pointer (some ⟨X.cv.cb, 0, none⟩))) (m + 1) (D.put (.string client) (.lit (.int .i64 (X.cv.sp : Int)))) := by
        refine ⟨hG1.below (hBut.below (fun b e => ?_) hG1.env.size), by rw [hcb]; exact hblk, hR.B0, hR.mb0, hR.clk, hR.win, hR.que, hR.rv, by rw [← hpc]; exact hMp⟩
        rcases e with rfl | rfl | rfl
        · exact hR.B0
        · exact hR.mb0
        · omega
      obtain ⟨V', l1, l2, l3, l4, l5, l6⟩ := hT.line
      obtain ⟨n, hn1, hgot⟩ := l6 0 _ (by simp) rfl
      have hnk : n = k := by have : (k : Int) = (n : Int) := hn1; omega
      subst hnk
      obtain ⟨g, cap, fv', cv', e1, e2, e3, e4, e5, _⟩ := hgot.at
      have hlb2 : lb < w2.heap.size := blk_lt hl2
      refine ⟨rfl, ⟨V', X, fv, cv, ⟨l1, hL.lb0, l2.trans hL.b, l3, fun j => by rw [l4]; exact hl9.off j, fun j hj => (l5 j (fun i o hi ho' e => ?_)).trans (hL.got j (fun f => f))⟩, hR2.but hT.but nB nM (fun b e => by subst e; exact hL.lb0), ?_, ?_, ?_⟩, g, cap, V', ⟨l1, l3, e1, e3, e4, ?_, ?_, by omega⟩⟩
      · obtain ⟨_, rfl⟩ := one_at ho'
        have : (n : Int) = (j : Int) := e
        omega
      · have hS' : Side w2 B n X { pd with fv := fv, cv := cv } (newS 1 1) := by have h8 : BV.win = 1 := hR.win; have h9 := hS; rw [show (BV.setCon n (.pointer (some ⟨CV.cb, 0, none⟩))).win = 1 from h8] at h9; exact h9
        exact hS'.but hT.but (fun b hb' e => by subst e; exact hS'.not hl2 (by decide) (by decide) hb')
      · intro q hq
        rcases hX q hq with rfl | h1
        · exact hcb0
        · omega
      · have t1 : But (fun g => g = lb ∨ g = B ∨ g = BV.mb) w w1 := t9.trans (But.of_below (F := fun _ => False) hb1) (fun _ _ f => f.elim)
        have t2 := t1.trans hBut (fun x hx e => by
          rcases e with e | e | e
          · exact Or.inr (Or.inl e)
          · exact Or.inr (Or.inr e)
          · omega)
        exact t2.trans hT.but (fun _ _ e => Or.inl e)
      · rw [← hpa]; exact e5 0 _ rfl
      · rw [← hpa0]; exact e5 6 _ rfl
  · rintro e w' ⟨v, w1, rfl, ⟨V', X, fv, cv, hl, hr, hs, hx, hb⟩, rfl⟩
    have hset : But (fun g => g = lb) w1 (w1.setCell ⟨lb, 1 + k, none⟩ (.slice none 0 0)) := But.set _ _ _ rfl
    have hlw : w1.heap[lb]? = some (.cells (lineC V') 60) := hl.line
    have hh := hl.seen k hk8
    refine ⟨v, rfl, _, X, fv, cv, ⟨hh.line, hh.lb0, hh.b, hh.bad, hh.off, fun n _ => hh.got n (fun e => e.2 e.1)⟩, hr.but hset nB nM (fun b e => by subst e; exact hL.lb0), hs.but hset (fun b hb' e => by subst e; exact hs.not hlw (by decide) (by decide) hb'), hx, hb.trans hset (fun _ _ e => Or.inl e)⟩
end Go.Proofs.YtnmfmoimjkoieaaGreatDoor.br

/- asks, in the hall: a client that is connected asks for a filter. -/
namespace Go.Proofs.YtnmfmoimjkoieaaGreatDoor.br
open Go.RowKit Go.Proofs.YtnmfmoimjkoieaaGreatDoor.topPlain Go.Proofs.YtnmfmoimjkoieaaGreatDoor.topWalks Go.Proofs.YtnmfmoimjkoieaaGreatDoor.decPlain Go.Proofs.YtnmfmoimjkoieaaGreatDoor.rd Go.Proofs.YtnmfmoimjkoieaaGreatDoor.ew Go.Proofs.YtnmfmoimjkoieaaGreatDoor.encPlain Go.Proofs.YtnmfmoimjkoieaaGreatDoor.rf

theorem ask_hall {N0 : Nat} {ash aw : Addr} (lb B k m : Nat) (f : List UInt8 × Int) (l d : List UInt8) (p ph pa : Pkt) (V : LineV) (BV : BrV) (D : DataW Unit) (X : SideV) (S : Ses) (F' : List (List UInt8 × Int)) (w : World) (hR : Room N0 ash aw w B BV m D) (hL : LineOf N0 w lb B V (fun _ => False)) (hS : Side w B k X ph S) (hX0 : ∀ g, X.has g → N0 ≤ g) (hXm : X.sv.kb ≠ BV.mb) (hk : k < 2) (hv : BV.cv k = .pointer (some ⟨X.cv.cb, 0, none⟩))
    (henc : ∀ fv, encL (fwW (askS fv)) (cbW (askS fv)) (askS fv) [f] [] = some l) (hl0 : 0 < l.length) (hl : l.length ≤ 1000000) (hdec : decL l = .inr ((p, [f], []), l.length)) (hkind : p.kind = 8) (htk : takeS S.filters f = some F') (hdd : ∀ cv, encD (subS p.id cv) [] [f.2] = d) (hd0 : 0 < d.length) (hd1 : d.length ≤ 1000000) (hda : decL d = .inr ((pa, [], [f.2]), d.length)) (hpa : pa.kind = 9) :
    Calls Tryz.prog 49 #[.pointer (some ⟨lb, 0, none⟩), .int .i64 (k : Int), .string (bs f.1), .int .i64 f.2] w fun e w' => e = .returned (.bool true) ∧ ∃ V' X', LineOf N0 w' lb B V' (fun _ => False) ∧ Room N0 ash aw w' B BV m D ∧ Side w' B k X' ph { S with filters := F' } ∧ X'.cv.cb = X.cv.cb ∧ X'.cv.sp = X.cv.sp ∧ X'.sv.kb = X.sv.kb ∧ (∀ g, X'.has g → X.has g ∨ w.heap.size ≤ g) ∧ But (fun g => g = lb ∨ g = B ∨ X.has g) w w' := by
  have hk8 : k < 8 := by omega
  have hlb : w.heap[lb]? = some (.cells (lineC V) 60) := hL.line
  obtain ⟨nB, nM, nMB⟩ := hR.lb_ne hL.line
  obtain ⟨es, cl, hmb⟩ := map_blk hR.map
  have nXl : ¬ X.has lb := hS.not hlb (by decide) (by decide)
  have nXm : ¬ X.has BV.mb := hS.notMap hmb (fun e => hXm e.symm)
  refine (asks_line lb k f.1 f.2 w (fun w' => ∃ V' X', LineOf N0 w' lb B V' (fun n => n = k) ∧ Room N0 ash aw w' B BV m D ∧ Side w' B k X' ph { S with filters := F' } ∧ X'.cv.cb = X.cv.cb ∧ X'.cv.sp = X.cv.sp ∧ X'.sv.kb = X.sv.kb ∧ (∀ g, X'.has g → X.has g ∨ w.heap.size ≤ g) ∧ But (fun g => g = lb ∨ g = B ∨ X.has g) w w') hk8 ?_).mono ?_
  · obtain ⟨w9, hw9⟩ : ∃ w9, w9 = w.alloc (.cells #[.string (bs f.1), .int .i64 f.2] 95) := ⟨_, rfl⟩
    have hf9 : FilV w9 (.slice (some ⟨w.heap.size, 0, none⟩) 1 1) [f] := by
      refine ⟨_, 1, rfl, by simp [maxLen], fun j f' hj => ⟨w.heap.size, rfl, ?_, ?_⟩⟩
      · rw [hw9]; simp
      · obtain ⟨rfl, rfl⟩ := one_at hj
        rw [hw9]
        exact ⟨cell_new _ _ _ rfl, cell_new _ _ _ rfl⟩
    have hb9 : Below w.heap.size w w9 := by rw [hw9]; exact (Below.refl _ _).alloc (Nat.le_refl _) _
    rw [← hw9]
    have hG9 : Gd N0 ash aw w9 := hR.gd.below (hb9.mono hR.gd.env.size)
    have hB9 := hR.blk.below hb9
    have hS9 := hS.below hb9
    have hl9 := hL.but (But.of_below (F := fun _ => False) hb9) (fun f => f)
    have s9 := hb9.size
    refine (send_all lb B k (askS (.slice (some ⟨w.heap.size, 0, none⟩) 1 1)) [f] [] l V (fun _ => (pa, [], [f.2])) w9 (fun w1 w2 ov L => Below w9.heap.size w9 w1 ∧ FdS B k ph d BV X { S with filters := F' } w1 w2 ov L) hG9 hL.lb0 hl9.line hL.b hl9.bad hf9 (intV_nil _) (henc _) hl0 ?_ ?_).mono ?_
    · intro w1 g c hb1 hby
      refine (feed_sub (N0 := N0) (ash := ash) (aw := aw) B k p ph f l d BV X S F' g c w1 (hG9.below (hb1.mono hG9.env.size)) (hB9.below hb1) (hS9.below hb1) hX0 hR.B0 hk8 hv hR.clk hR.rv hl0 hl hby hdec hkind htk hdd).mono ?_
      rintro e w2 ⟨ov, L, rfl, hF⟩
      exact ⟨ov, L, rfl, hb1, hF⟩
    · rintro w1 w2 ov L hb1 ⟨_, ⟨dv, rfl⟩, ho, hblk, X', hS', e1, e2, e3, hX', hBut⟩
      have hG1 := hG9.below (hb1.mono hG9.env.size)
      refine ⟨hG1.below (hBut.below (fun b e => e.elim (fun e => by subst e; exact hR.B0) (hX0 b)) hG1.env.size), ?_, ho, fun j o hj => ?_, fun i j o o' hi hj _ => (one_at hi).1.trans (one_at hj).1.symm⟩
      · exact line_but (V := V) ((hb1.block _ (blk_lt hl9.line)).trans hl9.line) hBut (fun e => e.elim (fun e => nB e.symm) nXl)
      · obtain ⟨rfl, rfl⟩ := one_at hj
        exact ⟨rfl, hda, hd0, hd1, k, hk, rfl, hL.got k (fun f => f), hL.off k⟩
    · rintro e w'' ⟨rfl, w1, w2, ov, L, hb1, ⟨_, ⟨dv, rfl⟩, ho, hblk, X', hS', e1, e2, e3, hX', hBut⟩, hT⟩
      have hG1 := hG9.below (hb1.mono hG9.env.size)
      have hs1 := hb1.size
      have hs2 := hBut.size
      have hl2 : w2.heap[lb]? = some (.cells (lineC V) 60) := hBut.blk (fun e => e.elim (fun e => nB e.symm) nXl) ((hb1.block _ (blk_lt hl9.line)).trans hl9.line)
      have hm1 : w1.heap[BV.mb]? = w.heap[BV.mb]? := (hb1.block _ (by have := blk_lt hmb; omega)).trans (hb9.block _ (blk_lt hmb))
      have hR2 : Room N0 ash aw w2 B BV m D :=
        ⟨hG1.below (hBut.below (fun b e => e.elim (fun e => by subst e; exact hR.B0) (hX0 b)) hG1.env.size), hblk, hR.B0, hR.mb0, hR.clk, hR.win, hR.que, hR.rv, map_keep (map_keep hR.map hm1) (hBut.keep _ (by have := blk_lt hmb; omega) (fun e => e.elim nMB nXm))⟩
      obtain ⟨V', l1, l2, l3, l4, l5, l6⟩ := hT.line
      obtain ⟨n, hn1, hgot⟩ := l6 0 _ (by simp) rfl
      have hnk : n = k := by have : (k : Int) = (n : Int) := hn1; omega
      subst hnk
      obtain ⟨g, cap, fv', cv', e1', e2', e3', e4', e5', _, e6'⟩ := hgot.at
      obtain ⟨cq, cc, rfl⟩ := own_form e6'
      obtain ⟨cg, rfl, _, i1, _, i2⟩ := own_at e6' (by simp)
      have hcg := (own_zero e6').2 cg rfl
      have hlb2 : lb < w2.heap.size := blk_lt hl2
      refine ⟨rfl, ⟨V', X', ⟨l1, hL.lb0, l2.trans hL.b, l3, fun j => by rw [l4]; exact hL.off j, fun j hj => (l5 j (fun i o hi ho' e => ?_)).trans (hL.got j (fun f => f))⟩, hR2.but hT.but nB nM (fun b e => by subst e; exact hL.lb0), ?_, e1, e2, e3, ?_, ?_⟩, g, cap, cg, cc, V', ⟨l1, l3, e1', e3', e4', ?_, ?_, ?_, i1, by omega, by omega⟩⟩
      · obtain ⟨_, rfl⟩ := one_at ho'
        have : (n : Int) = (j : Int) := e
        omega
      · exact hS'.but hT.but (fun b hb' e => by subst e; exact hS'.not hl2 (by decide) (by decide) hb')
      · exact fun q hq => (hX' q hq).imp id (fun h1 => by omega)
      · have t1 : But (fun g => g = lb ∨ g = B ∨ X.has g) w w1 := (But.of_below hb9).trans (But.of_below (F := fun _ => False) hb1) (fun _ _ f => f.elim)
        have t2 := t1.trans hBut (fun x hx e => Or.inr e)
        exact t2.trans hT.but (fun _ _ e => Or.inl e)
      · rw [← hpa]; exact e5' 0 _ rfl
      · exact e5' 14 _ rfl
      · exact i2 0 _ rfl
  · rintro e w' ⟨w1, rfl, ⟨V', X', hl', hr, hs, e1, e2, e3, hx, hb⟩, rfl⟩
    have hset : But (fun g => g = lb) w1 (w1.setCell ⟨lb, 1 + k, none⟩ (.slice none 0 0)) := But.set _ _ _ rfl
    have hlw : w1.heap[lb]? = some (.cells (lineC V') 60) := hl'.line
    have hh := hl'.seen k hk8
    exact ⟨rfl, _, X', ⟨hh.line, hh.lb0, hh.b, hh.bad, hh.off, fun n _ => hh.got n (fun e => e.2 e.1)⟩, hr.but hset nB nM (fun b e => by subst e; exact hL.lb0), hs.but hset (fun b hb' e => by subst e; exact hs.not hlw (by decide) (by decide) hb'), e1, e2, e3, hx, hb.trans hset (fun _ _ e => Or.inl e)⟩
end Go.Proofs.YtnmfmoimjkoieaaGreatDoor.br

/- Feed of a PUBLISH of QoS 2 that the other side asks for: it is told, and PUBREC. -/
namespace Go.Proofs.YtnmfmoimjkoieaaGreatDoor.br
open Go.RowKit Go.Proofs.YtnmfmoimjkoieaaGreatDoor.topPlain Go.Proofs.YtnmfmoimjkoieaaGreatDoor.topWalks Go.Proofs.YtnmfmoimjkoieaaGreatDoor.decPlain Go.Proofs.YtnmfmoimjkoieaaGreatDoor.rd Go.Proofs.YtnmfmoimjkoieaaGreatDoor.ew Go.Proofs.YtnmfmoimjkoieaaGreatDoor.encPlain Go.Proofs.YtnmfmoimjkoieaaGreatDoor.rf

/-- what a PUBLISH leaves, but for what came out -/
def SideP (B k0 k1 : Nat) (p0 p1 : Pkt) (X0 X1 : SideV) (S0 S1 : Ses) (w w' : World) : Prop :=
  ∃ X0' X1', Side w' B k0 X0' p0 S0 ∧ Side w' B k1 X1' p1 S1 ∧ X0'.cv = X0.cv ∧ X1'.cv.cb = X1.cv.cb ∧ X1'.cv.sp = X1.cv.sp ∧ (∀ g, X0'.has g → X0.has g ∨ w.heap.size ≤ g) ∧ (∀ g, X1'.has g → X1.has g ∨ w.heap.size ≤ g) ∧ But (fun g => g = B ∨ X0.has g ∨ X1.has g) w w'
def outsP (k0 k1 : Nat) (d0 d1 : List UInt8) (dv0 dv1 : Value) : List (OutS × Value) := [(⟨(k0 : Int), d0, false⟩, dv0), (⟨(k1 : Int), d1, false⟩, dv1)]
def FdP (B k0 k1 : Nat) (p0 p1 : Pkt) (d0 d1 : List UInt8) (BV : BrV) (X0 X1 : SideV) (S0 S1 : Ses) (w w' : World) (ov : Value) (L : List (OutS × Value)) : Prop :=
  (∃ dv0 dv1, L = outsP k0 k1 d0 d1 dv0 dv1) ∧ OutsAt w' ov L ∧ BlkAt w' B BV (.slice none 0 0) [] ∧ SideP B k0 k1 p0 p1 X0 X1 S0 S1 w w'
/-- behind the listener's round -/
def ToldP (B k0 : Nat) (d0 : List UInt8) (BV : BrV) (X0 : SideV) (S0' : Ses) (wP a : World) : Prop :=
  ∃ uv' ov' dv, But (fun g => X0.sv.has X0.cv.sp g ∨ g = B) wP a ∧ SesAt a X0.cv.sp { X0.sv with uv := uv' } S0' ∧ BlkAt a B BV ov' [(⟨(k0 : Int), d0, false⟩, dv)] ∧ (uv'.ownBlock = X0.sv.uv.ownBlock ∨ ∃ b, uv'.ownBlock = some b ∧ wP.heap.size ≤ b) ∧ ∀ b, ov'.ownBlock = some b → wP.heap.size ≤ b
theorem ToldP.below {B k0 : Nat} {d0 : List UInt8} {BV : BrV} {X0 : SideV} {S0' : Ses} {wP a b : World} (h : ToldP B k0 d0 BV X0 S0' wP a) (hb : Below a.heap.size a b) : ToldP B k0 d0 BV X0 S0' wP b := by
  obtain ⟨uv', ov', dv, h1, h2, h3, h4, h5⟩ := h
  exact ⟨uv', ov', dv, h1.trans (But.of_below (F := fun _ => False) hb) (fun _ _ f => f.elim), h2.below hb, h3.below hb, h4, h5⟩
/-- publish: the listener is told, the speaker asks for nothing -/
theorem publish_two {N0 : Nat} {ash aw : Addr} (B k0 k1 nn : Nat) (m : Msg) (c0 c1 d0 : List UInt8) (q0 q1 : Int) (D : DataW Unit) (p0 p1 : Pkt) (BV : BrV) (X0 X1 : SideV) (S0 S0' S1 : Ses) (w : World) (hG : Gd N0 ash aw w) (h : BlkAt w B BV (.slice none 0 0) []) (h0 : Side w B k0 X0 p0 S0) (h1 : Side w B k1 X1 p1 S1) (hM : w.ownsMap Tryz.prog 9 ptrElem BV.mb nn D) (hX0 : ∀ g, X0.has g → N0 ≤ g) (hNB : N0 ≤ B) (hXm : X0.sv.kb ≠ BV.mb) (hdis : ∀ g, X0.has g → ¬ X1.has g)
    (hr : m.retain = false) (hks : ∀ ss : List (List UInt8), ss.Perm (strKeys D) → ss.mergeSort (fun x y => decide (x ≤ y)) = [c0, c1]) (hsz : Maps.size D ≤ 1000000) (hc0 : c0.length ≤ 1000) (hc1 : c1.length ≤ 1000) (hat0 : D.atKey (.string c0) .nil = .lit (.int .i64 ((X0.cv.sp : Nat) : Int))) (hat1 : D.atKey (.string c1) .nil = .lit (.int .i64 ((X1.cv.sp : Nat) : Int)))
    (ht : m.topic.length ≤ 65535) (hf0 : ∀ f ∈ S0.filters, f.1.length ≤ 65535) (hf1 : ∀ f ∈ S1.filters, f.1.length ≤ 65535) (ha0 : asksS m.topic S0.filters 0 false = (q0, true)) (ha1 : asksS m.topic S1.filters 0 false = (q1, false))
    (hdd : encD (pktS (toldS m q0 false) (tellId S0 (toldS m q0 false))) [] [] = d0) (hto : ∀ s, tellO (k0 : Int) (some s) S0 (toldS m q0 false) d0 = [⟨(k0 : Int), d0, false⟩]) (hts : tellS true S0 (toldS m q0 false) = S0') (hl0 : 0 ≤ S0.last) (hu0 : S0.under.length < 65000) :
    Calls Tryz.prog 110 #[.pointer (some ⟨B, 0, none⟩), msgV m] w fun e w' => e = .returned (.tuple #[]) ∧ ToldP B k0 d0 BV X0 S0' w w' := by
  obtain ⟨es, cl, hmb⟩ := map_blk hM
  have nXm : ¬ X0.has BV.mb := h0.notMap hmb (fun e => hXm e.symm)
  have nMB : BV.mb ≠ B := fun e => by have := h.blk; rw [← e, hmb] at this; simp at this
  have hs0 : ∀ g, X0.sv.has X0.cv.sp g → N0 ≤ g := fun g hg => hX0 g (Or.inr (Or.inl hg))
  have hltm := blk_lt hmb
  have hF0 : ∀ g, (X0.sv.has X0.cv.sp g ∨ g = B) → N0 ≤ g := fun g e => e.elim (hs0 g) (fun e => by subst e; exact hNB)
  refine (publish_any B BV.mb nn m D [c0, c1] w (fun k a => match k with | 0 => Below w.heap.size w a | _ => ToldP B k0 d0 BV X0 S0' w a) hr hks hsz (fun _ hb => hb) ?_ ?_ ?_).mono ?_
  · intro k a hJ
    match k, hJ with
    | 0, hJ => exact ⟨blk_cell (h.below hJ).blk rfl, map_keep hM (hJ.block _ hltm)⟩
    | k + 1, hJ =>
      obtain ⟨uv', ov', dv, g1, g2, g3, g4, g5⟩ := hJ
      exact ⟨blk_cell g3.blk rfl, map_keep hM (g1.keep _ hltm (fun e => e.elim (fun e => nXm (Or.inr (Or.inl e))) nMB))⟩
  · intro k a b hJ hab
    match k, hJ with
    | 0, hJ => exact Below.trans hJ (hab.mono (Below.size hJ))
    | k + 1, hJ => exact ToldP.below hJ hab
  · intro k c hk
    match k, hk with
    | 0, hk =>
      simp at hk
      subst hk
      refine ⟨hc0, X0.cv.sp, q0, true, hat0, fun a hJ => ?_, fun _ a hJ => ?_, fun e => (by cases e)⟩
      · have hJ' : Below w.heap.size w a := hJ
        have := asks_any X0.cv.sp X0.sv S0 m.topic a (h0.below hJ').ses (hG.below (hJ'.mono hG.env.size)).env.inv ht hf0
        rw [ha0] at this
        exact this
      · have hJ' : Below w.heap.size w a := hJ
        have hGa : Gd N0 ash aw a := hG.below (hJ'.mono hG.env.size)
        have hSa := h0.below hJ'
        have hE : EncOK N0 a (pktS (toldS m q0 false) (tellId S0 (toldS m q0 false))) d0 := by rw [← hdd]; exact hGa.enc _ rfl rfl
        have hBa := h.below hJ'
        have hnB : ¬ X0.sv.has X0.cv.sp B := fun hh => hSa.notB hBa.blk (Or.inr (Or.inl hh))
        refine (tell_any (N0 := N0) X0.cv.sp B X0.cv.cb (k0 : Int) (toldS m q0 false) d0 X0.sv S0 BV (.slice none 0 0) [] a hE hs0 hSa.ses hBa (fun x y e => ?_) (by simp) hl0 hu0).mono ?_
        · rw [hSa.snd] at e
          cases e
          exact hSa.snk
        · rintro e a' ⟨rfl, hw, uv', g1, g2⟩
          rw [hSa.snd, hto] at hw
          rw [show X0.sv.snd.isSome = true by rw [hSa.snd]; rfl, hts] at g1
          obtain ⟨ov', M, b1, b2, b3, b4, b5⟩ := hw
          obtain ⟨dv, rfl⟩ := map_one b2
          have b3' : But (fun g => X0.sv.has X0.cv.sp g ∨ g = B) a a' := b3.wide (fun x _ e => e.imp id (fun e => e.elim id (fun e => by cases e)))
          refine ⟨rfl, ⟨uv', ov', dv, (But.of_below hJ').trans b3' (fun _ _ f => f), g1, b1, g2.imp id (fun ⟨b, e1, e2⟩ => ⟨b, e1, Nat.le_trans hJ'.size e2⟩), fun b hb => ?_⟩, b3'.size, fun g i1 i2 => b3'.keep g i2 (fun hh => ?_)⟩
          · rcases b4 with e | ⟨b', e1, e2⟩
            · rw [e] at hb; cases hb
            · rw [e1] at hb; cases hb; exact Nat.le_trans hJ'.size e2
          · rcases hh with hh | hh
            · have := h0.ses.lt hh; omega
            · have := blk_lt h.blk; omega
    | 1, hk =>
      simp at hk
      subst hk
      refine ⟨hc1, X1.cv.sp, q1, false, hat1, fun a hJ => ?_, fun e => (by cases e), fun _ a hJ => hJ⟩
      obtain ⟨uv', ov', dv, g1, g2, g3, g4, g5⟩ := (show ToldP B k0 d0 BV X0 S0' w a from hJ)
      have hs1 : SesAt a X1.cv.sp X1.sv S1 := h1.ses.but g1 (fun b hb e => by
        rcases e with e | e
        · exact hdis b (Or.inr (Or.inl e)) (Or.inr (Or.inl hb))
        · subst e; exact h1.notB h.blk (Or.inr (Or.inl hb)))
      have := asks_any X1.cv.sp X1.sv S1 m.topic a hs1 (hG.below (g1.below hF0 hG.env.size)).env.inv ht hf1
      rw [ha1] at this
      exact this
    | k + 2, hk => simp at hk
  · rintro e w' ⟨rfl, hJ⟩
    exact ⟨rfl, hJ⟩
end Go.Proofs.YtnmfmoimjkoieaaGreatDoor.br
