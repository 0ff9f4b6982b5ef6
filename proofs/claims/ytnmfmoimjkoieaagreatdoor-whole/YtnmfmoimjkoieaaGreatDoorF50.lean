import Derived.Test.YtnmfmoimjkoieaaGreatDoorF45
import Derived.Test.YtnmfmoimjkoieaaGreatDoorF42
namespace Go.Proofs.YtnmfmoimjkoieaaGreatDoor.kw
open Go.RowKit Go.Proofs.YtnmfmoimjkoieaaGreatDoor.topPlain Go.Proofs.YtnmfmoimjkoieaaGreatDoor.topWalks Go.Proofs.YtnmfmoimjkoieaaGreatDoor.decPlain Go.Proofs.YtnmfmoimjkoieaaGreatDoor.rd Go.Proofs.YtnmfmoimjkoieaaGreatDoor.ew Go.Proofs.YtnmfmoimjkoieaaGreatDoor.encPlain Go.Proofs.YtnmfmoimjkoieaaGreatDoor.rf Go.Proofs.YtnmfmoimjkoieaaGreatDoor.br Go.Proofs.YtnmfmoimjkoieaaGreatDoor.kp
def msgQ (q : Int) (k : Nat) : Msg := ⟨[116], numB k, q, false⟩
def uwQ (q : Int) (k : Nat) : Uw := ⟨(k : Int) + 1, q, false, msgQ q k⟩
def lisQ (q : Int) (W Qn a m i : Nat) : Ses := ⟨[([35], q)], [], (W : Int), Qn, (List.range' m (i - m)).map (msgQ q), (List.range' a (m - a)).map (uwQ q), (m : Int)⟩
structure Fit (W Qn a m i : Nat) : Prop where
  am : a ≤ m
  mi : m ≤ i
  win : m - a ≤ W
  full : m < i → m - a = W
  que : i - m ≤ Qn
  i16 : i ≤ 16
  w1 : 1 ≤ W
theorem range'_end (a n : Nat) : List.range' a (n + 1) = List.range' a n ++ [a + n] := by
  rw [List.range'_concat]; simp
theorem not_busy (q : Int) (a n : Nat) (x : Int) (h : (a : Int) + n < x) : busy ((List.range' a n).map (uwQ q)) x = false := by
  unfold busy
  rw [List.any_eq_false]
  intro u hu
  obtain ⟨k, hk, rfl⟩ := List.mem_map.1 hu
  have := List.mem_range'_1.1 hk
  simp [uwQ]
  omega
theorem next_is (q : Int) (a m : Nat) (ham : a ≤ m) (hm : m ≤ 16) : nextS (m : Int) ((List.range' a (m - a)).map (uwQ q)) = (m : Int) + 1 := by
  have e : aft (m : Int) = (m : Int) + 1 := by unfold aft; omega
  unfold nextS nextF
  rw [e, if_neg (by rw [not_busy q a (m - a) _ (by omega)]; simp)]
theorem lis_begin (q : Int) (W Qn a m : Nat) (ham : a ≤ m) (hm : m ≤ 16) (i : Nat) (r : List Msg) (hr : r = (List.range' (m + 1) (i - (m + 1))).map (msgQ q)) :
    beginS { lisQ q W Qn a m i with waiting := r } (msgQ q m) = lisQ q W Qn a (m + 1) i := by
  subst hr
  unfold beginS lisQ
  simp only
  rw [next_is q a m ham hm, show m + 1 - a = (m - a) + 1 by omega, range'_end, List.map_append, show a + (m - a) = m by omega]
  rfl
theorem tell_begin (q : Int) (hq : q = 1 ∨ q = 2) (W Qn a m : Nat) (h : Fit W Qn a m m) (hw : m - a < W) : tellS true (lisQ q W Qn a m m) (msgQ q m) = lisQ q W Qn a (m + 1) (m + 1) := by
  have hq0 : ¬ (msgQ q m).qos = 0 := by show ¬ q = 0; omega
  have hc : (true && decide (((lisQ q W Qn a m m).under.length : Int) < (lisQ q W Qn a m m).window)) = true := by
    simp [lisQ]; omega
  unfold tellS
  rw [if_neg hq0, if_pos hc]
  have := lis_begin q W Qn a m h.am h.i16 (m + 1) [] (by simp)
  rw [← this]
  congr 1
  unfold lisQ
  simp
theorem tell_wait (q : Int) (hq : q = 1 ∨ q = 2) (W Qn a m i : Nat) (h : Fit W Qn a m i) (hw : ¬ m - a < W) (hQ : i - m < Qn) : tellS true (lisQ q W Qn a m i) (msgQ q i) = lisQ q W Qn a m (i + 1) := by
  have hq0 : ¬ (msgQ q i).qos = 0 := by show ¬ q = 0; omega
  have hc : ¬ (true && decide (((lisQ q W Qn a m i).under.length : Int) < (lisQ q W Qn a m i).window)) = true := by
    simp [lisQ]; omega
  unfold tellS
  rw [if_neg hq0, if_neg hc]
  unfold waitS
  rw [if_pos (by simp [lisQ]; exact hQ)]
  unfold lisQ
  simp only
  rw [show i + 1 - m = (i - m) + 1 by have := h.mi; omega, range'_end, List.map_append, show m + (i - m) = i by have := h.mi; omega]
  rfl
theorem end_first (q : Int) (a m : Nat) (p : Uw → Bool) (u : Uw) (hu : p u = true) (hp : ∀ k, a < k → p (uwQ q k) = false) : (u :: (List.range' (a + 1) (m - (a + 1))).map (uwQ q)).filter (fun u => !p u) = (List.range' (a + 1) (m - (a + 1))).map (uwQ q) := by
  rw [List.filter_cons, if_neg (by rw [hu]; simp), List.filter_eq_self]
  intro x hx
  obtain ⟨k, hk, rfl⟩ := List.mem_map.1 hx
  have := List.mem_range'_1.1 hk
  rw [hp k (by omega)]
  rfl
theorem under_first (q : Int) (a m : Nat) (h : a < m) : (List.range' a (m - a)).map (uwQ q) = uwQ q a :: (List.range' (a + 1) (m - (a + 1))).map (uwQ q) := by
  rw [show m - a = (m - (a + 1)) + 1 by omega, List.range'_succ]
  rfl
def lisE (q : Int) (W Qn a m i : Nat) : Ses := ⟨[([35], q)], [], (W : Int), Qn, (List.range' m (i - m)).map (msgQ q), (List.range' (a + 1) (m - (a + 1))).map (uwQ q), (m : Int)⟩
theorem end_done (W Qn a m i : Nat) (h : a < m) : endS (isDone ((a : Int) + 1)) (lisQ 1 W Qn a m i) = lisE 1 W Qn a m i := by
  unfold endS lisQ lisE
  simp only
  rw [under_first 1 a m h, end_first 1 a m _ _ (by simp [isDone, uwQ]) (fun k hk => by simp [isDone, uwQ]; omega)]
def lisR (W Qn a m i : Nat) : Ses := { lisQ 2 W Qn a m i with under := (lisQ 2 W Qn a m i).under.set 0 (relU ((a : Int) + 1)) }
theorem end_comp (W Qn a m i : Nat) (h : a < m) : endS (isComp ((a : Int) + 1)) (lisR W Qn a m i) = lisE 2 W Qn a m i := by
  unfold endS lisR lisQ lisE
  simp only
  rw [under_first 2 a m h, List.set_cons_zero, end_first 2 a m _ _ (by simp [br.isComp, relU]) (fun k hk => by simp [br.isComp, uwQ])]
def upM (m i : Nat) : Nat := if m < i then m + 1 else m
theorem go_is (q : Int) (W Qn a m i : Nat) (hf : Fit W Qn a m i) (h : a < m) : goS true (lisE q W Qn a m i) = lisQ q W Qn (a + 1) (upM m i) i ∧ goM true (lisE q W Qn a m i) = (if m < i then some (msgQ q m) else none) := by
  have h1 := hf.mi
  have h2 := hf.i16
  have h3 := hf.win
  have h4 := hf.w1
  unfold goS goM upM
  by_cases hmi : m < i
  · have hw : (lisE q W Qn a m i).waiting = msgQ q m :: (List.range' (m + 1) (i - (m + 1))).map (msgQ q) := by
      show (List.range' m (i - m)).map (msgQ q) = _
      rw [show i - m = (i - (m + 1)) + 1 by omega, List.range'_succ]
      rfl
    have hm : mayS true (lisE q W Qn a m i) = true := by
      simp [mayS, lisE]; omega
    rw [hw]
    simp only [hm, if_true, hmi]
    refine ⟨?_, trivial⟩
    exact lis_begin q W Qn (a + 1) m h (by omega) i _ rfl
  · have hw : (lisE q W Qn a m i).waiting = [] := by
      show (List.range' m (i - m)).map (msgQ q) = _
      rw [show i - m = 0 by omega]
      rfl
    rw [hw]
    simp only [hmi, if_false]
    exact ⟨rfl, trivial⟩
theorem go_one (q : Int) (W Qn a m i : Nat) (hf : Fit W Qn a m i) (h : a < m) : (goS true (lisE q W Qn a m i)).waiting = [] ∨ mayS true (goS true (lisE q W Qn a m i)) = false := by
  have h1 := hf.mi
  have h3 := hf.full
  have h4 := hf.am
  rw [(go_is q W Qn a m i hf h).1]
  unfold upM
  by_cases hmi : m < i
  · right
    rw [if_pos hmi]
    simp [mayS, lisQ]
    omega
  · left
    rw [if_neg hmi]
    show (List.range' m (i - m)).map (msgQ q) = _
    rw [show i - m = 0 by omega]
    rfl
def upP (W a m _i : Nat) : Nat := if m - a < W then m + 1 else m
theorem tell_is (q : Int) (hq : q = 1 ∨ q = 2) (W Qn a m i : Nat) (h : Fit W Qn a m i) (hQ : i - a < W + Qn) : tellS true (lisQ q W Qn a m i) (msgQ q i) = lisQ q W Qn a (upP W a m i) (i + 1) := by
  obtain ⟨h1, h2, h3, h4, h5, h6, h7⟩ := id h
  unfold upP
  by_cases hw : m - a < W
  · have e : i = m := by omega
    subst e
    rw [if_pos hw]
    exact tell_begin q hq W Qn a i h hw
  · rw [if_neg hw]
    exact tell_wait q hq W Qn a m i h hw (by omega)
structure Goes (p : Pkt) : Prop where
  enc : encL (fwW p) (cbW p) p [] [] = some (encD p [] [])
  pos : 0 < (encD p [] []).length
  max : (encD p [] []).length ≤ 1000000
  dec : decL (encD p [] []) = .inr ((p, [], []), (encD p [] []).length)
theorem goes_at (p : Pkt) (h1 : encL (fwW p) (cbW p) p [] [] = some (encD p [] [])) (h2 : decL (encD p [] []) = .inr ((p, [], []), (encD p [] []).length)) (h3 : (encD p [] []).length = 9 ∨ (encD p [] []).length = 4) : Goes p := ⟨h1, by omega, by omega, h2⟩
theorem all16 {P : Nat → Prop} (h0 : P 0) (h1 : P 1) (h2 : P 2) (h3 : P 3) (h4 : P 4) (h5 : P 5) (h6 : P 6) (h7 : P 7) (h8 : P 8) (h9 : P 9) (h10 : P 10) (h11 : P 11) (h12 : P 12) (h13 : P 13) (h14 : P 14) (h15 : P 15) (k : Nat) (hk : k < 16) : P k := by
  have : k = 0 ∨ k = 1 ∨ k = 2 ∨ k = 3 ∨ k = 4 ∨ k = 5 ∨ k = 6 ∨ k = 7 ∨ k = 8 ∨ k = 9 ∨ k = 10 ∨ k = 11 ∨ k = 12 ∨ k = 13 ∨ k = 14 ∨ k = 15 := by omega
  rcases this with rfl | rfl | rfl | rfl | rfl | rfl | rfl | rfl | rfl | rfl | rfl | rfl | rfl | rfl | rfl | rfl <;> assumption
theorem wf_id (k : Nat) (hk : k < 16) : (Lit.int .i64 ((k : Int) + 1)).wf = true := by
  revert k
  exact all16 (by decide) (by decide) (by decide) (by decide) (by decide) (by decide) (by decide) (by decide) (by decide) (by decide) (by decide) (by decide) (by decide) (by decide) (by decide) (by decide)
theorem goes_msg1 (k : Nat) (hk : k < 16) : Goes (msgP 1 ((k : Int) + 1) (numB k)) := by
  revert k
  refine all16 ?_ ?_ ?_ ?_ ?_ ?_ ?_ ?_ ?_ ?_ ?_ ?_ ?_ ?_ ?_ ?_ <;> exact goes_at _ (by kernel_rfl) (by kernel_rfl) (Or.inl (by kernel_rfl))
theorem goes_msg2 (k : Nat) (hk : k < 16) : Goes (msgP 2 ((k : Int) + 1) (numB k)) := by
  revert k
  refine all16 ?_ ?_ ?_ ?_ ?_ ?_ ?_ ?_ ?_ ?_ ?_ ?_ ?_ ?_ ?_ ?_ <;> exact goes_at _ (by kernel_rfl) (by kernel_rfl) (Or.inl (by kernel_rfl))
theorem goes_ack4 (k : Nat) (hk : k < 16) : Goes ({ zP with kind := 4, id := (k : Int) + 1 } : Pkt) := by
  revert k
  refine all16 ?_ ?_ ?_ ?_ ?_ ?_ ?_ ?_ ?_ ?_ ?_ ?_ ?_ ?_ ?_ ?_ <;> exact goes_at _ (by kernel_rfl) (by kernel_rfl) (Or.inr (by kernel_rfl))
theorem goes_ack5 (k : Nat) (hk : k < 16) : Goes ({ zP with kind := 5, id := (k : Int) + 1 } : Pkt) := by
  revert k
  refine all16 ?_ ?_ ?_ ?_ ?_ ?_ ?_ ?_ ?_ ?_ ?_ ?_ ?_ ?_ ?_ ?_ <;> exact goes_at _ (by kernel_rfl) (by kernel_rfl) (Or.inr (by kernel_rfl))
theorem goes_ack6 (k : Nat) (hk : k < 16) : Goes ({ zP with kind := 6, id := (k : Int) + 1 } : Pkt) := by
  revert k
  refine all16 ?_ ?_ ?_ ?_ ?_ ?_ ?_ ?_ ?_ ?_ ?_ ?_ ?_ ?_ ?_ ?_ <;> exact goes_at _ (by kernel_rfl) (by kernel_rfl) (Or.inr (by kernel_rfl))
theorem goes_ack7 (k : Nat) (hk : k < 16) : Goes ({ zP with kind := 7, id := (k : Int) + 1 } : Pkt) := by
  revert k
  refine all16 ?_ ?_ ?_ ?_ ?_ ?_ ?_ ?_ ?_ ?_ ?_ ?_ ?_ ?_ ?_ ?_ <;> exact goes_at _ (by kernel_rfl) (by kernel_rfl) (Or.inr (by kernel_rfl))
structure Wh (N0 : Nat) (ash aw : Addr) (w0 w : World) (b lb B : Nat) (V : LineV) (BV : BrV) (px py : Pkt) (X Y : SideV) (SX SY : Ses) (G : Nat → Prop) (VS : StgV) (T : List Int) (O : List Pkt) (Sn : List Int) : Prop where
  hall : Hall2 N0 ash aw w lb B 0 1 V BV 2 (D2 X.cv.sp Y.cv.sp) px py X Y SX SY G
  stg : StgAt w b VS T O Sn
  vlb : VS.lb = lb
  s0 : ∀ g, VS.has b g → N0 ≤ g
  apart : ∀ g, VS.has b g → ¬ InHall lb B BV.mb X Y g
  bel : Below N0 w0 w
theorem Wh.below {N0 : Nat} {ash aw : Addr} {w0 : World} {w w' : World} {b lb B : Nat} {V : LineV} {BV : BrV} {px py : Pkt} {X Y : SideV} {SX SY : Ses} {G : Nat → Prop} {VS : StgV} {T : List Int} {O : List Pkt} {Sn : List Int} (h : Wh N0 ash aw w0 w b lb B V BV px py X Y SX SY G VS T O Sn) (hb : Below w.heap.size w w') : Wh N0 ash aw w0 w' b lb B V BV px py X Y SX SY G VS T O Sn :=
  ⟨h.hall.but (F := fun _ => False) (But.of_below hb) (fun _ e => e.elim), h.stg.below hb, h.vlb, h.s0, h.apart, h.bel.trans (hb.mono h.hall.room.gd.env.size)⟩
theorem Wh.stage {N0 : Nat} {ash aw : Addr} {w0 : World} {w w' : World} {b lb B : Nat} {V : LineV} {BV : BrV} {px py : Pkt} {X Y : SideV} {SX SY : Ses} {G : Nat → Prop} {VS VS' : StgV} {T T' : List Int} {O O' : List Pkt} {Sn Sn' : List Int} (h : Wh N0 ash aw w0 w b lb B V BV px py X Y SX SY G VS T O Sn) (hb : But (VS.has b) w w') (hs : StgAt w' b VS' T' O' Sn') (hl : VS'.lb = VS.lb) (hh : ∀ g, VS'.has b g → VS.has b g ∨ w.heap.size ≤ g) : Wh N0 ash aw w0 w' b lb B V BV px py X Y SX SY G VS' T' O' Sn' :=
  ⟨h.hall.but hb (fun g e => ⟨h.s0 g e, h.apart g e⟩), hs, hl.trans h.vlb, fun g hg => (hh g hg).elim (h.s0 g) (fun e => Nat.le_trans h.hall.room.gd.env.size e), fun g hg => (hh g hg).elim (h.apart g) (fun e i => by have := h.hall.lt i; omega), h.bel.trans (hb.below h.s0 h.hall.room.gd.env.size)⟩
theorem Wh.seen {N0 : Nat} {ash aw : Addr} {w0 : World} {w : World} {b lb B : Nat} {V : LineV} {BV : BrV} {px py : Pkt} {X Y : SideV} {SX SY : Ses} {G : Nat → Prop} {VS : StgV} {T : List Int} {O : List Pkt} {Sn : List Int} (h : Wh N0 ash aw w0 w b lb B V BV px py X Y SX SY G VS T O Sn) (k : Nat) (hk : k < 8) : Wh N0 ash aw w0 (w.setCell ⟨lb, 1 + k, none⟩ (.slice none 0 0)) b lb B (V.setGot k (.slice none 0 0)) BV px py X Y SX SY (fun n => G n ∧ n ≠ k) VS T O Sn :=
  ⟨h.hall.seen k hk, h.stg.keep (fun g hg => Below.heap_setCell _ _ _ _ (fun e => h.apart g hg (Or.inl e))), h.vlb, h.s0, h.apart, h.bel.trans ((But.set (F := fun g => g = lb) _ _ _ rfl).below (fun g e => by subst e; exact h.hall.line.lb0) h.hall.room.gd.env.size)⟩
theorem Wh.only {N0 : Nat} {ash aw : Addr} {w0 : World} {w : World} {b lb B : Nat} {V : LineV} {BV : BrV} {px py : Pkt} {X Y : SideV} {SX SY : Ses} {G G' : Nat → Prop} {VS : StgV} {T : List Int} {O : List Pkt} {Sn : List Int} (h : Wh N0 ash aw w0 w b lb B V BV px py X Y SX SY G VS T O Sn) (hG : ∀ n, G n → G' n) : Wh N0 ash aw w0 w b lb B V BV px py X Y SX SY G' VS T O Sn :=
  ⟨h.hall.only hG, h.stg, h.vlb, h.s0, h.apart, h.bel⟩
structure After (N0 : Nat) (ash aw : Addr) (w0 w : World) (b lb B : Nat) (V : LineV) (BV : BrV) (px py : Pkt) (X Y : SideV) (SX SY : Ses) (G : Nat → Prop) (VS : StgV) (T : List Int) (O : List Pkt) (Sn : List Int) (os : List OutS) (R : Nat → Dec) (w' : World) (V' : LineV) (X' Y' : SideV) : Prop where
  wh : Wh N0 ash aw w0 w' b lb B V' BV px py X' Y' SX SY (fun n => G n ∨ ∃ o, o ∈ os ∧ o.conn = (n : Int)) VS T O Sn
  old : ∀ n : Nat, (∀ o, o ∈ os → o.conn ≠ (n : Int)) → V'.got n = V.got n
  new : ∀ (j : Nat) o, os[j]? = some o → ∃ n : Nat, o.conn = (n : Int) ∧ GotP w.heap.size w' (V'.got n) (R j)
  but : But (InHall lb B BV.mb X Y) w w'
  grow : ∀ g, InHall lb B BV.mb X' Y' g → InHall lb B BV.mb X Y g ∨ w.heap.size ≤ g
theorem send_zero {N0 : Nat} {ash aw : Addr} {w0 : World} {b lb B : Nat} {V : LineV} {BV : BrV} {px py : Pkt} {X Y : SideV} {SX SX' SY SY' : Ses} {G : Nat → Prop} {VS : StgV} {T : List Int} {O : List Pkt} {Sn : List Int} (ps : Pkt) (os : List OutS) (R : Nat → Dec) (w : World) (H : Wh N0 ash aw w0 w b lb B V BV px py X Y SX SY G VS T O Sn) (hpf : ps.fv = .slice none 0 0) (hpc : ps.cv = .slice none 0 0) (hg : Goes ps) (hos : OutsOk os R G)
    (hF : ∀ w1 g c, Hall2 N0 ash aw w1 lb B 0 1 V BV 2 (D2 X.cv.sp Y.cv.sp) px py X Y SX SY G → (∀ j x, (encD ps [] [])[j]? = some x → w1.cell? ⟨g, 0 + j, none⟩ = some (.int .u8 (x.toNat : Int))) → Calls Tryz.prog 24 #[.pointer (some ⟨B, 0, none⟩), .int .i64 ((0 : Nat) : Int), .slice (some ⟨g, 0, none⟩) (encD ps [] []).length c] w1 fun e w' => ∃ ov L, e = .returned (.tuple #[ov, .int .i64 0]) ∧ FdW B 0 1 px py BV X Y SX' SY' os w1 w' ov L) :
    Calls Tryz.prog 50 #[.pointer (some ⟨lb, 0, none⟩), .int .i64 0, .agg (pkK ps)] w fun e w' => e = .returned (.tuple #[]) ∧ ∃ V' X' Y', After N0 ash aw w0 w b lb B V BV px py X Y SX' SY' G VS T O Sn os R w' V' X' Y' := by
  refine (send_hall ps _ os R w H.hall hpf hpc hg.enc hg.pos hos (fun w1 g c hb hx => hF w1 g c (H.hall.but (F := fun _ => False) (But.of_below hb) (fun _ e => e.elim)) hx)).mono ?_
  rintro e w' ⟨rfl, V', X', Y', hH⟩
  have hbut : But (InHall lb B BV.mb X Y) w w' := hH.but.wide (fun g _ e => by
    rcases e with e | e | e | e
    · exact Or.inl e
    · exact Or.inr (Or.inl e)
    · exact Or.inr (Or.inr (Or.inr (Or.inl e)))
    · exact Or.inr (Or.inr (Or.inr (Or.inr e))))
  have hgr : ∀ g, InHall lb B BV.mb X' Y' g → InHall lb B BV.mb X Y g ∨ w.heap.size ≤ g := fun g i => by
    rcases i with i | i | i | i | i
    · exact Or.inl (Or.inl i)
    · exact Or.inl (Or.inr (Or.inl i))
    · exact Or.inl (Or.inr (Or.inr (Or.inl i)))
    · exact (hH.hx g i).imp (fun i => Or.inr (Or.inr (Or.inr (Or.inl i)))) id
    · exact (hH.hy g i).imp (fun i => Or.inr (Or.inr (Or.inr (Or.inr i)))) id
  refine ⟨rfl, V', X', Y', ⟨by rw [hH.spx, hH.spy]; exact hH.hall, H.stg.but hbut H.apart, H.vlb, H.s0, fun g hg i => (hgr g i).elim (H.apart g hg) (fun e => by have := H.stg.lt hg; omega), H.bel.trans (hbut.below H.hall.old H.hall.room.gd.env.size)⟩, hH.old, hH.new, hbut, hgr⟩
theorem send_one {N0 : Nat} {ash aw : Addr} {w0 : World} {b lb B : Nat} {V : LineV} {BV : BrV} {px py : Pkt} {X Y : SideV} {SX SX' SY SY' : Ses} {G : Nat → Prop} {VS : StgV} {T : List Int} {O : List Pkt} {Sn : List Int} (ps : Pkt) (os : List OutS) (R : Nat → Dec) (w : World) (H : Wh N0 ash aw w0 w b lb B V BV px py X Y SX SY G VS T O Sn) (hpf : ps.fv = .slice none 0 0) (hpc : ps.cv = .slice none 0 0) (hg : Goes ps) (hos : OutsOk os R G)
    (hF : ∀ w1 g c, Hall2 N0 ash aw w1 lb B 1 0 V BV 2 (D2 X.cv.sp Y.cv.sp) py px Y X SY SX G → (∀ j x, (encD ps [] [])[j]? = some x → w1.cell? ⟨g, 0 + j, none⟩ = some (.int .u8 (x.toNat : Int))) → Calls Tryz.prog 24 #[.pointer (some ⟨B, 0, none⟩), .int .i64 ((1 : Nat) : Int), .slice (some ⟨g, 0, none⟩) (encD ps [] []).length c] w1 fun e w' => ∃ ov L, e = .returned (.tuple #[ov, .int .i64 0]) ∧ FdW B 1 0 py px BV Y X SY' SX' os w1 w' ov L) :
    Calls Tryz.prog 50 #[.pointer (some ⟨lb, 0, none⟩), .int .i64 1, .agg (pkK ps)] w fun e w' => e = .returned (.tuple #[]) ∧ ∃ V' X' Y', After N0 ash aw w0 w b lb B V BV px py X Y SX' SY' G VS T O Sn os R w' V' X' Y' := by
  refine (send_hall ps _ os R w H.hall.turn hpf hpc hg.enc hg.pos hos (fun w1 g c hb hx => hF w1 g c (H.hall.turn.but (F := fun _ => False) (But.of_below hb) (fun _ e => e.elim)) hx)).mono ?_
  rintro e w' ⟨rfl, V', Y', X', hH⟩
  have hbut : But (InHall lb B BV.mb X Y) w w' := hH.but.wide (fun g _ e => by
    rcases e with e | e | e | e
    · exact Or.inl e
    · exact Or.inr (Or.inl e)
    · exact Or.inr (Or.inr (Or.inr (Or.inr e)))
    · exact Or.inr (Or.inr (Or.inr (Or.inl e))))
  have hgr : ∀ g, InHall lb B BV.mb X' Y' g → InHall lb B BV.mb X Y g ∨ w.heap.size ≤ g := fun g i => by
    rcases i with i | i | i | i | i
    · exact Or.inl (Or.inl i)
    · exact Or.inl (Or.inr (Or.inl i))
    · exact Or.inl (Or.inr (Or.inr (Or.inl i)))
    · exact (hH.hy g i).imp (fun i => Or.inr (Or.inr (Or.inr (Or.inl i)))) id
    · exact (hH.hx g i).imp (fun i => Or.inr (Or.inr (Or.inr (Or.inr i)))) id
  refine ⟨rfl, V', X', Y', ⟨by rw [hH.spx, hH.spy]; exact hH.hall.turn, H.stg.but hbut H.apart, H.vlb, H.s0, fun g hg i => (hgr g i).elim (H.apart g hg) (fun e => by have := H.stg.lt hg; omega), H.bel.trans (hbut.below H.hall.old H.hall.room.gd.env.size)⟩, hH.old, hH.new, hbut, hgr⟩
theorem Wh.cell0 {N0 : Nat} {ash aw : Addr} {w0 w : World} {b lb B : Nat} {V : LineV} {BV : BrV} {px py : Pkt} {X Y : SideV} {SX SY : Ses} {G : Nat → Prop} {VS : StgV} {T : List Int} {O : List Pkt} {Sn : List Int} (H : Wh N0 ash aw w0 w b lb B V BV px py X Y SX SY G VS T O Sn) : w.cell? ⟨b, 0, none⟩ = some (.pointer (some ⟨lb, 0, none⟩)) := by
  have := blk_cell H.stg.blk (i := 0) (v := .pointer (some ⟨VS.lb, 0, none⟩)) rfl
  rw [H.vlb] at this
  exact this
theorem seesNone {N0 : Nat} {ash aw : Addr} {w0 w : World} {b lb B : Nat} {V : LineV} {BV : BrV} {px py : Pkt} {X Y : SideV} {SX SY : Ses} {VS : StgV} {T : List Int} {O : List Pkt} {Sn : List Int} (H : Wh N0 ash aw w0 w b lb B V BV px py X Y SX SY (fun _ => False) VS T O Sn) :
    SeesOk b lb (fun w3 => ∃ V', Wh N0 ash aw w0 w3 b lb B V' BV px py X Y SX SY (fun _ => False) VS T O Sn) w none 0 0 V := by
  refine ⟨H.hall.line.line, H.cell0, fun e => H.apart b (Or.inl rfl) (Or.inl e), H.hall.line.got 0 (fun f => f), fun w1 hb1 => ?_⟩
  have H1 := (H.below hb1).seen 0 (by omega)
  refine (sees_none b none 0 _).mono ?_
  rintro e w3 ⟨rfl, hB⟩
  exact ⟨rfl, _, (H1.below hB).only (fun n hn => hn.1)⟩
theorem seesOne {N0 N : Nat} {ash aw : Addr} {w0 w : World} {b lb B : Nat} {V : LineV} {BV : BrV} {px py : Pkt} {X Y : SideV} {SX SY : Ses} {G : Nat → Prop} {VS : StgV} {T : List Int} {O : List Pkt} {Sn : List Int} (q : Int) (hq : q = 1 ∨ q = 2) (k : Nat) (hk : k < 60000) (H : Wh N0 ash aw w0 w b lb B V BV px py X Y SX SY G VS T O Sn) (hG : ∀ n, G n → n = 0) (hg : GotP N w (V.got 0) (msgP q ((k : Int) + 1) (numB k), [], [])) (hN : lb < N) (hid : idx (fun p => p.id == (k : Int) + 1) O = -1) (hT : T.length ≤ 100000) (hO : O.length ≤ 100000) :
    ∃ qa n c, SeesOk b lb (fun w3 => ∃ V' VS' p, Wh N0 ash aw w0 w3 b lb B V' BV px py X Y SX SY (fun _ => False) VS' (T ++ [(k : Int)]) (O ++ [p]) Sn ∧ VS'.id = VS.id ∧ p.id = (k : Int) + 1 ∧ p.qos = q) w qa n c V := by
  obtain ⟨g, cap, fv, cv, e1, hgN, _, _, hcell, hf, hc⟩ := hg.at
  refine ⟨_, _, _, H.hall.line.line, H.cell0, fun e => H.apart b (Or.inl rfl) (Or.inl e), e1, fun w1 hb1 => ?_⟩
  have H1 := (H.below hb1).seen 0 (by omega)
  obtain ⟨f1, f3, hfv⟩ := br.own_form hf
  obtain ⟨c1, c3, hcv⟩ := br.own_form hc
  refine (sees_one b g cap k VS T O Sn { msgP q ((k : Int) + 1) (numB k) with fv := fv, cv := cv } _ H1.stg (fun i u hu => ?_) rfl rfl hk rfl rfl hq hid hT hO ⟨⟨_, _, _, hfv⟩, ⟨_, _, _, hcv⟩⟩).mono ?_
  · have h := hcell i u hu
    have hlt := cell_blt h
    simp only at hlt
    rw [World.cell?_of_block (w := w) ((Below.heap_setCell _ _ _ _ (fun e => by have e' : g = lb := e; omega)).trans (hb1.block g hlt))]
    exact h
  · rintro e w3 ⟨rfl, tv', pv', hs, hbut, ht, hp⟩
    refine ⟨rfl, _, _, _, (H1.stage hbut hs rfl (fun g hg => ?_)).only (fun n hn => hn.2 (hG n hn.1)), rfl, rfl, rfl⟩
    rcases hg with hg | hg | hg | hg
    · exact Or.inl (Or.inl hg)
    · rcases ht with e | ⟨g', e1, e2⟩
      · exact Or.inl (Or.inr (Or.inl (e ▸ hg)))
      · have hg2 : tv'.ownBlock = some g := hg
        rw [e1] at hg2; cases hg2
        exact Or.inr e2
    · rcases hp with e | ⟨g', e1, e2⟩
      · exact Or.inl (Or.inr (Or.inr (Or.inl (e ▸ hg))))
      · have hg2 : pv'.ownBlock = some g := hg
        rw [e1] at hg2; cases hg2
        exact Or.inr e2
    · exact Or.inl (Or.inr (Or.inr (Or.inr hg)))
structure Cnt (q : Int) (a m i : Nat) (VS : StgV) (T : List Int) (O : List Pkt) (Sn : List Int) : Prop where
  told : T = (List.range m).map (fun (k : Nat) => (k : Int))
  opn : O.map (fun p => (p.id, p.qos)) = (List.range' a (m - a)).map (fun (k : Nat) => ((k : Int) + 1, q))
  sent : Sn.length = i
  id : VS.id = (i : Int)
theorem Cnt.len {q : Int} {a m i : Nat} {VS : StgV} {T : List Int} {O : List Pkt} {Sn : List Int} (h : Cnt q a m i VS T O Sn) : O.length = m - a := by
  have := congrArg List.length h.opn
  simpa using this
theorem Cnt.at {q : Int} {a m i : Nat} {VS : StgV} {T : List Int} {O : List Pkt} {Sn : List Int} (h : Cnt q a m i VS T O Sn) {r : Nat} {p : Pkt} (hp : O[r]? = some p) : p.id = (a : Int) + r + 1 ∧ p.qos = q ∧ r < m - a := by
  have hl := h.len
  have hr : r < m - a := by have := (List.getElem?_eq_some_iff.1 hp).1; omega
  have e := congrArg (fun l => l[r]?) h.opn
  simp only [List.getElem?_map, hp, Option.map_some] at e
  rw [List.getElem?_range' hr] at e
  simp at e
  refine ⟨?_, e.2, hr⟩
  rw [e.1]
theorem Cnt.idx_new {q : Int} {a m i : Nat} {VS : StgV} {T : List Int} {O : List Pkt} {Sn : List Int} (h : Cnt q a m i VS T O Sn) : idx (fun p => p.id == (m : Int) + 1) O = -1 := by
  refine idx_none (fun j x hx => ?_)
  obtain ⟨e, _, hr⟩ := h.at hx
  simp [e]
  omega
theorem Cnt.idx_at {q : Int} {a m i : Nat} {VS : StgV} {T : List Int} {O : List Pkt} {Sn : List Int} (h : Cnt q a m i VS T O Sn) (r : Nat) (p : Pkt) (hp : O[r]? = some p) : idx (fun x => x.id == p.id) O = (r : Int) := by
  refine idx_some hp (by simp) (fun j y hj hy => ?_)
  have e1 := (h.at hp).1
  have e2 := (h.at hy).1
  simp [e1, e2]
  omega
theorem Cnt.shut {q : Int} {a m i : Nat} {VS VS' : StgV} {T : List Int} {O : List Pkt} {Sn : List Int} (h : Cnt q a m i VS T O Sn) (ha : a < m) (hid : VS'.id = VS.id) : Cnt q (a + 1) m i VS' T (O.eraseIdx 0) Sn := by
  refine ⟨h.told, ?_, h.sent, hid.trans h.id⟩
  have e := h.opn
  rw [show m - a = (m - (a + 1)) + 1 by omega, List.range'_succ] at e
  cases O with
  | nil => simp at e
  | cons p r => simp at e; simpa using e.2
theorem Cnt.add {q : Int} {a m i : Nat} {VS VS' : StgV} {T : List Int} {O : List Pkt} {Sn : List Int} (h : Cnt q a m i VS T O Sn) (ha : a ≤ m) (p : Pkt) (h1 : p.id = (m : Int) + 1) (h2 : p.qos = q) (hid : VS'.id = VS.id) : Cnt q a (m + 1) i VS' (T ++ [(m : Int)]) (O ++ [p]) Sn := by
  refine ⟨?_, ?_, h.sent, hid.trans h.id⟩
  · rw [h.told, List.range_succ, List.map_append]; rfl
  · rw [List.map_append, h.opn, show m + 1 - a = (m - a) + 1 by omega, range'_end, List.map_append]
    simp [h1, h2]
    omega
def St (N0 : Nat) (ash aw : Addr) (w0 : World) (b lb : Nat) (q : Int) (W Qn a m i : Nat) (w : World) : Prop :=
  ∃ B V BV px py X Y VS T O Sn, Wh N0 ash aw w0 w b lb B V BV px py X Y (lisQ q W Qn a m i) (newS (W : Int) Qn) (fun _ => False) VS T O Sn ∧ Cnt q a m i VS T O Sn
theorem outs_nil (R : Nat → Dec) (G : Nat → Prop) : OutsOk [] R G := ⟨fun j o h => by simp at h, fun i j o o' h => by simp at h⟩
theorem outs_one (p : Pkt) (h : Goes p) (n : Nat) (hn : n < 2) (R : Nat → Dec) (hR : R 0 = (p, [], [])) (G : Nat → Prop) (hG : ¬ G n) : OutsOk [⟨(n : Int), encD p [] [], false⟩] R G := by
  refine ⟨fun j o h1 => ?_, fun i j o o' h1 h2 _ => ?_⟩
  · match j, h1 with
    | 0, h1 =>
      simp at h1
      subst h1
      exact ⟨rfl, by rw [hR]; exact h.dec, h.pos, h.max, n, hn, rfl, hG⟩
  · match i, j, h1, h2 with
    | 0, 0, _, _ => rfl
def outM (q : Int) (m i : Nat) : List OutS := if m < i then [⟨((0 : Nat) : Int), encD (msgP q ((m : Int) + 1) (numB m)) [] [], false⟩] else []
theorem goes_msg {q : Int} (hq : q = 1 ∨ q = 2) (k : Nat) (hk : k < 16) : Goes (msgP q ((k : Int) + 1) (numB k)) := by
  rcases hq with rfl | rfl
  · exact goes_msg1 k hk
  · exact goes_msg2 k hk
theorem see_after {N0 : Nat} {ash aw : Addr} {w0 w w' : World} {b lb B : Nat} {V V' : LineV} {BV : BrV} {px py : Pkt} {X Y X' Y' : SideV} {VS : StgV} {T : List Int} {O : List Pkt} {Sn : List Int} (q : Int) (hq : q = 1 ∨ q = 2) (W Qn a m i : Nat) (hf : Fit W Qn a m i) (ha : a < m) (hlb : lb < w.heap.size)
    (hA : After N0 ash aw w0 w b lb B V BV px py X Y (lisQ q W Qn (a + 1) (upM m i) i) (newS (W : Int) Qn) (fun _ => False) VS T O Sn (outM q m i) (fun _ => (msgP q ((m : Int) + 1) (numB m), [], [])) w' V' X' Y') (hC : Cnt q (a + 1) m i VS T O Sn) :
    ∃ qa n c, SeesOk b lb (St N0 ash aw w0 b lb q W Qn (a + 1) (upM m i) i) w' qa n c V' := by
  have h16 := hf.i16
  have hmi := hf.mi
  unfold outM at hA
  by_cases hm : m < i
  · rw [if_pos hm] at hA
    obtain ⟨n, e, hg⟩ := hA.new 0 _ rfl
    have e' : n = 0 := by have : ((0 : Nat) : Int) = (n : Int) := e; omega
    subst e'
    have hw := hA.wh.only (G' := fun n => n = 0) (fun n hn => by
      rcases hn with hn | ⟨o, ho, e⟩
      · exact hn.elim
      · simp at ho; subst ho; have : ((0 : Nat) : Int) = (n : Int) := e; omega)
    obtain ⟨qa, n, c, hS⟩ := seesOne q hq m (by omega) hw (fun n hn => hn) hg hlb hC.idx_new (by rw [hC.told]; simp; omega) (by rw [hC.len]; omega)
    refine ⟨qa, n, c, hS.line, hS.cell, hS.ne, hS.got, fun w1 hb1 => (hS.see w1 hb1).mono ?_⟩
    rintro e w3 ⟨rfl, V3, VS3, p, hW, h1, h2, h3⟩
    refine ⟨rfl, B, V3, BV, px, py, X', Y', VS3, _, _, Sn, hW, ?_⟩
    have : upM m i = m + 1 := if_pos hm
    rw [this]
    exact hC.add ha p h2 h3 h1
  · rw [if_neg hm] at hA
    have hw := hA.wh.only (G' := fun _ => False) (fun n hn => by
      rcases hn with hn | ⟨o, ho, e⟩
      · exact hn
      · cases ho)
    have hS := seesNone hw
    refine ⟨_, _, _, hS.line, hS.cell, hS.ne, hS.got, fun w1 hb1 => (hS.see w1 hb1).mono ?_⟩
    rintro e w3 ⟨rfl, V3, hW⟩
    refine ⟨rfl, B, V3, BV, px, py, X', Y', VS, T, O, Sn, hW, ?_⟩
    have : upM m i = m := if_neg hm
    rw [this]
    exact hC
theorem feed4 {N0 : Nat} {ash aw : Addr} {w : World} {lb B : Nat} {V : LineV} {BV : BrV} {D : DataW Unit} {px py : Pkt} {X Y : SideV} {SY : Ses} {G : Nat → Prop} (W Qn a m i : Nat) (hf : Fit W Qn a m i) (ha : a < m) (h : Hall2 N0 ash aw w lb B 0 1 V BV 2 D px py X Y (lisQ 1 W Qn a m i) SY G) (g c : Nat) (hd : ∀ j x, (encD (ackK 4 ((a : Int) + 1)) [] [])[j]? = some x → w.cell? ⟨g, 0 + j, none⟩ = some (.int .u8 (x.toNat : Int))) :
    Calls Tryz.prog 24 #[.pointer (some ⟨B, 0, none⟩), .int .i64 ((0 : Nat) : Int), .slice (some ⟨g, 0, none⟩) (encD (ackK 4 ((a : Int) + 1)) [] []).length c] w fun e w' => ∃ ov L, e = .returned (.tuple #[ov, .int .i64 0]) ∧ FdW B 0 1 px py BV X Y (lisQ 1 W Qn (a + 1) (upM m i) i) SY (outM 1 m i) w w' ov L := by
  have h1 := hf.mi
  have h2 := hf.i16
  have hg : Goes (ackK 4 ((a : Int) + 1)) := goes_ack4 a (by omega)
  have e0 : (ackK 4 ((a : Int) + 1)).id = (a : Int) + 1 := rfl
  have hfd := feed_ack (N0 := N0) (ash := ash) (aw := aw) B 0 1 (ackK 4 ((a : Int) + 1)) px py (encD (ackK 4 ((a : Int) + 1)) [] []) (encD (msgP 1 ((m : Int) + 1) (numB m)) [] []) BV X Y (lisQ 1 W Qn a m i) SY g c w h.room.gd h.room.blk h.sx h.sy h.x0 h.y0 h.room.B0 h.dis (by omega) h.vx h.room.clk hg.pos hg.max hd hg.dec rfl
  rw [e0, end_done W Qn a m i ha, (go_is 1 W Qn a m i hf ha).2] at hfd
  have hone := go_one 1 W Qn a m i hf ha
  rw [(go_is 1 W Qn a m i hf ha).1] at hfd hone
  have hlen : (lisQ 1 W Qn a m i).under.length < 65000 := by simp [lisQ]; omega
  refine (hfd (fun x hx => ?_) (by show (0 : Int) ≤ (m : Int); omega) hlen hone).mono ?_
  · by_cases hm : m < i
    · rw [if_pos hm] at hx
      cases hx
      show encD (pktS (msgQ 1 m) (nextS (m : Int) ((List.range' (a + 1) (m - (a + 1))).map (uwQ 1)))) [] [] = _
      rw [next_is 1 (a + 1) m ha (by omega)]
      rfl
    · rw [if_neg hm] at hx; cases hx
  · rintro e w' ⟨ov, L, rfl, hF⟩
    refine ⟨ov, L, rfl, ?_⟩
    have : (if (if m < i then some (msgQ 1 m) else none : Option Msg).isSome = true then [⟨((0 : Nat) : Int), encD (msgP 1 ((m : Int) + 1) (numB m)) [] [], false⟩] else [] : List OutS) = outM 1 m i := by
      unfold outM; split <;> rfl
    rw [this] at hF
    exact hF
theorem feed7 {N0 : Nat} {ash aw : Addr} {w : World} {lb B : Nat} {V : LineV} {BV : BrV} {D : DataW Unit} {px py : Pkt} {X Y : SideV} {SY : Ses} {G : Nat → Prop} (W Qn a m i : Nat) (hf : Fit W Qn a m i) (ha : a < m) (h : Hall2 N0 ash aw w lb B 0 1 V BV 2 D px py X Y (lisR W Qn a m i) SY G) (g c : Nat) (hd : ∀ j x, (encD (ackK 7 ((a : Int) + 1)) [] [])[j]? = some x → w.cell? ⟨g, 0 + j, none⟩ = some (.int .u8 (x.toNat : Int))) :
    Calls Tryz.prog 24 #[.pointer (some ⟨B, 0, none⟩), .int .i64 ((0 : Nat) : Int), .slice (some ⟨g, 0, none⟩) (encD (ackK 7 ((a : Int) + 1)) [] []).length c] w fun e w' => ∃ ov L, e = .returned (.tuple #[ov, .int .i64 0]) ∧ FdW B 0 1 px py BV X Y (lisQ 2 W Qn (a + 1) (upM m i) i) SY (outM 2 m i) w w' ov L := by
  have h1 := hf.mi
  have h2 := hf.i16
  have hg : Goes (ackK 7 ((a : Int) + 1)) := goes_ack7 a (by omega)
  have e0 : (ackK 7 ((a : Int) + 1)).id = (a : Int) + 1 := rfl
  have hfd := feed_comp (N0 := N0) (ash := ash) (aw := aw) B 0 1 (ackK 7 ((a : Int) + 1)) px py (encD (ackK 7 ((a : Int) + 1)) [] []) (encD (msgP 2 ((m : Int) + 1) (numB m)) [] []) BV X Y (lisR W Qn a m i) SY g c w h.room.gd h.room.blk h.sx h.sy h.x0 h.y0 h.room.B0 h.dis (by omega) h.vx h.room.clk hg.pos hg.max hd hg.dec rfl
  rw [e0, end_comp W Qn a m i ha, (go_is 2 W Qn a m i hf ha).2] at hfd
  have hone := go_one 2 W Qn a m i hf ha
  rw [(go_is 2 W Qn a m i hf ha).1] at hfd hone
  have hlen : (lisR W Qn a m i).under.length < 65000 := by simp [lisR, lisQ]; omega
  refine (hfd (fun x hx => ?_) (by show (0 : Int) ≤ (m : Int); omega) hlen hone).mono ?_
  · by_cases hm : m < i
    · rw [if_pos hm] at hx
      cases hx
      show encD (pktS (msgQ 2 m) (nextS (m : Int) ((List.range' (a + 1) (m - (a + 1))).map (uwQ 2)))) [] [] = _
      rw [next_is 2 (a + 1) m ha (by omega)]
      rfl
    · rw [if_neg hm] at hx; cases hx
  · rintro e w' ⟨ov, L, rfl, hF⟩
    refine ⟨ov, L, rfl, ?_⟩
    have : (if (if m < i then some (msgQ 2 m) else none : Option Msg).isSome = true then [⟨((0 : Nat) : Int), encD (msgP 2 ((m : Int) + 1) (numB m)) [] [], false⟩] else [] : List OutS) = outM 2 m i := by
      unfold outM; split <;> rfl
    rw [this] at hF
    exact hF
theorem feed5 {N0 : Nat} {ash aw : Addr} {w : World} {lb B : Nat} {V : LineV} {BV : BrV} {D : DataW Unit} {px py : Pkt} {X Y : SideV} {SY : Ses} {G : Nat → Prop} (W Qn a m i : Nat) (hf : Fit W Qn a m i) (ha : a < m) (h : Hall2 N0 ash aw w lb B 0 1 V BV 2 D px py X Y (lisQ 2 W Qn a m i) SY G) (g c : Nat) (hd : ∀ j x, (encD (ackK 5 ((a : Int) + 1)) [] [])[j]? = some x → w.cell? ⟨g, 0 + j, none⟩ = some (.int .u8 (x.toNat : Int))) :
    Calls Tryz.prog 24 #[.pointer (some ⟨B, 0, none⟩), .int .i64 ((0 : Nat) : Int), .slice (some ⟨g, 0, none⟩) (encD (ackK 5 ((a : Int) + 1)) [] []).length c] w fun e w' => ∃ ov L, e = .returned (.tuple #[ov, .int .i64 0]) ∧ FdW B 0 1 px py BV X Y (lisR W Qn a m i) SY [⟨((0 : Nat) : Int), encD (relS ((a : Int) + 1)) [] [], false⟩] w w' ov L := by
  have h1 := hf.mi
  have h2 := hf.i16
  have hg : Goes (ackK 5 ((a : Int) + 1)) := goes_ack5 a (by omega)
  have hu : (lisQ 2 W Qn a m i).under[0]? = some (uwQ 2 a) := by
    show ((List.range' a (m - a)).map (uwQ 2))[0]? = _
    rw [under_first 2 a m ha]
    rfl
  exact feed_rec (N0 := N0) (ash := ash) (aw := aw) B 0 1 (ackK 5 ((a : Int) + 1)) px py (encD (ackK 5 ((a : Int) + 1)) [] []) (encD (relS ((a : Int) + 1)) [] []) BV X Y (lisQ 2 W Qn a m i) SY (uwQ 2 a) 0 g c w h.room.gd h.room.blk h.sx h.sy h.x0 h.y0 h.room.B0 h.dis (by omega) h.vx h.room.clk hg.pos hg.max hd hg.dec rfl rfl (idx_some hu (by show ((a : Int) + 1 == (a : Int) + 1) = true; simp) (fun j y hj => by omega)) hu rfl
theorem pub_in {X Y : SideV} {W Qn a m i : Nat} {q : Int} (hq : q = 1 ∨ q = 2) (hf : Fit W Qn a m i) (id : Int) (kn : List Int) : PubIn (D2 X.cv.sp Y.cv.sp) (msgP q id (numB i)) [99] [100] q 0 Y X { newS (W : Int) Qn with known := kn } (lisQ q W Qn a m i) (encD (msgP q ((m : Int) + 1) (numB i)) [] []) := by
  have h1 := hf.mi
  have h2 := hf.i16
  have h3 := hf.am
  refine ⟨rfl, fun ss h => keys2 h, (by show (2 : Nat) ≤ 1000000; decide), (by decide), (by decide), rfl, rfl, (by show (1 : Nat) ≤ 65535; decide), ?_, (by intro f hf; cases hf), ?_, rfl, ?_, (by show (0 : Int) ≤ (m : Int); omega), (by simp [lisQ]; omega)⟩
  · intro f hf
    have : f = ([35], q) := by simpa [lisQ] using hf
    subst this
    show (1 : Nat) ≤ 65535
    decide
  · show asksS [116] [([35], q)] 0 false = (q, true)
    rcases hq with rfl | rfl <;> kernel_rfl
  · have e : toldS (ofS (msgP q id (numB i))) q false = msgQ q i := by
      unfold toldS ofS msgP msgQ
      simp
    have e2 : tellId (lisQ q W Qn a m i) (msgQ q i) = (m : Int) + 1 := by
      unfold tellId
      rw [if_neg (by show ¬ q = 0; omega)]
      exact next_is q a m h3 (by omega)
    rw [e, e2]
    rfl
def outP (q : Int) (W a m _i : Nat) : List OutS := if m - a < W then [⟨((0 : Nat) : Int), encD (msgP q ((m : Int) + 1) (numB m)) [] [], false⟩] else []
theorem tellO_is {x y : Nat} {W Qn a m i : Nat} {q : Int} (hq : q = 1 ∨ q = 2) (hf : Fit W Qn a m i) : tellO ((0 : Nat) : Int) (some (x, y)) (lisQ q W Qn a m i) (msgQ q i) (encD (msgP q ((m : Int) + 1) (numB i)) [] []) = outP q W a m i := by
  have h1 := hf.mi
  have h2 := hf.full
  unfold tellO outP
  rw [if_neg (by show ¬ q = 0; omega)]
  by_cases hw : m - a < W
  · have e : i = m := by omega
    subst e
    rw [if_pos hw, if_pos (by simp [lisQ]; omega)]
    rfl
  · rw [if_neg hw, if_neg (by simp [lisQ]; omega)]
theorem told_is {q id : Int} {i : Nat} : toldS (ofS (msgP q id (numB i))) q false = msgQ q i := by
  unfold toldS ofS msgP msgQ
  simp
theorem feedP1 {N0 : Nat} {ash aw : Addr} {w : World} {lb B : Nat} {V : LineV} {BV : BrV} {px py : Pkt} {X Y : SideV} {G : Nat → Prop} (W Qn a m i : Nat) (hf : Fit W Qn a m i) (hi : i < 16) (hQ : i - a < W + Qn) (h : Hall2 N0 ash aw w lb B 1 0 V BV 2 (D2 X.cv.sp Y.cv.sp) py px Y X (newS (W : Int) Qn) (lisQ 1 W Qn a m i) G) (g c : Nat) (hd : ∀ j x, (encD (msgP 1 ((i : Int) + 1) (numB i)) [] [])[j]? = some x → w.cell? ⟨g, 0 + j, none⟩ = some (.int .u8 (x.toNat : Int))) :
    Calls Tryz.prog 24 #[.pointer (some ⟨B, 0, none⟩), .int .i64 ((1 : Nat) : Int), .slice (some ⟨g, 0, none⟩) (encD (msgP 1 ((i : Int) + 1) (numB i)) [] []).length c] w fun e w' => ∃ ov L, e = .returned (.tuple #[ov, .int .i64 0]) ∧ FdW B 1 0 py px BV Y X (newS (W : Int) Qn) (lisQ 1 W Qn a (upP W a m i) (i + 1)) (outP 1 W a m i ++ [⟨((1 : Nat) : Int), encD (packS ((i : Int) + 1)) [] [], false⟩]) w w' ov L := by
  have hg := goes_msg1 i hi
  have hfd := feed_pub1 (N0 := N0) (ash := ash) (aw := aw) B 1 0 2 (msgP 1 ((i : Int) + 1) (numB i)) py px [99] [100] (encD (msgP 1 ((i : Int) + 1) (numB i)) [] []) _ _ 1 0 (D2 X.cv.sp Y.cv.sp) BV Y X (newS (W : Int) Qn) (lisQ 1 W Qn a m i) g c w h.room.gd h.room.blk h.sx h.sy h.room.map h.x0 h.y0 h.room.B0 h.ym h.dis (by omega) h.vx h.room.clk hg.pos hg.max hd hg.dec rfl rfl rfl (pub_in (Or.inl rfl) hf _ [])
  rw [told_is, tell_is 1 (Or.inl rfl) W Qn a m i hf hQ, h.sy.snd, tellO_is (Or.inl rfl) hf] at hfd
  exact hfd
theorem feedP2 {N0 : Nat} {ash aw : Addr} {w : World} {lb B : Nat} {V : LineV} {BV : BrV} {px py : Pkt} {X Y : SideV} {G : Nat → Prop} (W Qn a m i : Nat) (hf : Fit W Qn a m i) (hi : i < 16) (hQ : i - a < W + Qn) (h : Hall2 N0 ash aw w lb B 1 0 V BV 2 (D2 X.cv.sp Y.cv.sp) py px Y X (newS (W : Int) Qn) (lisQ 2 W Qn a m i) G) (g c : Nat) (hd : ∀ j x, (encD (msgP 2 ((i : Int) + 1) (numB i)) [] [])[j]? = some x → w.cell? ⟨g, 0 + j, none⟩ = some (.int .u8 (x.toNat : Int))) :
    Calls Tryz.prog 24 #[.pointer (some ⟨B, 0, none⟩), .int .i64 ((1 : Nat) : Int), .slice (some ⟨g, 0, none⟩) (encD (msgP 2 ((i : Int) + 1) (numB i)) [] []).length c] w fun e w' => ∃ ov L, e = .returned (.tuple #[ov, .int .i64 0]) ∧ FdW B 1 0 py px BV Y X { newS (W : Int) Qn with known := [(i : Int) + 1] } (lisQ 2 W Qn a (upP W a m i) (i + 1)) (outP 2 W a m i ++ [⟨((1 : Nat) : Int), encD (recS ((i : Int) + 1)) [] [], false⟩]) w w' ov L := by
  have hg := goes_msg2 i hi
  have hid := wf_id i hi
  have hfd := feed_pub2 (N0 := N0) (ash := ash) (aw := aw) B 1 0 2 (msgP 2 ((i : Int) + 1) (numB i)) py px [99] [100] (encD (msgP 2 ((i : Int) + 1) (numB i)) [] []) _ _ 2 0 (D2 X.cv.sp Y.cv.sp) BV Y X (newS (W : Int) Qn) (lisQ 2 W Qn a m i) g c w h.room.gd h.room.blk h.sx h.sy h.room.map h.x0 h.y0 h.room.B0 h.ym h.xm h.dis (by omega) h.vx h.room.clk hg.pos hg.max hd hg.dec rfl rfl hid rfl (by show (0 : Nat) < 100000; decide) rfl (pub_in (Or.inr rfl) hf _ [])
  rw [told_is, tell_is 2 (Or.inr rfl) W Qn a m i hf hQ, h.sy.snd, tellO_is (Or.inr rfl) hf] at hfd
  exact hfd
theorem feedR {N0 : Nat} {ash aw : Addr} {w : World} {lb B : Nat} {V : LineV} {BV : BrV} {D : DataW Unit} {px py : Pkt} {X Y : SideV} {SX : Ses} {G : Nat → Prop} (W Qn i : Nat) (hi : i < 16) (h : Hall2 N0 ash aw w lb B 1 0 V BV 2 D py px Y X { newS (W : Int) Qn with known := [(i : Int) + 1] } SX G) (g c : Nat) (hd : ∀ j x, (encD (ackK 6 ((i : Int) + 1)) [] [])[j]? = some x → w.cell? ⟨g, 0 + j, none⟩ = some (.int .u8 (x.toNat : Int))) :
    Calls Tryz.prog 24 #[.pointer (some ⟨B, 0, none⟩), .int .i64 ((1 : Nat) : Int), .slice (some ⟨g, 0, none⟩) (encD (ackK 6 ((i : Int) + 1)) [] []).length c] w fun e w' => ∃ ov L, e = .returned (.tuple #[ov, .int .i64 0]) ∧ FdW B 1 0 py px BV Y X (newS (W : Int) Qn) SX [⟨((1 : Nat) : Int), encD (compS ((i : Int) + 1)) [] [], false⟩] w w' ov L := by
  have hg : Goes (ackK 6 ((i : Int) + 1)) := goes_ack6 i hi
  have hid := wf_id i hi
  exact feed_rel (N0 := N0) (ash := ash) (aw := aw) B 1 0 (ackK 6 ((i : Int) + 1)) py px (encD (ackK 6 ((i : Int) + 1)) [] []) (encD (compS ((i : Int) + 1)) [] []) BV Y X { newS (W : Int) Qn with known := [(i : Int) + 1] } SX g c w h.room.gd h.room.blk h.sx h.sy h.x0 h.y0 h.room.B0 h.dis (by omega) h.vx h.room.clk hg.pos hg.max hd hg.dec rfl hid rfl rfl
end Go.Proofs.YtnmfmoimjkoieaaGreatDoor.kw
