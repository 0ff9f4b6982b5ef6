import Derived.Test.YtnmfmoimjkoieaaGreatDoorK29
import Derived.Test.YtnmfmoimjkoieaaGreatDoorK12
import Derived.Test.YtnmfmoimjkoieaaGreatDoorK11
import Derived.Test.YtnmfmoimjkoieaaGreatDoorK13
import Derived.Test.YtnmfmoimjkoieaaGreatDoorK22
import Derived.Test.YtnmfmoimjkoieaaGreatDoorJ15
import Derived.Lib.ConvBytes
/- Feed of a PUBLISH of QoS 2: learned, published, PUBREC. -/
namespace Go.Proofs.YtnmfmoimjkoieaaGreatDoor.br
open Go.RowKit Go.Proofs.YtnmfmoimjkoieaaGreatDoor.topPlain Go.Proofs.YtnmfmoimjkoieaaGreatDoor.topWalks Go.Proofs.YtnmfmoimjkoieaaGreatDoor.decPlain Go.Proofs.YtnmfmoimjkoieaaGreatDoor.rd Go.Proofs.YtnmfmoimjkoieaaGreatDoor.ew Go.Proofs.YtnmfmoimjkoieaaGreatDoor.encPlain Go.Proofs.YtnmfmoimjkoieaaGreatDoor.rf

/-- behind the handler -/
def DoneP (B k0 k1 : Nat) (d0 d1 : List UInt8) (BV : BrV) (X0 X1 : SideV) (S0' S1' : Ses) (w1 w2 : World) : Prop :=
  ∃ uv' ov' dv0 dv1, But (fun g => g = X1.sv.kb ∨ X0.sv.has X0.cv.sp g ∨ g = B) w1 w2 ∧ SesAt w2 X0.cv.sp { X0.sv with uv := uv' } S0' ∧ SesAt w2 X1.cv.sp X1.sv S1' ∧ BlkAt w2 B BV ov' (outsP k0 k1 d0 d1 dv0 dv1) ∧ (uv'.ownBlock = X0.sv.uv.ownBlock ∨ ∃ b, uv'.ownBlock = some b ∧ w1.heap.size ≤ b)
theorem feed_pub {N0 : Nat} {ash aw : Addr} (B k0 k1 nn : Nat) (p p0 p1 : Pkt) (c0 c1 l d0 d1 : List UInt8) (q0 q1 : Int) (D : DataW Unit) (BV : BrV) (X0 X1 : SideV) (S0 S0' S1 : Ses) (db dc : Nat) (w : World) (hG : Gd N0 ash aw w) (h : BlkAt w B BV (.slice none 0 0) []) (h0 : Side w B k0 X0 p0 S0) (h1 : Side w B k1 X1 p1 S1) (hM : w.ownsMap Tryz.prog 9 ptrElem BV.mb nn D) (hX0 : ∀ g, X0.has g → N0 ≤ g) (hX1 : ∀ g, X1.has g → N0 ≤ g) (hNB : N0 ≤ B) (hXm : X0.sv.kb ≠ BV.mb) (hXm1 : X1.sv.kb ≠ BV.mb) (hdis : ∀ g, X0.has g → ¬ X1.has g)
    (hk : k1 < 8) (hv : BV.cv k1 = .pointer (some ⟨X1.cv.cb, 0, none⟩)) (hclk : BV.clk = 0) (hl0 : 0 < l.length) (hl : l.length ≤ 1000000) (hd : ∀ j x, l[j]? = some x → w.cell? ⟨db, 0 + j, none⟩ = some (.int .u8 (x.toNat : Int))) (hdec : decL l = .inr ((p, [], []), l.length)) (hkind : p.kind = 3) (hq : p.qos = 2) (hid : (Lit.int .i64 p.id).wf = true) (hkn : S1.known.contains p.id = false) (hkl : S1.known.length < 100000)
    (hr : p.retain = false) (hks : ∀ ss : List (List UInt8), ss.Perm (strKeys D) → ss.mergeSort (fun x y => decide (x ≤ y)) = [c0, c1]) (hsz : Maps.size D ≤ 1000000) (hc0 : c0.length ≤ 1000) (hc1 : c1.length ≤ 1000) (hat0 : D.atKey (.string c0) .nil = .lit (.int .i64 ((X0.cv.sp : Nat) : Int))) (hat1 : D.atKey (.string c1) .nil = .lit (.int .i64 ((X1.cv.sp : Nat) : Int)))
    (ht : p.topic.length ≤ 65535) (hf0 : ∀ f ∈ S0.filters, f.1.length ≤ 65535) (hf1 : ∀ f ∈ S1.filters, f.1.length ≤ 65535) (ha0 : asksS p.topic S0.filters 0 false = (q0, true)) (ha1 : asksS p.topic S1.filters 0 false = (q1, false))
    (hdd : encD (pktS (toldS (ofS p) q0 false) (tellId S0 (toldS (ofS p) q0 false))) [] [] = d0) (hto : ∀ s, tellO (k0 : Int) (some s) S0 (toldS (ofS p) q0 false) d0 = [⟨(k0 : Int), d0, false⟩]) (hts : tellS true S0 (toldS (ofS p) q0 false) = S0') (hla : 0 ≤ S0.last) (hu0 : S0.under.length < 65000) (hdr : encD (recS p.id) [] [] = d1) :
    Calls Tryz.prog 24 #[.pointer (some ⟨B, 0, none⟩), .int .i64 (k1 : Int), .slice (some ⟨db, 0, none⟩) l.length dc] w fun e w' => ∃ ov L, e = .returned (.tuple #[ov, .int .i64 0]) ∧ FdP B k0 k1 p0 p1 d0 d1 BV X0 X1 S0' { S1 with known := S1.known ++ [p.id] } w w' ov L := by
  obtain ⟨HP, hHP⟩ : ∃ HP : World → World → Prop, HP = DoneP B k0 k1 d0 d1 BV X0 X1 S0' { S1 with known := S1.known ++ [p.id] } := ⟨_, rfl⟩
  have hcb0 : N0 ≤ X1.cv.cb := hX1 _ (Or.inl (Or.inl rfl))
  have hkb0 : N0 ≤ X1.sv.kb := hX1 _ (Or.inr (Or.inl (Or.inr (Or.inr (Or.inl rfl)))))
  have hs0 : ∀ g, X0.sv.has X0.cv.sp g → N0 ≤ g := fun g hg => hX0 g (Or.inr (Or.inl hg))
  have hk1has : X1.has X1.sv.kb := Or.inr (Or.inl (Or.inr (Or.inr (Or.inl rfl))))
  have hF0 : ∀ g, (g = X1.sv.kb ∨ X0.sv.has X0.cv.sp g ∨ g = B) → N0 ≤ g := fun g e => by
    rcases e with rfl | e | rfl
    · exact hkb0
    · exact hs0 g e
    · exact hNB
  have gd1 : ∀ w' w1 fv cv, Below w.heap.size w w' → ReadPre w' B k1 BV X1.cv ⟨[], 0, some p1⟩ [] [] w1 fv cv → Gd N0 ash aw w1 := fun w' w1 fv cv hb hpre => by
    have hG' : Gd N0 ash aw w' := hG.below (hb.mono hG.env.size)
    exact hG'.below (hpre.but.below (fun b e => by subst e; exact hcb0) hG'.env.size)
  have side0 : ∀ w' w1 fv cv, Below w.heap.size w w' → ReadPre w' B k1 BV X1.cv ⟨[], 0, some p1⟩ [] [] w1 fv cv → Side w1 B k0 X0 p0 S0 := fun w' w1 fv cv hb hpre => (h0.below hb).but hpre.but (fun b hx e => by subst e; exact hdis _ hx (Or.inl (Or.inl rfl)))
  have hread : ∀ w', Below w.heap.size w w' → Calls Tryz.prog 59 #[.pointer (some ⟨B, 0, none⟩), .pointer (some ⟨X1.cv.cb, 0, none⟩), .slice (some ⟨db, 0, none⟩) l.length dc] w' (ReadPost w' B k1 BV X1.cv ⟨[], 0, some p1⟩ [] [] HP) := by
    intro w' hb
    refine read_pub (N0 := N0) (ash := ash) (aw := aw) B k1 BV X1.cv ⟨[], 0, some p1⟩ p [] [] l db 0 dc w' HP (hG.below (hb.mono hG.env.size)) (h.below hb) (h1.below hb).con rfl h1.wv ⟨_, rfl⟩ hk hv hl0 hl (fun j x hx => by have := hd j x hx; rw [hb.cell (cell_blt this)]; exact this) hdec hkind (fun g hg => hX1 g (Or.inl hg)) ?_ ?_
    · intro w1 fv cv hpre
      have hG1 := gd1 w' w1 fv cv hb hpre
      have hS1 := (h1.below hb).pre hclk hpre
      have hS0 := side0 w' w1 fv cv hb hpre
      obtain ⟨f1, f3, rfl⟩ := own_form hpre.fil
      obtain ⟨c1', c3, rfl⟩ := own_form hpre.cod
      refine h_pub B X1.cv.cb X1.cv.x' X1.cv.y' { p with fv := .slice f1 ([] : List (List UInt8 × Int)).length f3, cv := .slice c1' ([] : List Int).length c3 } w1 _ hS1.con.b2 ⟨_, _, _, rfl⟩ ⟨_, _, _, rfl⟩ ?_
      intro w1' hb1
      have hG1' : Gd N0 ash aw w1' := hG1.below (hb1.mono hG1.env.size)
      have hS1' := hS1.below hb1
      have hS0' := hS0.below hb1
      have hB1' := hpre.blk.below hb1
      have c18 : w1'.cell? ⟨X1.cv.cb, 18, none⟩ = some (.pointer (some ⟨X1.cv.sp, 0, none⟩)) := blk_cell hS1'.con.blk (conC_at _ _ _).2.2.2.1
      have hcbk : X1.cv.cb ≠ X1.sv.kb := fun e => by
        obtain ⟨D9, ⟨es9, cl9, hk9, _⟩, _⟩ := hS1'.ses.kno
        have := hS1'.con.blk; rw [e, hk9] at this; simp at this
      have hMw : w1'.ownsMap Tryz.prog 9 ptrElem BV.mb nn D := by
        obtain ⟨es, cl, hmb⟩ := map_blk hM
        have hmb' := (hb.block _ (blk_lt hmb)).trans hmb
        have e2 : w1.heap[BV.mb]? = w'.heap[BV.mb]? := hpre.but.keep _ (blk_lt hmb') (fun e => by have := (h1.below hb).con.blk; rw [← e, hmb'] at this; simp at this)
        exact map_keep (map_keep (map_keep hM (hb.block _ (blk_lt hmb))) e2) (hb1.block _ (blk_lt (e2.trans hmb')))
      have hltk := hS1'.lt hk1has
      have hltB := blk_lt hB1'.blk
      have nBk : B ≠ X1.sv.kb := fun e => hS1'.notB hB1'.blk (e ▸ hk1has)
      refine receive_two B X1.cv.cb X1.cv.sp { p with fv := .slice f1 0 f3, cv := .slice c1' 0 c3 } w1' (fun a => But (fun g => g = X1.sv.kb) w1' a ∧ SesAt a X1.cv.sp X1.sv { S1 with known := S1.known ++ [p.id] }) (fun a => ∃ uv' ov' dv0, But (fun g => g = X1.sv.kb ∨ X0.sv.has X0.cv.sp g ∨ g = B) w1' a ∧ SesAt a X0.cv.sp { X0.sv with uv := uv' } S0' ∧ SesAt a X1.cv.sp X1.sv { S1 with known := S1.known ++ [p.id] } ∧ BlkAt a B BV ov' [(⟨(k0 : Int), d0, false⟩, dv0)] ∧ (uv'.ownBlock = X0.sv.uv.ownBlock ∨ ∃ b, uv'.ownBlock = some b ∧ w1'.heap.size ≤ b) ∧ ∀ b, ov'.ownBlock = some b → w1'.heap.size ≤ b) _ f1 0 f3 c1' 0 c3 rfl rfl hq c18 ?_ ?_ ?_ ?_ ?_ ?_
      · intro a ha
        refine (learn_new X1.cv.sp X1.sv S1 p.id a (hS1'.ses.below ha) hid hkn hkl).mono ?_
        rintro e a' ⟨rfl, g1, g2⟩
        exact ⟨rfl, ⟨(But.of_below ha).trans g2 (fun _ _ f => f), g1⟩, g2.size, fun b i1 i2 => g2.keep b i2 (fun e => by omega)⟩
      · rintro a ⟨g1, _⟩
        exact g1.cell hcbk c18
      · rintro a b ⟨g1, g2⟩ hab
        exact ⟨g1.trans (But.of_below (F := fun _ => False) hab) (fun _ _ f => f.elim), g2.below hab⟩
      · rintro a b ⟨uv', ov', dv0, g1, g2, g3, g4, g5, g6⟩ hab
        exact ⟨uv', ov', dv0, g1.trans (But.of_below (F := fun _ => False) hab) (fun _ _ f => f.elim), g2.below hab, g3.below hab, g4.below hab, g5, g6⟩
      · rintro a ⟨g1, g2⟩
        have hGa : Gd N0 ash aw a := hG1'.below (g1.below (fun b e => by subst e; exact hkb0) hG1'.env.size)
        have hBa : BlkAt a B BV (.slice none 0 0) [] := ⟨g1.blk nBk hB1'.blk, OutsAt.nil _⟩
        have h0a : Side a B k0 X0 p0 S0 := hS0'.but g1 (fun b hx e => by subst e; exact hdis _ hx hk1has)
        have h1a : Side a B k1 ⟨X1.cv, X1.sv, X1.x, X1.y⟩ p1 { S1 with known := S1.known ++ [p.id] } := hS1'.work g1 (fun g e => by subst e; exact hS1'.apart hS1'.ses (Or.inr (Or.inr (Or.inl rfl)))) g2 rfl
        have hMa : a.ownsMap Tryz.prog 9 ptrElem BV.mb nn D := by
          obtain ⟨es, cl, hmb⟩ := map_blk hMw
          exact map_keep hMw (g1.keep _ (blk_lt hmb) (fun e => hXm1 e.symm))
        refine (publish_two (N0 := N0) (ash := ash) (aw := aw) B k0 k1 nn (ofS p) c0 c1 d0 q0 q1 D p0 p1 BV X0 ⟨X1.cv, X1.sv, X1.x, X1.y⟩ S0 S0' { S1 with known := S1.known ++ [p.id] } a hGa hBa h0a h1a hMa hX0 hNB hXm hdis hr hks hsz hc0 hc1 hat0 hat1 ht hf0 hf1 ha0 ha1 hdd hto hts hla hu0).mono ?_
        rintro e a' ⟨rfl, uv', ov', dv, i1, i2, i3, i4, i5⟩
        refine ⟨rfl, ⟨uv', ov', dv, (g1.wide (fun _ _ e => Or.inl e)).trans i1 (fun _ _ e => Or.inr e), i2, g2.but i1 (fun b hb' e => ?_), i3, i4.imp id (fun ⟨b, e1, e2⟩ => ⟨b, e1, Nat.le_trans g1.size e2⟩), fun b hb' => Nat.le_trans g1.size (i5 b hb')⟩, i1.size, fun b j1 j2 => i1.keep b j2 (fun e => ?_)⟩
        · rcases e with e | e
          · exact hdis b (Or.inr (Or.inl e)) (Or.inr (Or.inl hb'))
          · subst e; exact h1a.notB hBa.blk (Or.inr (Or.inl hb'))
        · rcases e with e | e
          · have := hS0'.ses.lt e; omega
          · omega
      · rintro a ⟨uv', ov', dv0, g1, g2, g3, g4, g5, g6⟩
        have hGa : Gd N0 ash aw a := hG1'.below (g1.below hF0 hG1'.env.size)
        have hE : EncOK N0 a (recS p.id) d1 := by rw [← hdr]; exact hGa.enc _ rfl rfl
        have hncb : ¬ (X1.cv.cb = X1.sv.kb ∨ X0.sv.has X0.cv.sp X1.cv.cb ∨ X1.cv.cb = B) := by
          rintro (e | e | e)
          · exact hcbk e
          · exact hdis _ (Or.inr (Or.inl e)) (Or.inl (Or.inl rfl))
          · exact hS1'.notB hB1'.blk (Or.inl (Or.inl e.symm))
        refine (bwrite_any B X1.cv.cb (k1 : Int) (recS p.id) d1 BV ov' [(⟨(k0 : Int), d0, false⟩, dv0)] a hE g4 (g1.cell hncb (blk_cell hS1'.con.blk (conC_at _ _ _).1)) (by simp)).mono ?_
        rintro e a' ⟨rfl, ov2, dv1, i1, i2, i3, i4⟩
        refine ⟨rfl, rfl, rfl, ?_⟩
        rw [hHP]
        refine ⟨uv', ov2, dv0, dv1, (But.of_below hb1).trans (g1.trans i2 (fun x hx e => ?_)) (fun _ _ f => f), g2.but i2 (fun b hb' => g2.apart g4 hb'), g3.but i2 (fun b hb' => g3.apart g4 hb'), i1, g5.imp id (fun ⟨b, e1, e2⟩ => ⟨b, e1, Nat.le_trans hb1.size e2⟩)⟩
        rcases e with e | e
        · exact Or.inr (Or.inr e)
        · have := g6 x e; omega
    · intro w1 w2 fv cv hpre hHp
      rw [hHP] at hHp
      obtain ⟨uv', ov', dv0, dv1, g1, g2, g3, g4, g5⟩ := hHp
      have hG1 := gd1 w' w1 fv cv hb hpre
      have hS1 := (h1.below hb).pre hclk hpre
      refine ⟨hG1.below (g1.below hF0 hG1.env.size), g1.size, ⟨BV, ov', g4.blk, hv⟩, X1.cv, ⟨[], 0, some p1⟩, g1.blk (fun e => ?_) hS1.con.blk⟩
      rcases e with e | e | e
      · obtain ⟨D9, ⟨es9, cl9, hk9, _⟩, _⟩ := hS1.ses.kno
        have := hS1.con.blk; rw [e, hk9] at this; simp at this
      · exact hdis _ (Or.inr (Or.inl e)) (Or.inl (Or.inl rfl))
      · exact hS1.notB hpre.blk.blk (Or.inl (Or.inl e.symm))
  refine (feed_any B k1 X1.cv.cb (some ⟨db, 0, none⟩) l.length dc BV _ w (fun w' w'' => ReadPost w' B k1 BV X1.cv ⟨[], 0, some p1⟩ [] [] HP (.returned (.tuple #[])) w'') (fun w' w'' BV' ov' L' => BV' = BV ∧ (∃ dv0 dv1, L' = outsP k0 k1 d0 d1 dv0 dv1) ∧ SideP B k0 k1 p0 p1 X0 X1 S0' { S1 with known := S1.known ++ [p.id] } w' w'') h.blk hk hv ?_ ?_).mono ?_
  · intro w' hb
    refine (hread w' hb).mono ?_
    rintro e w'' ⟨rfl, hR⟩
    exact ⟨rfl, rfl, hR⟩
  · rintro w' w'' hb ⟨_, w1, fv, cv, w2, w3, v, hpre, hHp, hb3, hv3, ⟨qv, rfl⟩, rfl⟩
    rw [hHP] at hHp
    obtain ⟨uv', ov', dv0, dv1, g1, g2, g3, g4, g5⟩ := hHp
    have hS1 := (h1.below hb).pre hclk hpre
    have hS0 := side0 w' w1 fv cv hb hpre
    have hnB1 := hS1.notB hpre.blk.blk
    have hnB0 := hS0.notB hpre.blk.blk
    have hT1 := hS1.work g1 (fun g hg => by
      rcases hg with rfl | hg | rfl
      · exact hS1.apart hS1.ses (Or.inr (Or.inr (Or.inl rfl)))
      · exact hS1.apart hS0.ses hg
      · exact ⟨fun hx => hnB1 (Or.inl hx), fun e => hnB1 (Or.inr (Or.inr (Or.inl e))), fun e => hnB1 (Or.inr (Or.inr (Or.inr e)))⟩) g3 rfl
    have hT0 := hS0.work g1 (fun g hg => by
      rcases hg with rfl | hg | rfl
      · exact hS0.apart hS1.ses (Or.inr (Or.inr (Or.inl rfl)))
      · exact hS0.apart hS0.ses hg
      · exact ⟨fun hx => hnB0 (Or.inl hx), fun e => hnB0 (Or.inr (Or.inr (Or.inl e))), fun e => hnB0 (Or.inr (Or.inr (Or.inr e)))⟩) g2 rfl
    have hU1 := hT1.below hb3
    have hU0 := hT0.below hb3
    have hset : But (fun g => g = X1.cv.cb) w3 (w3.setCell ⟨X1.cv.cb, 1, none⟩ (.slice qv 0 0)) := But.set _ _ _ rfl
    have hB3 := g4.below hb3
    have s1 := hpre.but.size
    have s2 := g1.size
    have hlt1 := hS1.lt (Or.inl (Or.inl rfl))
    have hX0has : ∀ q, (SideV.mk X0.cv { X0.sv with uv := uv' } X0.x X0.y).has q → X0.has q ∨ w1.heap.size ≤ q := by
      rintro q (hg | hg | hg | hg)
      · exact Or.inl (Or.inl hg)
      · rcases hg with hg | hg | hg | hg | hg
        · exact Or.inl (Or.inr (Or.inl (Or.inl hg)))
        · exact Or.inl (Or.inr (Or.inl (Or.inr (Or.inl hg))))
        · exact Or.inl (Or.inr (Or.inl (Or.inr (Or.inr (Or.inl hg)))))
        · exact Or.inl (Or.inr (Or.inl (Or.inr (Or.inr (Or.inr (Or.inl hg))))))
        · rcases g5 with e | ⟨b, e1, e2⟩
          · exact Or.inl (Or.inr (Or.inl (Or.inr (Or.inr (Or.inr (Or.inr (e ▸ hg)))))))
          · have hg2 : uv'.ownBlock = some q := hg
            rw [e1] at hg2
            cases hg2
            exact Or.inr e2
      · exact Or.inl (Or.inr (Or.inr (Or.inl hg)))
      · exact Or.inl (Or.inr (Or.inr (Or.inr hg)))
    refine ⟨BV, ov', _, hB3.but hset (fun b e => by subst e; exact hB3.not hU1.con.blk (by decide)), rfl, ⟨dv0, dv1, rfl⟩, _, _, hU0.but hset (fun b hx e => ?_), hU1.post hv3, rfl, rfl, rfl, ?_, ?_, ?_⟩
    · subst e
      rcases hX0has _ hx with hx | hx
      · exact hdis _ hx (Or.inl (Or.inl rfl))
      · omega
    · exact fun q hq => (hX0has q hq).imp id (fun e => by omega)
    · rintro q ((rfl | hg | rfl | rfl | rfl | rfl) | hg | rfl | rfl)
      · exact Or.inl (Or.inl (Or.inl rfl))
      · have := (own_zero hv3).2 q hg; exact Or.inr (by omega)
      · exact Or.inl (Or.inl (Or.inr (Or.inr (Or.inl rfl))))
      · exact Or.inl (Or.inl (Or.inr (Or.inr (Or.inr (Or.inl rfl)))))
      · exact Or.inl (Or.inl (Or.inr (Or.inr (Or.inr (Or.inr (Or.inl rfl))))))
      · exact Or.inl (Or.inl (Or.inr (Or.inr (Or.inr (Or.inr (Or.inr rfl))))))
      · exact Or.inl (Or.inr (Or.inl hg))
      · exact Or.inl (Or.inr (Or.inr (Or.inl rfl)))
      · exact Or.inl (Or.inr (Or.inr (Or.inr rfl)))
    · have t1 : But (fun g => g = B ∨ X0.has g ∨ X1.has g) w' w1 := hpre.but.wide (fun _ _ e => Or.inr (Or.inr (Or.inl (Or.inl e))))
      have t2 := t1.trans g1 (fun x _ e => by
        rcases e with e | e | e
        · exact Or.inr (Or.inr (by rw [e]; exact hk1has))
        · exact Or.inr (Or.inl (Or.inr (Or.inl e)))
        · exact Or.inl e)
      have t3 := t2.trans (But.of_below (F := fun _ => False) hb3) (fun _ _ f => f.elim)
      exact t3.trans hset (fun _ _ e => Or.inr (Or.inr (Or.inl (Or.inl e))))
  · rintro e w' ⟨w1, w2, BV', ov', L', hb1, ⟨rfl, hL', X0', X1', hS0', hS1', e1, e2, e3, hX0', hX1', hBut⟩, hb2, rfl, ho, hblk, hbB⟩
    have hnB0 : ∀ b, X0'.has b → ¬ b = B := fun b hb e => by subst e; exact hS0'.notB hb2.blk hb
    have hnB1 : ∀ b, X1'.has b → ¬ b = B := fun b hb e => by subst e; exact hS1'.notB hb2.blk hb
    exact ⟨ov', L', rfl, hL', ho, hblk, X0', X1', hS0'.but hbB hnB0, hS1'.but hbB hnB1, e1, e2, e3, fun g hg => (hX0' g hg).imp id (fun hh => Nat.le_trans hb1.size hh), fun g hg => (hX1' g hg).imp id (fun hh => Nat.le_trans hb1.size hh), ((But.of_below hb1).trans hBut (fun _ _ f => f)).trans hbB (fun _ _ e => Or.inl e)⟩
end Go.Proofs.YtnmfmoimjkoieaaGreatDoor.br

/- sends of a PUBLISH of QoS 2, in the hall. -/
namespace Go.Proofs.YtnmfmoimjkoieaaGreatDoor.br
open Go.RowKit Go.Proofs.YtnmfmoimjkoieaaGreatDoor.topPlain Go.Proofs.YtnmfmoimjkoieaaGreatDoor.topWalks Go.Proofs.YtnmfmoimjkoieaaGreatDoor.decPlain Go.Proofs.YtnmfmoimjkoieaaGreatDoor.rd Go.Proofs.YtnmfmoimjkoieaaGreatDoor.ew Go.Proofs.YtnmfmoimjkoieaaGreatDoor.encPlain Go.Proofs.YtnmfmoimjkoieaaGreatDoor.rf

/-- of a list of two -/
theorem two_at {k0 k1 : Nat} {d0 d1 : List UInt8} {dv0 dv1 : Value} {o : OutS × Value} {j : Nat} (h : (outsP k0 k1 d0 d1 dv0 dv1)[j]? = some o) : (j = 0 ∧ o = (⟨(k0 : Int), d0, false⟩, dv0)) ∨ (j = 1 ∧ o = (⟨(k1 : Int), d1, false⟩, dv1)) := by
  unfold outsP at h
  match j, h with
  | 0, h => simp at h; exact Or.inl ⟨rfl, h.symm⟩
  | 1, h => simp at h; exact Or.inr ⟨rfl, h.symm⟩
  | n + 2, h => simp at h
theorem GotP.low {N N' : Nat} {w : World} {v : Value} {r : Dec} (h : GotP N w v r) (hl : N' ≤ N) : GotP N' w v r := by
  obtain ⟨fv, cv, h1, h2, h3⟩ := h
  exact ⟨fv, cv, own_lower h1 hl, own_lower h2 hl, own_lower h3 hl⟩
theorem pub_hall {N0 : Nat} {ash aw : Addr} (lb B nn : Nat) (ps p p0 p1 a0 a1 : Pkt) (c0 c1 l d0 d1 : List UInt8) (q0 q1 : Int) (D : DataW Unit) (V : LineV) (BV : BrV) (X0 X1 : SideV) (S0 S0' S1 : Ses) (w : World) (hR : Room N0 ash aw w B BV nn D) (hL : LineOf N0 w lb B V (fun _ => False)) (h0 : Side w B 0 X0 p0 S0) (h1 : Side w B 1 X1 p1 S1) (hX0 : ∀ g, X0.has g → N0 ≤ g) (hX1 : ∀ g, X1.has g → N0 ≤ g) (hXm : X0.sv.kb ≠ BV.mb) (hXm1 : X1.sv.kb ≠ BV.mb) (hdis : ∀ g, X0.has g → ¬ X1.has g)
    (hv : BV.cv 1 = .pointer (some ⟨X1.cv.cb, 0, none⟩)) (hpf : ps.fv = .slice none 0 0) (hpc : ps.cv = .slice none 0 0) (henc : encL (fwW ps) (cbW ps) ps [] [] = some l) (hl0 : 0 < l.length) (hl : l.length ≤ 1000000) (hdec : decL l = .inr ((p, [], []), l.length)) (hkind : p.kind = 3) (hq : p.qos = 2) (hid : (Lit.int .i64 p.id).wf = true) (hkn : S1.known.contains p.id = false) (hkl : S1.known.length < 100000)
    (hr : p.retain = false) (hks : ∀ ss : List (List UInt8), ss.Perm (strKeys D) → ss.mergeSort (fun x y => decide (x ≤ y)) = [c0, c1]) (hsz : Maps.size D ≤ 1000000) (hc0 : c0.length ≤ 1000) (hc1 : c1.length ≤ 1000) (hat0 : D.atKey (.string c0) .nil = .lit (.int .i64 ((X0.cv.sp : Nat) : Int))) (hat1 : D.atKey (.string c1) .nil = .lit (.int .i64 ((X1.cv.sp : Nat) : Int)))
    (ht : p.topic.length ≤ 65535) (hf0 : ∀ f ∈ S0.filters, f.1.length ≤ 65535) (hf1 : ∀ f ∈ S1.filters, f.1.length ≤ 65535) (ha0 : asksS p.topic S0.filters 0 false = (q0, true)) (ha1 : asksS p.topic S1.filters 0 false = (q1, false))
    (hdd : encD (pktS (toldS (ofS p) q0 false) (tellId S0 (toldS (ofS p) q0 false))) [] [] = d0) (hto : ∀ s, tellO ((0 : Nat) : Int) (some s) S0 (toldS (ofS p) q0 false) d0 = [⟨((0 : Nat) : Int), d0, false⟩]) (hts : tellS true S0 (toldS (ofS p) q0 false) = S0') (hla : 0 ≤ S0.last) (hu0 : S0.under.length < 65000) (hdr : encD (recS p.id) [] [] = d1)
    (e00 : 0 < d0.length) (e01 : d0.length ≤ 1000000) (e0d : decL d0 = .inr ((a0, [], []), d0.length)) (e10 : 0 < d1.length) (e11 : d1.length ≤ 1000000) (e1d : decL d1 = .inr ((a1, [], []), d1.length)) :
    Calls Tryz.prog 50 #[.pointer (some ⟨lb, 0, none⟩), .int .i64 ((1 : Nat) : Int), .agg (pkK ps)] w fun e w' => e = .returned (.tuple #[]) ∧ ∃ V' X0', Room N0 ash aw w' B BV nn D ∧ LineOf N0 w' lb B V' (fun n => n = 0 ∨ n = 1) ∧ Side w' B 0 X0' p0 S0' ∧ X0'.cv = X0.cv ∧ GotP w.heap.size w' (V'.got 0) (a0, [], []) ∧ GotP w.heap.size w' (V'.got 1) (a1, [], []) ∧ But (fun g => g = lb ∨ g = B ∨ X0.has g ∨ X1.has g) w w' := by
  have hlb : w.heap[lb]? = some (.cells (lineC V) 60) := hL.line
  obtain ⟨nB, nM, nMB⟩ := hR.lb_ne hL.line
  obtain ⟨es, cl, hmb⟩ := map_blk hR.map
  have nX0l : ¬ X0.has lb := h0.not hlb (by decide) (by decide)
  have nX1l : ¬ X1.has lb := h1.not hlb (by decide) (by decide)
  have nX0m : ¬ X0.has BV.mb := h0.notMap hmb (fun e => hXm e.symm)
  have nX1m : ¬ X1.has BV.mb := h1.notMap hmb (fun e => hXm1 e.symm)
  have hF0 : ∀ g, (g = B ∨ X0.has g ∨ X1.has g) → N0 ≤ g := fun g e => by
    rcases e with rfl | e | e
    · exact hR.B0
    · exact hX0 g e
    · exact hX1 g e
  have hnl : ¬ (lb = B ∨ X0.has lb ∨ X1.has lb) := by
    rintro (e | e | e)
    · exact nB e.symm
    · exact nX0l e
    · exact nX1l e
  refine (send_all lb B 1 ps [] [] l V (fun j => if j = 0 then (a0, [], []) else (a1, [], [])) w (fun w1 w2 ov L => Below w.heap.size w w1 ∧ FdP B 0 1 p0 p1 d0 d1 BV X0 X1 S0' { S1 with known := S1.known ++ [p.id] } w1 w2 ov L) hR.gd hL.lb0 hL.line hL.b hL.bad (by rw [hpf]; exact filV_nil _) (by rw [hpc]; exact intV_nil _) henc hl0 ?_ ?_).mono ?_
  · intro w1 g c hb1 hby
    refine (feed_pub (N0 := N0) (ash := ash) (aw := aw) B 0 1 nn p p0 p1 c0 c1 l d0 d1 q0 q1 D BV X0 X1 S0 S0' S1 g c w1 (hR.gd.below (hb1.mono hR.gd.env.size)) (hR.blk.below hb1) (h0.below hb1) (h1.below hb1) (map_keep hR.map (hb1.block _ (blk_lt hmb))) hX0 hX1 hR.B0 hXm hXm1 hdis (by omega) hv hR.clk hl0 hl hby hdec hkind hq hid hkn hkl hr hks hsz hc0 hc1 hat0 hat1 ht hf0 hf1 ha0 ha1 hdd hto hts hla hu0 hdr).mono ?_
    rintro e w2 ⟨ov, L, rfl, hF⟩
    exact ⟨ov, L, rfl, hb1, hF⟩
  · rintro w1 w2 ov L hb1 ⟨_, ⟨dv0, dv1, rfl⟩, ho, hblk, X0', X1', hS0', hS1', e1, e2, e3, hX0', hX1', hBut⟩
    have hG1 := hR.gd.below (hb1.mono hR.gd.env.size)
    refine ⟨hG1.below (hBut.below hF0 hG1.env.size), line_but (V := V) ((hb1.block _ (blk_lt hlb)).trans hlb) hBut hnl, ho, fun j o hj => ?_, fun i j o o' hi hj e => ?_⟩
    · rcases two_at hj with ⟨rfl, rfl⟩ | ⟨rfl, rfl⟩
      · exact ⟨rfl, e0d, e00, e01, 0, by omega, rfl, hL.got 0 (fun f => f), hL.off 0⟩
      · exact ⟨rfl, e1d, e10, e11, 1, by omega, rfl, hL.got 1 (fun f => f), hL.off 1⟩
    · rcases two_at hi with ⟨rfl, rfl⟩ | ⟨rfl, rfl⟩ <;> rcases two_at hj with ⟨rfl, rfl⟩ | ⟨rfl, rfl⟩
      · rfl
      · exact absurd (show ((0 : Nat) : Int) = ((1 : Nat) : Int) from e) (by decide)
      · exact absurd (show ((1 : Nat) : Int) = ((0 : Nat) : Int) from e) (by decide)
      · rfl
  · rintro e w'' ⟨rfl, w1, w2, ov, L, hb1, ⟨_, ⟨dv0, dv1, rfl⟩, ho, hblk, X0', X1', hS0', hS1', e1, e2, e3, hX0', hX1', hBut⟩, hT⟩
    have hG1 := hR.gd.below (hb1.mono hR.gd.env.size)
    have hs1 := hb1.size
    have hs2 := hBut.size
    have hl2 : w2.heap[lb]? = some (.cells (lineC V) 60) := hBut.blk hnl ((hb1.block _ (blk_lt hlb)).trans hlb)
    have hR2 : Room N0 ash aw w2 B BV nn D :=
      ⟨hG1.below (hBut.below hF0 hG1.env.size), hblk, hR.B0, hR.mb0, hR.clk, hR.win, hR.que, hR.rv, map_keep (map_keep hR.map (hb1.block _ (blk_lt hmb))) (hBut.keep _ (by have := blk_lt hmb; omega) (fun e => by
        rcases e with e | e | e
        · exact nMB e
        · exact nX0m e
        · exact nX1m e))⟩
    obtain ⟨V', l1, l2, l3, l4, l5, l6⟩ := hT.line
    obtain ⟨n0, hn0, hg0⟩ := l6 0 _ (by simp [outsP]) rfl
    obtain ⟨n1, hn1, hg1⟩ := l6 1 _ (by simp [outsP]) rfl
    have hn0' : n0 = 0 := by have : ((0 : Nat) : Int) = (n0 : Int) := hn0; omega
    have hn1' : n1 = 1 := by have : ((1 : Nat) : Int) = (n1 : Int) := hn1; omega
    subst hn0' hn1'
    refine ⟨rfl, V', X0', hR2.but hT.but nB nM (fun b e => by subst e; exact hL.lb0), ⟨l1, hL.lb0, l2.trans hL.b, l3, fun j => by rw [l4]; exact hL.off j, fun j hj => (l5 j (fun i o hi ho' e => hj ?_)).trans (hL.got j (fun f => f))⟩, hS0'.but hT.but (fun b hb' e => by subst e; exact hS0'.not hl2 (by decide) (by decide) hb'), e1, GotP.low hg0 (by omega), GotP.low hg1 (by omega), ?_⟩
    · rcases two_at ho' with ⟨rfl, rfl⟩ | ⟨rfl, rfl⟩
      · have : ((0 : Nat) : Int) = (j : Int) := e; omega
      · have : ((1 : Nat) : Int) = (j : Int) := e; omega
    · have t1 : But (fun g => g = lb ∨ g = B ∨ X0.has g ∨ X1.has g) w w1 := But.of_below hb1
      exact (t1.trans hBut (fun _ _ e => Or.inr e)).trans hT.but (fun _ _ e => Or.inl e)
end Go.Proofs.YtnmfmoimjkoieaaGreatDoor.br

/- The caller's head: sure says yes, and leaves all that lay there as it was. -/
namespace Go.Proofs.YtnmfmoimjkoieaaGreatDoor.br
open Go.RowKit Go.Proofs.YtnmfmoimjkoieaaGreatDoor.topPlain Go.Proofs.YtnmfmoimjkoieaaGreatDoor.topWalks Go.Proofs.YtnmfmoimjkoieaaGreatDoor.decPlain Go.Proofs.YtnmfmoimjkoieaaGreatDoor.rd Go.Proofs.YtnmfmoimjkoieaaGreatDoor.ew Go.Proofs.YtnmfmoimjkoieaaGreatDoor.encPlain Go.Proofs.YtnmfmoimjkoieaaGreatDoor.rf

def D1 (a : Nat) : DataW Unit := (DataW.map []).put (.string [99]) (.lit (.int .i64 (a : Int)))
def D2 (a b : Nat) : DataW Unit := (D1 a).put (.string [100]) (.lit (.int .i64 (b : Int)))
theorem sort1 : ([[99], [100]] : List (List UInt8)).mergeSort (fun x y => decide (x ≤ y)) = [[99], [100]] := by
  simp [List.mergeSort, List.MergeSort.Internal.splitInTwo, List.merge]
  decide
theorem sort2 : ([[100], [99]] : List (List UInt8)).mergeSort (fun x y => decide (x ≤ y)) = [[99], [100]] := by
  simp [List.mergeSort, List.MergeSort.Internal.splitInTwo, List.merge]
  decide
theorem keys2 {a b : Nat} {ss : List (List UInt8)} (h : ss.Perm (strKeys (D2 a b))) : ss.mergeSort (fun x y => decide (x ≤ y)) = [[99], [100]] := by
  have h : ss.Perm [[99], [100]] := h
  have hl := h.length_eq
  match ss, hl with
  | [x, y], _ =>
    have hx : x ∈ ([[99], [100]] : List (List UInt8)) := h.subset (by simp)
    have hy : y ∈ ([[99], [100]] : List (List UInt8)) := h.subset (by simp)
    simp at hx hy
    rcases hx with rfl | rfl <;> rcases hy with rfl | rfl
    · exact absurd h (by decide)
    · exact sort1
    · exact sort2
    · exact absurd h (by decide)
def helloD (client : List UInt8) (clean : Bool) : Pkt := { zP with kind := 1, client := client, clean := clean }
def ackD : Pkt := { zP with kind := 2 }
def askD : Pkt := { zP with kind := 8, id := 1 }
def sackD : Pkt := { zP with kind := 9, id := 1 }
def hiD : Pkt := { zP with kind := 3, qos := 2, id := 9, topic := [97, 47, 120], payload := [104, 105] }
def toldD : Pkt := { zP with kind := 3, qos := 1, id := 1, topic := [97, 47, 120], payload := [104, 105] }
def recD : Pkt := { zP with kind := 5, id := 9 }
/-- the listener's session, once it asked; once it was told -/
def lisS : Ses := ⟨[([97, 47, 43], 1)], [], 1, 1, [], [], 0⟩
/-- a client is new -/
structure StA (N0 : Nat) (ash aw : Addr) (w0 : World) (lb : Nat) (w : World) : Prop where
  bel : Below N0 w0 w
  ex : ∃ B V BV, Room N0 ash aw w B BV 0 (.map []) ∧ LineOf N0 w lb B V (fun _ => False) ∧ ∀ j, BV.cv j = .pointer none
/-- the listener is connected -/
structure StB (N0 : Nat) (ash aw : Addr) (w0 : World) (S : Ses) (lb : Nat) (w : World) : Prop where
  bel : Below N0 w0 w
  ex : ∃ B V BV X fv cv, Room N0 ash aw w B BV 1 (D1 X.cv.sp) ∧ LineOf N0 w lb B V (fun _ => False) ∧ Side w B 0 X { helloD [99] false with fv := fv, cv := cv } S ∧ (∀ g, X.has g → N0 ≤ g) ∧ X.sv.kb ≠ BV.mb ∧ BV.cv 0 = .pointer (some ⟨X.cv.cb, 0, none⟩) ∧ ∀ j, j ≠ 0 → BV.cv j = .pointer none
/-- both are -/
structure StD (N0 : Nat) (ash aw : Addr) (w0 : World) (lb : Nat) (w : World) : Prop where
  bel : Below N0 w0 w
  ex : ∃ B V BV X fv cv X1 fv1 cv1, Room N0 ash aw w B BV 2 (D2 X.cv.sp X1.cv.sp) ∧ LineOf N0 w lb B V (fun _ => False) ∧ Side w B 0 X { helloD [99] false with fv := fv, cv := cv } lisS ∧ Side w B 1 X1 { helloD [100] true with fv := fv1, cv := cv1 } (newS 1 1) ∧ (∀ g, X.has g → N0 ≤ g) ∧ (∀ g, X1.has g → N0 ≤ g) ∧ (∀ g, X.has g → ¬ X1.has g) ∧ X.sv.kb ≠ BV.mb ∧ X1.sv.kb ≠ BV.mb ∧ BV.cv 0 = .pointer (some ⟨X.cv.cb, 0, none⟩) ∧ BV.cv 1 = .pointer (some ⟨X1.cv.cb, 0, none⟩)
/-- it was told -/
structure StE (N0 : Nat) (ash aw : Addr) (w0 : World) (lb : Nat) (w : World) : Prop where
  bel : Below N0 w0 w
  ex : ∃ B V BV X fv cv nn D S, Room N0 ash aw w B BV nn D ∧ LineOf N0 w lb B V (fun n => n = 0 ∨ n = 1) ∧ Side w B 0 X { helloD [99] false with fv := fv, cv := cv } S ∧ N0 ≤ X.cv.sp ∧ BV.cv 0 = .pointer (some ⟨X.cv.cb, 0, none⟩)
theorem setCon_same (V : BrV) (k : Nat) (v : Value) : (V.setCon k v).cv k = v := if_pos rfl
theorem setCon_ne (V : BrV) {k j : Nat} (h : j ≠ k) (v : Value) : (V.setCon k v).cv j = V.cv j := if_neg h
theorem below_of {N0 : Nat} {w0 w w' : World} {F : Nat → Prop} (h : Below N0 w0 w) (hb : But F w w') (hF : ∀ b, F b → N0 ≤ b) (hs : N0 ≤ w0.heap.size) : Below N0 w0 w' := h.trans (hb.below hF (Nat.le_trans hs h.size))
theorem sure_head (w : World) (ash aw : Addr) (hG : Gd w.heap.size ash aw w) :
    Calls Tryz.prog 18 #[] w fun e w' => e = .returned (.bool true) ∧ Below w.heap.size w w' := by
  refine sure_any w (StA w.heap.size ash aw w) (StB w.heap.size ash aw w (newS 1 1)) (StB w.heap.size ash aw w lisS) (StD w.heap.size ash aw w) (StE w.heap.size ash aw w) (fun w' => Below w.heap.size w w') ?_ ?_ ?_ ?_ ?_ ?_
  · refine (opened_any 1 1 w (by decide) (by decide) (by decide) (by decide)).mono ?_
    rintro e w1 ⟨lb, B, mb, rfl, hb, hB, hm, hl, n1, n2, k1, k2, k3⟩
    exact ⟨lb, rfl, hb, B, _, _, ⟨hG.below hb, k2, hB, hm, rfl, rfl, rfl, rfl, k3⟩, ⟨k1, hl, rfl, rfl, fun _ => rfl, fun _ _ => rfl⟩, fun _ => rfl⟩
  · rintro lb w1 ⟨hb, B, V, BV, hR, hL, hcv⟩
    refine (join_hall lb B 0 0 [99] false [16, 13, 0, 4, 77, 81, 84, 84, 4, 0, 0, 0, 0, 1, 99] [32, 2, 0, 0] (helloD [99] false) ackD V BV (.map []) (fun _ => none) w1 hR hL (by omega) (hcv 0) (fun j _ _ => hcv j) (fun _ _ _ => trivial) (by decide) (by decide) rfl (by decide) (by omega) (by kernel_rfl) (by decide) (by decide) (by kernel_rfl) rfl rfl (by kernel_rfl) (by decide) (by decide) (by kernel_rfl) rfl rfl).mono ?_
    rintro e w2 ⟨v, rfl, V', X, fv, cv, hL', hR', hS', hX, hbut⟩
    have hs : w.heap.size ≤ w1.heap.size := hb.size
    refine ⟨v, rfl, below_of hb hbut (fun g e => ?_) (Nat.le_refl _), B, V', _, X, fv, cv, hR', hL', hS', fun g hg => Nat.le_trans hs (hX g hg), fun e => ?_, setCon_same _ _ _, fun j hj => (setCon_ne _ hj _).trans (hcv j)⟩
    · rcases e with rfl | rfl | rfl
      · exact hL.lb0
      · exact hR.B0
      · exact hR.mb0
    · obtain ⟨es, cl, hmb⟩ := map_blk hR.map
      have h1 := hX X.sv.kb (Or.inr (Or.inl (Or.inr (Or.inr (Or.inl rfl)))))
      have h2 := blk_lt hmb
      have e' : X.sv.kb = BV.mb := e
      omega
  · rintro lb w2 ⟨hb, B, V, BV, X, fv, cv, hR, hL, hS, hX, hXm, hv, hvn⟩
    refine (ask_hall lb B 0 1 ([97, 47, 43], 1) [130, 8, 0, 1, 0, 3, 97, 47, 43, 1] [144, 3, 0, 1, 1] askD _ sackD V BV (D1 X.cv.sp) X (newS 1 1) [([97, 47, 43], 1)] w2 hR hL hS hX hXm (by omega) hv (fun fv => by kernel_rfl) (by decide) (by decide) (by kernel_rfl) rfl (by kernel_rfl) (fun cv => by kernel_rfl) (by decide) (by decide) (by kernel_rfl) rfl).mono ?_
    rintro e w3 ⟨rfl, V', X', hL', hR', hS', e1, e2, e3, hX', hbut⟩
    have hs : w.heap.size ≤ w2.heap.size := hb.size
    refine ⟨rfl, below_of hb hbut (fun g e => ?_) (Nat.le_refl _), B, V', BV, X', fv, cv, by rw [e2]; exact hR', hL', hS', fun g hg => (hX' g hg).elim (hX g) (fun h => Nat.le_trans hs h), by rw [e3]; exact hXm, by rw [e1]; exact hv, hvn⟩
    rcases e with rfl | rfl | e
    · exact hL.lb0
    · exact hR.B0
    · exact hX g e
  · rintro lb w3 ⟨hb, B, V, BV, X, fv, cv, hR, hL, hS, hX, hXm, hv, hvn⟩
    refine (join_hall lb B 1 1 [100] true [16, 13, 0, 4, 77, 81, 84, 84, 4, 2, 0, 0, 0, 1, 100] [32, 2, 0, 0] (helloD [100] true) ackD V BV (D1 X.cv.sp) (fun j => if j = 0 then some (X.cv, ⟨[], 0, some { helloD [99] false with fv := fv, cv := cv }⟩) else none) w3 hR hL (by omega) (hvn 1 (by decide)) (fun j _ hj1 => ?_) (fun j _ _ => ?_) (by decide) (by decide) rfl (by show (1 : Nat) < 8; decide) (by omega) (by kernel_rfl) (by decide) (by decide) (by kernel_rfl) rfl rfl (by kernel_rfl) (by decide) (by decide) (by kernel_rfl) rfl rfl).mono ?_
    · show ConO w3 B BV j (if j = 0 then _ else none)
      by_cases hj : j = 0
      · subst hj; rw [if_pos rfl]; exact ⟨hv, hS.con⟩
      · rw [if_neg hj]; exact hvn j hj
    · show notFor [100] (if j = 0 then _ else none)
      by_cases hj : j = 0
      · rw [if_pos hj]; intro q hq; cases hq; show ([99] : List UInt8) ≠ [100]; decide
      · rw [if_neg hj]; trivial
    · rintro e w4 ⟨v, rfl, V', X1, fv1, cv1, hL', hR', hS', hX1, hbut⟩
      have hs : w.heap.size ≤ w3.heap.size := hb.size
      obtain ⟨es, cl, hmb⟩ := map_blk hR.map
      have hlb : w3.heap[lb]? = some (.cells (lineC V) 60) := hL.line
      refine ⟨v, rfl, below_of hb hbut (fun g e => ?_) (Nat.le_refl _), B, V', _, X, fv, cv, X1, fv1, cv1, hR', hL', hS.but hbut (fun b hb' e => ?_), hS', hX, fun g hg => Nat.le_trans hs (hX1 g hg), fun g h1 h2 => ?_, hXm, fun e => ?_, (setCon_ne _ (by decide) _).trans hv, setCon_same _ _ _⟩
      · rcases e with rfl | rfl | rfl
        · exact hL.lb0
        · exact hR.B0
        · exact hR.mb0
      · rcases e with rfl | rfl | rfl
        · exact hS.not hlb (by decide) (by decide) hb'
        · exact hS.notB hR.blk.blk hb'
        · exact hS.notMap hmb (fun e => hXm e.symm) hb'
      · have := hS.lt h1; have := hX1 g h2; omega
      · have h1 := hX1 X1.sv.kb (Or.inr (Or.inl (Or.inr (Or.inr (Or.inl rfl)))))
        have h2 := blk_lt hmb
        have e' : X1.sv.kb = BV.mb := e
        omega
  · rintro lb w4 ⟨hb, B, V, BV, X, fv, cv, X1, fv1, cv1, hR, hL, hS, hS1, hX, hX1, hdis, hXm, hXm1, hv, hv1⟩
    refine (pub_hall lb B 2 hiS hiD _ _ toldD recD [99] [100] [52, 9, 0, 3, 97, 47, 120, 0, 9, 104, 105] [50, 9, 0, 3, 97, 47, 120, 0, 1, 104, 105] [80, 2, 0, 9] 1 0 (D2 X.cv.sp X1.cv.sp) V BV X X1 lisS (tellS true lisS (toldS (ofS hiD) 1 false)) (newS 1 1) w4 hR hL hS hS1 hX hX1 hXm hXm1 hdis hv1 rfl rfl (by kernel_rfl) (by decide) (by decide) (by kernel_rfl) rfl rfl (by decide) rfl (by decide) rfl (fun ss h => keys2 h) (by show (2 : Nat) ≤ 1000000; decide) (by decide) (by decide) rfl rfl (by decide) (by decide) (by intro f hf; cases hf) (by kernel_rfl) rfl (by kernel_rfl) (fun s => by kernel_rfl) rfl (by decide) (by decide) (by kernel_rfl) (by decide) (by decide) (by kernel_rfl) (by decide) (by decide) (by kernel_rfl)).mono ?_
    rintro e w5 ⟨rfl, V', X', hR', hL', hS', eX, hg0, hg1, hbut⟩
    have hs : w.heap.size ≤ w4.heap.size := hb.size
    have hlb4 : lb < w4.heap.size := blk_lt hL.line
    obtain ⟨g0, cap0, f0, cc0, i1, i2, i3, i4, i5, _⟩ := hg0.at
    obtain ⟨g1, cap1, f1, cc1, j1, j2, j3, j4, j5, _⟩ := hg1.at
    refine ⟨rfl, ⟨below_of hb hbut (fun g e => ?_) (Nat.le_refl _), B, V', BV, X', fv, cv, _, _, _, hR', hL', hS', ?_, ?_⟩, g0, cap0, g1, cap1, V', ⟨hL'.line, hL'.bad, i1, j1, i3, j3, i5 0 _ rfl, i5 8 _ rfl, i5 11 _ rfl, i5 12 _ rfl, j5 0 _ rfl, j5 12 _ rfl, by omega, by omega⟩⟩
    · rcases e with rfl | rfl | e | e
      · exact hL.lb0
      · exact hR.B0
      · exact hX g e
      · exact hX1 g e
    · rw [eX]; exact hX _ (Or.inr (Or.inl (Or.inl rfl)))
    · rw [eX]; exact hv
  · rintro lb w5 V ⟨hb, B, V5, BV, X, fv, cv, nn, D, S, hR, hL, hS, hX, hv⟩ hline
    have hl5 : w5.heap[lb]? = some (.cells (lineC V5) 60) := hL.line
    have hVb : V.b = B := by
      have h1 : w5.heap[lb]? = some (.cells (lineC V) 60) := hline
      rw [hl5] at h1
      have h2 := congrArg (fun o => match o with | some (Obj.cells c _ _) => c[0]? | _ => none) h1
      simp [lineC] at h2
      rw [← h2]
      exact hL.b
    rw [hVb]
    obtain ⟨nB, nM, _⟩ := hR.lb_ne hL.line
    have hset : But (fun g => g = lb) w5 ((w5.setCell ⟨lb, 1, none⟩ (.slice none 0 0)).setCell ⟨lb, 2, none⟩ (.slice none 0 0)) := (But.set (F := fun g => g = lb) _ _ _ rfl).trans (But.set (F := fun g => g = lb) _ _ _ rfl) (fun _ _ e => e)
    generalize (w5.setCell ⟨lb, 1, none⟩ (.slice none 0 0)).setCell ⟨lb, 2, none⟩ (.slice none 0 0) = w6 at *
    have hR6 := hR.but hset nB nM (fun b e => by subst e; exact hL.lb0)
    have hS6 := hS.but hset (fun b hb' e => by subst e; exact hS.not hl5 (by decide) (by decide) hb')
    refine (close_stays B 0 _ X.sv S BV X.cv _ w6 hR6.blk hS6.con rfl rfl rfl hS6.ses (by omega) hv).mono ?_
    rintro e w7 ⟨ov, rfl, ho, _, _, hbut, _⟩
    obtain ⟨q, cap, rfl⟩ := own_form ho.row
    obtain ⟨g, rfl, _, i1, _, i2⟩ := own_at ho.row (by simp)
    refine ⟨g, cap, rfl, i1, i2 0 _ rfl, i2 2 _ rfl, below_of (below_of hb hset (fun b e => by subst e; exact hL.lb0) (Nat.le_refl _)) hbut (fun b e => ?_) (Nat.le_refl _)⟩
    rcases e with rfl | rfl
    · exact hX
    · exact hR.B0
end Go.Proofs.YtnmfmoimjkoieaaGreatDoor.br

/- pick: which of n things a raw number speaks of. -/
namespace Go.Proofs.YtnmfmoimjkoieaaGreatDoor.br
open Go.RowKit Go.Proofs.YtnmfmoimjkoieaaGreatDoor.topPlain Go.Proofs.YtnmfmoimjkoieaaGreatDoor.topWalks Go.Proofs.YtnmfmoimjkoieaaGreatDoor.decPlain

theorem pick_any (c : Int) (n : Nat) (w : World) (hn : 0 < n) (h1 : -9223372036854775808 ≤ c) (h2 : c ≤ 9223372036854775807) (hm : n ≤ 9223372036854775807) :
    Calls Tryz.prog 21 #[.int .i64 c, .int .i64 (n : Int)] w fun e w' => (∃ r : Nat, r < n ∧ e = .returned (.int .i64 (r : Int))) ∧ Below w.heap.size w w' := by
  go_enter Tryz.func21, Tryz.ntmps21
  by_cases h : c < 0
  · go_wp2
    go_ret
    obtain ⟨k, hk⟩ := Int.eq_ofNat_of_zero_le (show 0 ≤ -(c + 1) by omega)
    refine ⟨⟨k % n, Nat.mod_lt _ hn, ?_⟩, Below.refl _ _⟩
    show Ending.returned (.int .i64 (-((c + 1).tmod (n : Int)))) = _
    rw [← Int.neg_tmod, hk]
    rfl
  · go_wp2
    go_ret
    obtain ⟨k, rfl⟩ := Int.eq_ofNat_of_zero_le (show 0 ≤ c by omega)
    exact ⟨⟨k % n, Nat.mod_lt _ hn, rfl⟩, Below.refl _ _⟩
end Go.Proofs.YtnmfmoimjkoieaaGreatDoor.br

/- For Reread: bytes of a string, a string of bytes, what was read is written as it was. -/
namespace Go.Proofs.YtnmfmoimjkoieaaGreatDoor.br
open Go.RowKit Go.Proofs.YtnmfmoimjkoieaaGreatDoor.topPlain Go.Proofs.YtnmfmoimjkoieaaGreatDoor.topWalks Go.Proofs.YtnmfmoimjkoieaaGreatDoor.decPlain Go.Proofs.YtnmfmoimjkoieaaGreatDoor.rd Go.Proofs.YtnmfmoimjkoieaaGreatDoor.ew Go.Proofs.YtnmfmoimjkoieaaGreatDoor.encPlain Go.Proofs.YtnmfmoimjkoieaaGreatDoor.rf

theorem Gd.up {N : Nat} {ash aw : Addr} {w : World} (h : Gd N ash aw w) : Gd w.heap.size ash aw w := ⟨h.errs, h.env', Nat.lt_of_lt_of_le h.sh h.env.size, Nat.lt_of_lt_of_le h.wr h.env.size⟩
theorem len_str (s : ByteArray) : s.data.toList.length = s.size := by rw [Array.length_toList]; rfl
theorem enc_lists (q : Pkt) (a b : Value) (gs : List (List UInt8 × Int)) (ds : List Int) : encL (fwW { q with fv := a, cv := b }) (cbW { q with fv := a, cv := b }) { q with fv := a, cv := b } gs ds = encL (fwW q) (cbW q) q gs ds := by
  obtain ⟨kind, clean, will, keep, client, present, code, dup, qos, retain, topic, payload, id, fv, cv⟩ := q
  rfl
theorem re_enc {l : List UInt8} {q : Pkt} {gs : List (List UInt8 × Int)} {ds : List Int} {n : Nat} (h : decL l = .inr ((q, gs, ds), n)) (a b : Value) : encL (fwW { q with fv := a, cv := b }) (cbW { q with fv := a, cv := b }) { q with fv := a, cv := b } gs ds = some (l.take n) := by
  rw [enc_lists]
  exact enc_dec (q := (q, gs, ds)) (fwW q) (cbW q) (fun h => fw_same h) (fun h => cb_same h) h
theorem pre_same (s : ByteArray) (n : Nat) : ((bs (s.data.toList.take n)).toList == (s.extract 0 n).toList) = true := by
  rw [ByteArray.toList_eq, ByteArray.toList_eq, data_bs, ByteArray.data_extract, Array.toList_extract]
  simp
theorem conv_str (s : ByteArray) (w : World) : (convert 9 45 (.string s)).run Tryz.prog w = .ok (.slice (some ⟨w.heap.size, 0, none⟩) s.size (grownCap w s.size 0 5)) (Lib.bytesWorld w 5 s) := Lib.run_convert_string_bytes (P := Tryz.prog) w 9 45 5 s Tryz.underlying9 Tryz.underlying45 Tryz.underlying5
theorem below_str (s : ByteArray) (w : World) : Below w.heap.size w (Lib.bytesWorld w 5 s) := ⟨rfl, rfl, rfl, by rw [Lib.bytesWorld_size]; omega, fun k hk => Lib.bytesWorld_at_old w 5 s k hk⟩
theorem bytes_str (s : ByteArray) (w : World) (h : s.size ≤ maxLen) : BytesV (Lib.bytesWorld w 5 s).heap.size (Lib.bytesWorld w 5 s) (.slice (some ⟨w.heap.size, 0, none⟩) s.size (grownCap w s.size 0 5)) s.data.toList := by
  have hl := len_str s
  refine ⟨w.heap.size, 0, grownCap w s.size 0 5, by rw [hl], by rw [hl]; exact grownCap_ge _ _ _ _, grownCap_le_maxLen _ _ _ _ h, by rw [Lib.bytesWorld_size]; omega, fun j x hx => ?_⟩
  have hj : j < s.size := by rw [← hl]; exact (List.getElem?_eq_some_iff.1 hx).1
  have := Lib.bytesWorld_cell w 5 s j hj
  rw [List.getD_eq_getElem?_getD, hx] at this
  rw [Nat.zero_add]
  exact this
theorem conv_row {w : World} {C : Nat} {v : Value} {b : List UInt8} (h : w.ownsRow C 5 1 v b.length (u8s b)) : (convert 45 9 v).run Tryz.prog w = .ok (.string (bs b)) w := by
  rcases h.2 with ⟨rfl, h0⟩ | ⟨g, cap, cur, rfl, _⟩
  · have hb : b = [] := List.eq_nil_of_length_eq_zero h0
    subst hb
    exact run_convert_bytes_nil (P := Tryz.prog) w 45 5 Tryz.underlying45 Tryz.underlying5 0 0 9 Tryz.underlying9
  · obtain ⟨b', off, cap', e1, _, _, _, h5⟩ := bytesV_own h
    cases e1
    have := rd.conv_bytes (n := b.length) (cap := cap) (Nat.le_refl _) h5
    rw [List.take_length] at this
    exact this
theorem below_fin {w w' w3 : World} {s : ByteArray} (h : Below w.heap.size w w') (hB : Below (Lib.bytesWorld w' 5 s).heap.size (Lib.bytesWorld w' 5 s) w3) : Below w.heap.size w w3 :=
  h.trans (((below_str s w').mono h.size).trans (hB.mono (Nat.le_trans h.size (below_str s w').size)))
/-- Decode of a string's bytes -/
theorem dec_str {ash aw : Addr} {w : World} (s : ByteArray) (w' : World) (k : Nat) (hk : k = w'.heap.size) (hs : s.size ≤ 1048576) (hb : Below w.heap.size w w') (hG : Gd w.heap.size ash aw w) : Calls Tryz.prog 20 #[.slice (some ⟨k, 0, none⟩) s.size (grownCap w' s.size 0 5)] (Lib.bytesWorld w' 5 s) (CdPost (Lib.bytesWorld w' 5 s) (decL s.data.toList)) := by
  subst hk
  have hG' := hG.below (hb.trans ((below_str s w').mono hb.size))
  exact cDecode_any ash aw (Lib.bytesWorld w' 5 s) s.data.toList _ (by rw [len_str]; omega) (Or.inr (bytes_str s w' (by unfold maxLen; omega))) hG'.errs hG'.env'
/-- Decode of a row of one's own -/
theorem dec_own {N C : Nat} {ash aw : Addr} {w : World} {v : Value} {l : List UInt8} (h : w.ownsRow C 5 1 v l.length (u8s l)) (h0 : 0 < l.length) (hl : l.length ≤ 1099511627776) (hG : Gd N ash aw w) : Calls Tryz.prog 20 #[v] w (CdPost w (decL l)) := by
  obtain ⟨q, cap, rfl⟩ := own_form h
  obtain ⟨g, rfl, _⟩ := own_at h h0
  exact cDecode_any ash aw w l _ hl (Or.inr (bytesV_own h)) hG.errs hG.env'
/-- Decode of its beginning -/
theorem dec_part {N C : Nat} {ash aw : Addr} {w : World} {g cap r : Nat} {l : List UInt8} (h : w.ownsRow C 5 1 (.slice (some ⟨g, 0, none⟩) l.length cap) l.length (u8s l)) (hr : r ≤ l.length) (hl : l.length ≤ 1099511627776) (hG : Gd N ash aw w) : Calls Tryz.prog 20 #[.slice (some ⟨g, 0, none⟩) r cap] w (CdPost w (decL (l.take r))) := by
  obtain ⟨b, off, cap', e1, h1, h2, h3, h4⟩ := bytesV_own h
  cases e1
  have e : (l.take r).length = r := by rw [List.length_take]; omega
  refine cDecode_any ash aw w (l.take r) _ (by omega) (Or.inr ⟨g, 0, cap, by rw [e], by omega, h2, h3, fun j x hx => ?_⟩) hG.errs hG.env'
  have hj : j < r := by have := (List.getElem?_eq_some_iff.1 hx).1; omega
  rw [List.getElem?_take_of_lt hj] at hx
  exact h4 j x hx
end Go.Proofs.YtnmfmoimjkoieaaGreatDoor.br
