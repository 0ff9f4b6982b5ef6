import Derived.Test.YtnmfmoimjkoieaaGreatDoorK02
import Derived.Test.YtnmfmoimjkoieaaGreatDoorJ15
import Derived.Test.YtnmfmoimjkoieaaGreatDoorK21
import Derived.Test.YtnmfmoimjkoieaaGreatDoorJ07
import Derived.Test.YtnmfmoimjkoieaaGreatDoorK09
import Derived.Test.YtnmfmoimjkoieaaGreatDoorK12
import Derived.Deep.RegionWith
import Derived.Deep.RegionLawGrows
import Derived.Deep.LoopGhost
/- The variables that packets.Encode and Decode look at, and what these come to for the broker. -/
namespace Go.Proofs.YtnmfmoimjkoieaaGreatDoor.br
open Go.RowKit Go.Proofs.YtnmfmoimjkoieaaGreatDoor.topPlain Go.Proofs.YtnmfmoimjkoieaaGreatDoor.topWalks Go.Proofs.YtnmfmoimjkoieaaGreatDoor.decPlain Go.Proofs.YtnmfmoimjkoieaaGreatDoor.rd Go.Proofs.YtnmfmoimjkoieaaGreatDoor.ew Go.Proofs.YtnmfmoimjkoieaaGreatDoor.encPlain Go.Proofs.YtnmfmoimjkoieaaGreatDoor.rf

theorem pkK_eq (p : Pkt) : pkK p = pkCells p := rfl
theorem u8k_eq (l : List UInt8) : u8k l = u8s l := rfl
/-- all of them lie below N -/
structure Gd (N : Nat) (ash aw : Addr) (w : World) : Prop where
  errs : Errs ash aw w
  env : Env aw N w
  sh : ash.block < N
  wr : aw.block < N
theorem Gd.below {N : Nat} {ash aw : Addr} {w w' : World} (h : Gd N ash aw w) (hb : Below N w w') : Gd N ash aw w' := by
  obtain ⟨⟨h1, h2, h3, ⟨c1, t1, h4⟩, c2, t2, h5⟩, he, hs, hw⟩ := h
  have hl := he.low
  refine ⟨⟨?_, ?_, h3, ⟨c1, t1, (hb.block _ hs).trans h4⟩, c2, t2, (hb.block _ hw).trans h5⟩, he.below hb, hs, hw⟩
  · rw [hb.cell (by have : 1 < 5 := by decide
                    simp only; omega)]; exact h1
  · rw [hb.cell (by have : 0 < 5 := by decide
                    simp only; omega)]; exact h2
theorem Gd.env' {N : Nat} {ash aw : Addr} {w : World} (h : Gd N ash aw w) : Env aw w.heap.size w := ⟨Nat.le_trans h.env.low h.env.size, Nat.le_refl _, h.env.err, h.env.inv⟩
/-- the bytes of a packet -/
def encD (p : Pkt) (fs : List (List UInt8 × Int)) (cs : List Int) : List UInt8 := (encL (fwW p) (cbW p) p fs cs).getD []
theorem enc_calls {N : Nat} {ash aw : Addr} {w : World} (h : Gd N ash aw w) (p : Pkt) (fs : List (List UInt8 × Int)) (cs : List Int) (hf : FilV w p.fv fs) (hc : IntV w p.cv cs) :
    Calls Tryz.prog 53 #[.agg (pkK p)] w fun e w'' => Below w.heap.size w w'' ∧ ∃ v x, e = .returned (.tuple #[v, x]) ∧ w''.ownsRow w.heap.size 5 1 v (encD p fs cs).length (u8k (encD p fs cs)) := by
  refine (pEncode_any ash aw p fs cs w hf hc h.errs h.env').mono ?_
  rintro e w' ⟨hb, hR⟩
  refine ⟨hb, ?_⟩
  unfold encD
  cases hr : encL (fwW p) (cbW p) p fs cs with
  | none => rw [hr] at hR; obtain ⟨v, n, rfl, _⟩ := hR; exact ⟨_, _, rfl, ⟨rfl, Or.inl ⟨rfl, rfl⟩⟩⟩
  | some b => rw [hr] at hR; obtain ⟨v, rfl, ho⟩ := hR; exact ⟨_, _, rfl, ho⟩
theorem filV_nil (w : World) : FilV w (.slice none 0 0) [] := ⟨none, 0, rfl, by simp, fun j f h => by simp at h⟩
theorem intV_nil (w : World) : IntV w (.slice none 0 0) [] := ⟨none, 0, rfl, by simp, fun j f h => by simp at h⟩
/-- a packet without lists -/
theorem Gd.enc {N : Nat} {ash aw : Addr} {w : World} (h : Gd N ash aw w) (p : Pkt) (hf : p.fv = .slice none 0 0) (hc : p.cv = .slice none 0 0) : EncOK N w p (encD p [] []) :=
  ⟨h.env.size, fun w' hb => enc_calls (h.below hb) p [] [] (by rw [hf]; exact filV_nil _) (by rw [hc]; exact intV_nil _)⟩
/-- a packet with codes, written at once -/
theorem Gd.encCodes {N : Nat} {ash aw : Addr} {w : World} (h : Gd N ash aw w) (p : Pkt) (cs : List Int) (hf : p.fv = .slice none 0 0) (hc : IntV w p.cv cs) : EncOK w.heap.size w p (encD p [] cs) :=
  ⟨Nat.le_refl _, fun w' hb => enc_calls (h.below (hb.mono h.env.size)) p [] cs (by rw [hf]; exact filV_nil _) (by
    obtain ⟨q, cap, h1, h2, h3⟩ := hc
    exact ⟨q, cap, h1, h2, fun j c hj => by obtain ⟨g, e1, e2, e3⟩ := h3 j c hj; exact ⟨g, e1, Nat.lt_of_lt_of_le e2 hb.size, by rw [hb.cell e2]; exact e3⟩⟩)⟩
set_option maxHeartbeats 400000 in
set_option maxRecDepth 100000 in
theorem is_nil (b : Addr) (w : World) : Calls Tryz.prog 84 #[.nilIface, .iface 331 (.pointer (some b))] w fun e w' => e = .returned (.bool false) ∧ Below w.heap.size w w' := by
  have hq : ∀ w : World, (binOp .eql 118 .nilIface (.iface 331 (.pointer (some b)))).run Tryz.prog w = .ok (.bool false) w := fun w => by kernel_rfl
  go_enter Tryz.func84, Tryz.ntmps84
  go_wp2
  go_ret
  exact ⟨rfl, Below.refl _ _⟩
end Go.Proofs.YtnmfmoimjkoieaaGreatDoor.br

/- bytes.Clone of no bytes. -/
namespace Go.Proofs.YtnmfmoimjkoieaaGreatDoor.br
open Go.RowKit Go.Proofs.YtnmfmoimjkoieaaGreatDoor.topPlain Go.Proofs.YtnmfmoimjkoieaaGreatDoor.topWalks

set_option maxHeartbeats 800000 in
set_option maxRecDepth 100000 in
theorem clone_none (a : Addr) (cap : Nat) (w : World) : Calls Tryz.prog 91 #[.slice (some a) 0 cap] w fun e w' => ∃ q, e = .returned (.slice q 0 0) ∧ Below w.heap.size w w' ∧ w'.ownsRow w.heap.size 5 1 (.slice q 0 0) 0 [] := by
  have hq : ∀ w : World, (binOp .eql 45 (.slice (some a) 0 cap) (.slice none 0 0)).run Tryz.prog w = .ok (.bool false) w := fun w => by kernel_rfl
  go_enter Tryz.func91, Tryz.ntmps91
  go_wp2_with fail
  go_ret
  exact ⟨_, rfl, (Below.refl _ _).alloc (Nat.le_refl _) _, rfl, Or.inr ⟨w.heap.size, 0, #[], rfl, Nat.le_refl _, heap_alloc_new _ _, Nat.le_refl _, by unfold maxLen; omega, rfl, rfl⟩⟩
end Go.Proofs.YtnmfmoimjkoieaaGreatDoor.br

/- courant.Encode: the bytes of a packet, or ErrPacket. -/
namespace Go.Proofs.YtnmfmoimjkoieaaGreatDoor.ew
open Go.RowKit Go.Proofs.YtnmfmoimjkoieaaGreatDoor.topPlain Go.Proofs.YtnmfmoimjkoieaaGreatDoor.topWalks Go.Proofs.YtnmfmoimjkoieaaGreatDoor.decPlain Go.Proofs.YtnmfmoimjkoieaaGreatDoor.encPlain Go.Proofs.YtnmfmoimjkoieaaGreatDoor.rd
open Go.Proofs.YtnmfmoimjkoieaaGreatDoor.rf (FilV IntV)

def CePost (w : World) (R : Option (List UInt8)) (e : Ending) (w' : World) : Prop :=
  Below w.heap.size w w' ∧ match R with
    | none => e = .returned (.tuple #[.slice none 0 0, .int .i64 2])
    | some b => ∃ v, e = .returned (.tuple #[v, .int .i64 0]) ∧ w'.ownsRow w.heap.size 5 1 v b.length (u8s b)

set_option maxHeartbeats 1600000 in
set_option maxRecDepth 100000 in
theorem cEncode_x (ash aw : Addr) (p : Pkt) (fs : List (List UInt8 × Int)) (cs : List Int) (w : World) (hf : FilW w p.fv fs) (hc : IntW w p.cv cs) (hE : Errs ash aw w) (hEnv : Env aw w.heap.size w) :
    Calls Tryz.prog 19 #[.agg (pkCells p)] w (CePost w (encL (fwW p) (cbW p) p fs cs)) := by
  have HE := hide hE
  have cE := hide fun o => pEncode_x ash aw p fs cs (w.alloc o) (filW_below hf ((Below.refl _ _).alloc (Nat.le_refl _) o)) (intW_below hc ((Below.refl _ _).alloc (Nat.le_refl _) o)) (hE.below ((Below.refl _ _).alloc (Nat.le_refl _) o)) (by
    have hn := hEnv.below ((Below.refl _ _).alloc (Nat.le_refl _) o)
    exact ⟨Nat.le_trans hn.low (by simp), Nat.le_refl _, hn.err, hn.inv⟩)
  clear hf hc hE hEnv
  generalize encL (fwW p) (cbW p) p fs cs = R at *
  obtain ⟨kind, clean, will, keep, client, present, code, dup, qos, retain, topic, payload, id, fv, cv⟩ := p
  simp only [pkCells] at cE ⊢
  go_enter Tryz.func19, Tryz.ntmps19
  go_wp2_with fail
  refine (cE.out _).mono ?_
  rintro e w1 ⟨hb1, h1⟩
  have HB1 : Hid (Below w.heap.size w w1) := ((Below.refl w.heap.size w).alloc (Nat.le_refl _) _).trans (hb1.mono (by simp))
  clear hb1 cE
  cases R with
  | none =>
    obtain ⟨v, n, rfl, hn⟩ := h1
    obtain ⟨wh, c2, rfl, hn2⟩ := hn
    have cN := hide (errno_wrong ash aw (n + 1) (.iface 171 (.agg #[.string wh, c2])) w1 (HE.out.below HB1.out) ⟨wh, c2, rfl, hn2⟩)
    clear hn2
    go_wp2_with (go_at_call 54; refine cN.out.mono ?_; rintro e w2 ⟨rfl, hb2⟩)
    have HB2 := hide (HB1.out.trans (hb2.mono HB1.out.size))
    go_ret2
    exact ⟨HB2.out, rfl⟩
  | some b =>
    obtain ⟨v, rfl, ho⟩ := h1
    have HO := hide ho
    obtain ⟨q, cap, rfl⟩ := own_slice ho
    clear ho
    have cN := hide (errno_nil w1)
    go_wp2_with (go_at_call 54; refine cN.out.mono ?_; rintro e w2 ⟨rfl, rfl⟩)
    go_ret2
    exact ⟨HB1.out, _, rfl, own_base HO.out (by simp)⟩
theorem cEncode_any (ash aw : Addr) (p : Pkt) (fs : List (List UInt8 × Int)) (cs : List Int) (w : World) (hf : FilV w p.fv fs) (hc : IntV w p.cv cs) (hE : Errs ash aw w) (hEnv : Env aw w.heap.size w) :
    Calls Tryz.prog 19 #[.agg (pkCells p)] w (CePost w (encL (fwW p) (cbW p) p fs cs)) := cEncode_x ash aw p fs cs w (filW_of hf) (intW_of hc) hE hEnv
end Go.Proofs.YtnmfmoimjkoieaaGreatDoor.ew

/- subscribe: one filter, which is taken. -/
namespace Go.Proofs.YtnmfmoimjkoieaaGreatDoor.br
open Go.RowKit Go.Proofs.YtnmfmoimjkoieaaGreatDoor.topPlain Go.Proofs.YtnmfmoimjkoieaaGreatDoor.topWalks Go.Proofs.YtnmfmoimjkoieaaGreatDoor.decPlain

theorem infoInt8 : (Tryz.prog.info? 3).map (fun i => (i.zero, i.size, i.bytes)) = some (some (.int .i64 0), 1, 8) := by kernel_rfl
/-- SUBACK -/
def subS (id : Int) (cv : Value) : Pkt := { zP with kind := 9, id := id, cv := cv }
set_option maxHeartbeats 1600000 in
set_option maxRecDepth 100000 in
theorem subscribe_one (B cb sb g kap : Nat) (f : List UInt8 × Int) (p : Pkt) (w : World) (Q1 Q2 : World → Prop) (R : Ending → World → Prop) (c1 : Option Addr) (c2 c3 : Nat) (hfv : p.fv = .slice (some ⟨g, 0, none⟩) 1 kap) (hcv : p.cv = .slice c1 c2 c3)
    (hc : w.cell? ⟨cb, 18, none⟩ = some (.pointer (some ⟨sb, 0, none⟩)))
    (hg0 : w.cell? ⟨g, 0, none⟩ = some (.string (bs f.1))) (hg1 : w.cell? ⟨g, 1, none⟩ = some (.int .i64 f.2))
    (hT : ∀ w', Below w.heap.size w w' → Calls Tryz.prog 214 #[.pointer (some ⟨sb, 0, none⟩), .agg #[.string (bs f.1), .int .i64 f.2]] w' fun e w'' => e = .returned (.bool true) ∧ Q1 w'' ∧ Keep w.heap.size w' w'')
    (hC1 : ∀ a, Q1 a → a.cell? ⟨cb, 18, none⟩ = some (.pointer (some ⟨sb, 0, none⟩))) (hC2 : ∀ a, Q2 a → a.cell? ⟨cb, 18, none⟩ = some (.pointer (some ⟨sb, 0, none⟩)))
    (hQ1 : ∀ a b, Q1 a → Below a.heap.size a b → Q1 b) (hQ2 : ∀ a b, Q2 a → Below a.heap.size a b → Q2 b)
    (hW : ∀ w' cv, Q1 w' → w'.ownsRow w.heap.size 3 1 cv 1 [.int .i64 f.2] → Calls Tryz.prog 131 #[.pointer (some ⟨B, 0, none⟩), .pointer (some ⟨cb, 0, none⟩), .agg (pkK (subS p.id cv))] w' fun e w'' => e = .returned (.tuple #[]) ∧ Q2 w'' ∧ Keep w.heap.size w' w'')
    (hR : ∀ w', Q2 w' → Calls Tryz.prog 215 #[.pointer (some ⟨B, 0, none⟩), .pointer (some ⟨sb, 0, none⟩), .agg #[.string (bs f.1), .int .i64 f.2]] w' fun e w'' => e = .returned (.tuple #[]) ∧ R e w'' ∧ Below w'.heap.size w' w'') :
    Calls Tryz.prog 167 #[.pointer (some ⟨B, 0, none⟩), .pointer (some ⟨cb, 0, none⟩), .agg (pkK p)] w R := by
  have HT := hide hT
  have HC1 := hide hC1
  have HC2 := hide hC2
  have HQ1 := hide hQ1
  have HQ2 := hide hQ2
  have HW := hide hW
  have HRR := hide hR
  have HB := hide fun o => (Below.refl w.heap.size w).alloc (Nat.le_refl _) o
  have hA := fun o => alloc_cell hc o
  have hA0 := fun o => alloc_cell hg0 o
  have hA1 := fun o => alloc_cell hg1 o
  have hlc := cell_blt hc
  simp only at hlc
  simp only [pkK, hfv, hcv, subS, zP] at HW ⊢
  clear hT hC1 hC2 hQ1 hQ2 hW hR hfv hcv
  go_enter Tryz.func167, Tryz.ntmps167
  go_wp2_with fail
  have hBA := HB.out (.cells #[.int .i64 p.kind, .bool p.clean, .bool p.will, .int .i64 p.keep, .string (bs p.client), .bool p.present, .int .i64 p.code, .bool p.dup, .int .i64 p.qos, .bool p.retain, .string (bs p.topic), .string (bs p.payload), .int .i64 p.id, .slice (some ⟨g, 0, none⟩) 1 kap, .slice c1 c2 c3] 36)
  have hnew := heap_alloc_new w (.cells #[.int .i64 p.kind, .bool p.clean, .bool p.will, .int .i64 p.keep, .string (bs p.client), .bool p.present, .int .i64 p.code, .bool p.dup, .int .i64 p.qos, .bool p.retain, .string (bs p.topic), .string (bs p.payload), .int .i64 p.id, .slice (some ⟨g, 0, none⟩) 1 kap, .slice c1 c2 c3] 36)
  have a18 := hA (.cells #[.int .i64 p.kind, .bool p.clean, .bool p.will, .int .i64 p.keep, .string (bs p.client), .bool p.present, .int .i64 p.code, .bool p.dup, .int .i64 p.qos, .bool p.retain, .string (bs p.topic), .string (bs p.payload), .int .i64 p.id, .slice (some ⟨g, 0, none⟩) 1 kap, .slice c1 c2 c3] 36)
  have a0 := hA0 (.cells #[.int .i64 p.kind, .bool p.clean, .bool p.will, .int .i64 p.keep, .string (bs p.client), .bool p.present, .int .i64 p.code, .bool p.dup, .int .i64 p.qos, .bool p.retain, .string (bs p.topic), .string (bs p.payload), .int .i64 p.id, .slice (some ⟨g, 0, none⟩) 1 kap, .slice c1 c2 c3] 36)
  have a1 := hA1 (.cells #[.int .i64 p.kind, .bool p.clean, .bool p.will, .int .i64 p.keep, .string (bs p.client), .bool p.present, .int .i64 p.code, .bool p.dup, .int .i64 p.qos, .bool p.retain, .string (bs p.topic), .string (bs p.payload), .int .i64 p.id, .slice (some ⟨g, 0, none⟩) 1 kap, .slice c1 c2 c3] 36)
  clear hA hA0 hA1 HB hg0 hg1
  generalize w.alloc (.cells #[.int .i64 p.kind, .bool p.clean, .bool p.will, .int .i64 p.keep, .string (bs p.client), .bool p.present, .int .i64 p.code, .bool p.dup, .int .i64 p.qos, .bool p.retain, .string (bs p.topic), .string (bs p.payload), .int .i64 p.id, .slice (some ⟨g, 0, none⟩) 1 kap, .slice c1 c2 c3] 36) = W0 at *
  have h12 : W0.cell? ⟨w.heap.size, 12, none⟩ = some (.int .i64 p.id) := blk_cell hnew rfl
  have hl0 := blk_lt hnew
  have HN := hide hnew
  have HBA := hide hBA
  have H12 := hide h12
  clear hnew hBA h12
  obtain ⟨i0, hi0, hz0, hz1, hz2⟩ := info_parts infoFil
  obtain ⟨j0, hj0, hy0, hy1, hy2⟩ := info_parts infoInt8
  go_loopw [6, 7, 15] (fun tv cv i wx => (i = .int .i64 0 ∧ tv = .slice none 0 0 ∧ cv = .slice none 0 0 ∧ wx = W0) ∨ (i = .int .i64 1 ∧ Q1 wx ∧ Keep w.heap.size W0 wx ∧ wx.ownsRow w.heap.size 95 2 tv 1 [.string (bs f.1), .int .i64 f.2] ∧ wx.ownsRow w.heap.size 3 1 cv 1 [.int .i64 f.2])) (fun _ _ i _ => 1 - (intOf i).toNat)
  case atStart => exact Or.inl ⟨rfl, rfl, rfl, rfl⟩
  case round =>
    rcases hrel with ⟨rfl, rfl, rfl, rfl⟩ | ⟨rfl, hq1, hkp, ht, hcd⟩
    · go_wp2_with fail
      have hB1 := (Below.refl wr.heap.size wr).alloc (Nat.le_refl _) (.cells #[.string (bs f.1), .int .i64 f.2] 95)
      have hn1 := heap_alloc_new wr (.cells #[.string (bs f.1), .int .i64 f.2] 95)
      generalize wr.alloc (.cells #[.string (bs f.1), .int .i64 f.2] 95) = W1 at *
      have f0 : W1.cell? ⟨wr.heap.size, 0, none⟩ = some (.string (bs f.1)) := blk_cell hn1 rfl
      have f1 : W1.cell? ⟨wr.heap.size, 1, none⟩ = some (.int .i64 f.2) := blk_cell hn1 rfl
      have f18 : W1.cell? ⟨cb, 18, none⟩ = some (.pointer (some ⟨sb, 0, none⟩)) := by rw [hB1.cell (cell_blt a18)]; exact a18
      have hlw := blk_lt hn1
      have hs0 := hB1.size
      have HB1 := hide hB1
      have HN1 := hide hn1
      clear hB1 hn1 a18 a0 a1
      go_region_held3 (fun w' => w'.cell? ⟨cb, 18, none⟩ = some (.pointer (some ⟨sb, 0, none⟩)) ∧ w'.cell? ⟨wr.heap.size, 0, none⟩ = some (.string (bs f.1)) ∧ w'.cell? ⟨wr.heap.size, 1, none⟩ = some (.int .i64 f.2))
       (go_keep)
       (first
        | (go_at_call 214
           refine (HT.out _ (HBA.out.trans (HB1.out.mono HBA.out.size)).drew).mono ?_
           rintro e w1 ⟨rfl, hq1, hk1⟩
           have hn2 : w1.heap[wr.heap.size]? = some (.cells #[.string (bs f.1), .int .i64 f.2] 95) := (hk1.2 _ (by omega) (by exact hlw)).trans HN1.out
           have k18 := HC1.out _ hq1
           have k0 : w1.cell? ⟨wr.heap.size, 0, none⟩ = some (.string (bs f.1)) := blk_cell hn2 rfl
           have k1 : w1.cell? ⟨wr.heap.size, 1, none⟩ = some (.int .i64 f.2) := blk_cell hn2 rfl
           have HQA := hide hq1
           have HKA := hide hk1
           have hl2 := blk_lt hn2
           have hs1 : W1.heap.size ≤ w1.heap.size := hk1.1
           clear hq1 hk1 hn2))
      all_goals
        go_wp2_with (first
          | (at_builtin; refine wpList_append_own_at _ rfl _ _ 33 rfl w.heap.size 95 i0 (.agg #[.string ByteArray.empty, .int .i64 0]) 2 24 Tryz.underlying33 hi0 hz0 hz1 hz2 rfl (by decide) (.slice none 0 0) 0 [] rfl ⟨rfl, Or.inl ⟨rfl, rfl⟩⟩ ⟨w1.heap.size, 0, none⟩ 1 1 [.string (bs f.1), .int .i64 f.2] rfl rfl (news_new _ _ _) ?c2 ?c3 ?c4 ?c5 ?_))
      case c2 => intro u hu; simp at hu; rcases hu with rfl | rfl <;> rfl
      case c3 => unfold maxLen; omega
      case c4 => omega
      case c5 => have := HBA.out.size; simp; omega
      intro v2 w2 hown2 hgrow2 _ _
      have hA2 := (Below.refl w1.heap.size w1).alloc (Nat.le_refl _) (.cells #[.string (bs f.1), .int .i64 f.2] 95)
      have hB2 : Below w1.heap.size w1 w2 := hA2.trans ((But.of_grown (F := fun _ => False) hgrow2 (fun b hb => by cases hb)).below'.mono hA2.size)
      have k1' : w2.cell? ⟨wr.heap.size, 1, none⟩ = some (.int .i64 f.2) := by rw [hB2.cell hl2]; exact k1
      have hs2 := hB2.size
      have HB2 := hide hB2
      have HO2 := hide hown2
      clear hown2 hgrow2 hA2 hB2 k0 k1 k18
      go_wp2_with (first
          | (at_builtin; refine wpList_append_own_at _ rfl _ _ 34 rfl w.heap.size 3 j0 (.int .i64 0) 1 8 Tryz.underlying34 hj0 hy0 hy1 hy2 rfl (by decide) (.slice none 0 0) 0 [] rfl ⟨rfl, Or.inl ⟨rfl, rfl⟩⟩ ⟨w2.heap.size, 0, none⟩ 1 1 [.int .i64 f.2] rfl rfl (cell_one_new _ _ _) ?d2 ?d3 ?d4 ?d5 ?_))
      case d2 => intro u hu; simp at hu; subst hu; rfl
      case d3 => unfold maxLen; omega
      case d4 => omega
      case d5 => have := HBA.out.size; simp; omega
      intro v3 w3 hown3 hgrow3 _ _
      have hA3 := (Below.refl w2.heap.size w2).alloc (Nat.le_refl _) (.cells #[.int .i64 f.2] 3)
      have hB3 : Below w2.heap.size w2 w3 := hA3.trans ((But.of_grown (F := fun _ => False) hgrow3 (fun b hb => by cases hb)).below'.mono hA3.size)
      have HB3 := hide hB3
      have HO3 := hide hown3
      clear hown3 hgrow3 hA3 hB3 k1'
      go_wp2_with fail
      have hQ3 := HQ1.out _ _ (HQ1.out _ _ HQA.out HB2.out) HB3.out
      have hK1 : Keep w.heap.size wr w1 := (Keep.of_below HB1.out.drew).trans HKA.out
      have hK3 : Keep w.heap.size wr w3 := (hK1.trans (Keep.of_below HB2.out)).trans (Keep.of_below HB3.out)
      exact ⟨Or.inr ⟨rfl, hQ3, hK3, own_keep HO2.out (fun b hb => by obtain ⟨cur, hc⟩ := own_blk HO2.out hb; exact HB3.out.block b (blk_lt hc)), HO3.out⟩, by simp [intOf]⟩
    · have HQA := hide hq1
      have HKA := hide hkp
      have HTA := hide ht
      have HCA := hide hcd
      obtain ⟨q3, c3, rfl⟩ := own_form ht
      obtain ⟨q4, c4, rfl⟩ := own_form hcd
      have e12 : wr.cell? ⟨w.heap.size, 12, none⟩ = some (.int .i64 p.id) := by rw [World.cell?_of_block (w := W0) (hkp.2 _ (Nat.le_refl _) hl0)]; exact H12.out
      clear hq1 hkp ht hcd
      go_wp2_with fail
      refine (HW.out _ (.slice q4 1 c4) HQA.out HCA.out).mono ?_
      rintro e w4 ⟨rfl, hq2, hk4⟩
      obtain ⟨g3, hq3, hg3, hkc3, hcm3, hcell3⟩ := own_at HTA.out (by omega)
      have hge3 := own_from HTA.out hq3
      subst hq3
      unfold maxLen at hcm3
      have t0 : w4.cell? ⟨g3, 0, none⟩ = some (.string (bs f.1)) := by rw [World.cell?_of_block (w := wr) (hk4.2 g3 hge3 hg3)]; exact hcell3 0 _ rfl
      have t1 : w4.cell? ⟨g3, 1, none⟩ = some (.int .i64 f.2) := by rw [World.cell?_of_block (w := wr) (hk4.2 g3 hge3 hg3)]; exact hcell3 1 _ rfl
      have HQB := hide hq2
      clear hq2 hk4 hcell3 e12
      go_wp2_with fail
      go_loopw [47] (fun i wx => (i = .int .i64 0 ∧ wx = w4) ∨ (i = .int .i64 1 ∧ R (.returned (.tuple #[])) wx)) (fun i _ => 1 - (intOf i).toNat)
      case atStart => exact Or.inl ⟨rfl, rfl⟩
      case round =>
        rcases hrel with ⟨rfl, rfl⟩ | ⟨rfl, hRf⟩
        · go_wp2_with fail
          have hB5 := (Below.refl wr.heap.size wr).alloc (Nat.le_refl _) (.cells #[.string (bs f.1), .int .i64 f.2] 95)
          have hn5 := heap_alloc_new wr (.cells #[.string (bs f.1), .int .i64 f.2] 95)
          have HQ5 := hide (HQ2.out _ _ HQB.out hB5.drew)
          have f18 := HC2.out _ (HQ2.out _ _ HQB.out hB5)
          generalize wr.alloc (.cells #[.string (bs f.1), .int .i64 f.2] 95) = W5 at *
          have f0 : W5.cell? ⟨wr.heap.size, 0, none⟩ = some (.string (bs f.1)) := blk_cell hn5 rfl
          have f1 : W5.cell? ⟨wr.heap.size, 1, none⟩ = some (.int .i64 f.2) := blk_cell hn5 rfl
          have hl5 := blk_lt hn5
          have hl6 := cell_blt f18
          simp only at hl6
          clear hB5 hn5 t0 t1
          go_region_held3 (fun w' => w'.cell? ⟨cb, 18, none⟩ = some (.pointer (some ⟨sb, 0, none⟩)) ∧ w'.cell? ⟨wr.heap.size, 0, none⟩ = some (.string (bs f.1)) ∧ w'.cell? ⟨wr.heap.size, 1, none⟩ = some (.int .i64 f.2))
           (go_keep)
           (first
            | (go_at_call 215
               refine (HRR.out _ HQ5.out).mono ?_
               rintro e w5 ⟨rfl, hR5, hB6⟩
               have k18 : w5.cell? ⟨cb, 18, none⟩ = some (.pointer (some ⟨sb, 0, none⟩)) := by rw [hB6.cell (by exact hl6)]; exact f18
               have k0 : w5.cell? ⟨wr.heap.size, 0, none⟩ = some (.string (bs f.1)) := by rw [hB6.cell (by exact hl5)]; exact f0
               have k1 : w5.cell? ⟨wr.heap.size, 1, none⟩ = some (.int .i64 f.2) := by rw [hB6.cell (by exact hl5)]; exact f1
               have HR5 := hide hR5
               clear hR5 hB6))
          all_goals
            go_wp2_with fail
          exact ⟨Or.inr ⟨rfl, HR5.out⟩, by simp [intOf]⟩
        · have HRF := hide hRf
          clear hRf
          go_wp2
          go_end0
          exact HRF.out
end Go.Proofs.YtnmfmoimjkoieaaGreatDoor.br
