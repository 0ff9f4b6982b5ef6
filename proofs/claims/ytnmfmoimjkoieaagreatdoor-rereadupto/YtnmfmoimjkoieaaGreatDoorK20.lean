import Derived.Test.YtnmfmoimjkoieaaGreatDoorK15
import Derived.Test.YtnmfmoimjkoieaaGreatDoorK16
import Derived.Test.YtnmfmoimjkoieaaGreatDoorK17
import Derived.Test.YtnmfmoimjkoieaaGreatDoorK18
import Derived.Test.YtnmfmoimjkoieaaGreatDoorK19
import Derived.Test.YtnmfmoimjkoieaaGreatDoorK07
/- packets.same of any two packets. -/
namespace Go.Proofs.YtnmfmoimjkoieaaGreatDoor.ew
open Go.RowKit Go.Proofs.YtnmfmoimjkoieaaGreatDoor.topPlain Go.Proofs.YtnmfmoimjkoieaaGreatDoor.topWalks Go.Proofs.YtnmfmoimjkoieaaGreatDoor.decPlain Go.Proofs.YtnmfmoimjkoieaaGreatDoor.encPlain
open Go.Proofs.YtnmfmoimjkoieaaGreatDoor.rf (FilV IntV)
open Go.Proofs.YtnmfmoimjkoieaaGreatDoor.rd (pkCells)

theorem filV_below {w w' : World} {v : Value} {fs : List (List UInt8 × Int)} (h : FilV w v fs) (hb : Below w.heap.size w w') : FilV w' v fs := by
  obtain ⟨q, cap, h1, h2, h3⟩ := h
  refine ⟨q, cap, h1, h2, fun j f hf => ?_⟩
  obtain ⟨g, e, hg, a, b⟩ := h3 j f hf
  exact ⟨g, e, Nat.lt_of_lt_of_le hg hb.size, by rw [hb.cell hg]; exact a, by rw [hb.cell hg]; exact b⟩
theorem intV_below {w w' : World} {v : Value} {cs : List Int} (h : IntV w v cs) (hb : Below w.heap.size w w') : IntV w' v cs := by
  obtain ⟨q, cap, h1, h2, h3⟩ := h
  refine ⟨q, cap, h1, h2, fun j f hf => ?_⟩
  obtain ⟨g, e, hg, a⟩ := h3 j f hf
  exact ⟨g, e, Nat.lt_of_lt_of_le hg hb.size, by rw [hb.cell hg]; exact a⟩

theorem filW_below {w w' : World} {v : Value} {fs : List (List UInt8 × Int)} (h : FilW w v fs) (hb : Below w.heap.size w w') : FilW w' v fs := by
  obtain ⟨q, cap, h1, h2, h3⟩ := h
  refine ⟨q, cap, h1, h2, fun j f hf => ?_⟩
  obtain ⟨g, o, e, hg, a, b⟩ := h3 j f hf
  exact ⟨g, o, e, Nat.lt_of_lt_of_le hg hb.size, by rw [hb.cell hg]; exact a, by rw [hb.cell hg]; exact b⟩
theorem intW_below {w w' : World} {v : Value} {cs : List Int} (h : IntW w v cs) (hb : Below w.heap.size w w') : IntW w' v cs := by
  obtain ⟨q, cap, h1, h2, h3⟩ := h
  refine ⟨q, cap, h1, h2, fun j f hf => ?_⟩
  obtain ⟨g, o, e, hg, a⟩ := h3 j f hf
  exact ⟨g, o, e, Nat.lt_of_lt_of_le hg hb.size, by rw [hb.cell hg]; exact a⟩

set_option maxHeartbeats 3200000 in
set_option maxRecDepth 100000 in
theorem ps_lists (kind : Int) (clean : Bool) (will : Bool) (keep : Int) (client : List UInt8) (present : Bool) (code : Int) (dup : Bool) (qos : Int) (retain : Bool) (topic : List UInt8) (payload : List UInt8) (id : Int) (fv cv fvx cvx : Value) (fs gs : List (List UInt8 × Int)) (cs ds : List Int) (w : World) (h1 : FilW w fv fs) (h2 : FilW w fvx gs) (h3 : IntW w cv cs) (h4 : IntW w cvx ds) :
    Calls Tryz.prog 83 #[.agg #[.int .i64 kind, .bool clean, .bool will, .int .i64 keep, .string (bs client), .bool present, .int .i64 code, .bool dup, .int .i64 qos, .bool retain, .string (bs topic), .string (bs payload), .int .i64 id, fv, cv], .agg #[.int .i64 kind, .bool clean, .bool will, .int .i64 keep, .string (bs client), .bool present, .int .i64 code, .bool dup, .int .i64 qos, .bool retain, .string (bs topic), .string (bs payload), .int .i64 id, fvx, cvx]] w fun e w' => e = .returned (.bool (decide (fs = gs) && decide (cs = ds))) ∧ Below w.heap.size w w' := by
  have HB : Hid (∀ o1 o2, Below w.heap.size w ((w.alloc o1).alloc o2)) := fun o1 o2 => ((Below.refl _ _).alloc (Nat.le_refl _) o1).alloc (by simp) o2
  have c1 := hide fun w' (hb : Below w.heap.size w w') => eqFil_any fs gs fv fvx w' (filW_below h1 hb) (filW_below h2 hb)
  have c2 := hide fun w' (hb : Below w.heap.size w w') => eqInt_any cs ds cv cvx w' (intW_below h3 hb) (intW_below h4 hb)
  obtain ⟨q1, k1, rfl, _⟩ := h1
  obtain ⟨q2, k2, rfl, _⟩ := h2
  obtain ⟨q3, k3, rfl, _⟩ := h3
  obtain ⟨q4, k4, rfl, _⟩ := h4
  generalize decide (fs = gs) = A at *
  generalize decide (cs = ds) = B at *
  go_enter Tryz.func83, Tryz.ntmps83
  go_wp2_with fail
  refine (c1.out _ (HB.out _ _)).mono ?_
  rintro e w1 ⟨rfl, m, rfl⟩
  cases A with
  | false =>
    go_wp2
    go_ret
    exact ⟨rfl, below_drewN (HB.out _ _) _⟩
  | true =>
    go_wp2_with fail
    refine (c2.out _ (below_drewN (HB.out _ _) _)).mono ?_
    rintro e w2 ⟨rfl, m2, rfl⟩
    go_wp2
    go_ret
    exact ⟨by simp, below_drewN (HB.out _ _) _⟩

theorem bool_no {A : Bool} {P : Prop} (h : A = true ↔ P) (n : ¬ P) : A = false := by
  cases A
  · rfl
  · exact absurd (h.1 rfl) n
theorem psame_aux (p q : Pkt) (fs gs : List (List UInt8 × Int)) (cs ds : List Int) (w : World) (h1 : FilW w p.fv fs) (h2 : FilW w q.fv gs) (h3 : IntW w p.cv cs) (h4 : IntW w q.cv ds) (A : Bool) (hA : A = true ↔ sameP p q ∧ fs = gs ∧ cs = ds) :
    Calls Tryz.prog 83 #[.agg (pkCells p), .agg (pkCells q)] w fun e w' => e = .returned (.bool A) ∧ Below w.heap.size w w' := by
  obtain ⟨kind, clean, will, keep, client, present, code, dup, qos, retain, topic, payload, id, fv, cv⟩ := p
  obtain ⟨kindx, cleanx, willx, keepx, clientx, presentx, codex, dupx, qosx, retainx, topicx, payloadx, idx, fvx, cvx⟩ := q
  simp only [pkCells, sameP] at h1 h2 h3 h4 hA ⊢
  by_cases e0 : kind = kindx
  rotate_left
  · rw [bool_no hA (fun h => e0 h.1.1)]
    exact ps_kind  kind kindx (beq_eq_false_iff_ne.2 e0) clean cleanx will willx keep keepx client clientx present presentx code codex dup dupx qos qosx retain retainx topic topicx payload payloadx id idx fv cv fvx cvx w
  subst e0
  by_cases e1 : clean = cleanx
  rotate_left
  · rw [bool_no hA (fun h => e1 h.1.2.1)]
    exact ps_clean kind clean cleanx (beq_eq_false_iff_ne.2 e1) will willx keep keepx client clientx present presentx code codex dup dupx qos qosx retain retainx topic topicx payload payloadx id idx fv cv fvx cvx w
  subst e1
  by_cases e2 : will = willx
  rotate_left
  · rw [bool_no hA (fun h => e2 h.1.2.2.1)]
    exact ps_will kind clean will willx (beq_eq_false_iff_ne.2 e2) keep keepx client clientx present presentx code codex dup dupx qos qosx retain retainx topic topicx payload payloadx id idx fv cv fvx cvx w
  subst e2
  by_cases e3 : keep = keepx
  rotate_left
  · rw [bool_no hA (fun h => e3 h.1.2.2.2.1)]
    exact ps_keep kind clean will keep keepx (beq_eq_false_iff_ne.2 e3) client clientx present presentx code codex dup dupx qos qosx retain retainx topic topicx payload payloadx id idx fv cv fvx cvx w
  subst e3
  by_cases e4 : client = clientx
  rotate_left
  · rw [bool_no hA (fun h => e4 h.1.2.2.2.2.1)]
    exact ps_client kind clean will keep client clientx (bs_ne e4) present presentx code codex dup dupx qos qosx retain retainx topic topicx payload payloadx id idx fv cv fvx cvx w
  subst e4
  by_cases e5 : present = presentx
  rotate_left
  · rw [bool_no hA (fun h => e5 h.1.2.2.2.2.2.1)]
    exact ps_present kind clean will keep client present presentx (beq_eq_false_iff_ne.2 e5) code codex dup dupx qos qosx retain retainx topic topicx payload payloadx id idx fv cv fvx cvx w
  subst e5
  by_cases e6 : code = codex
  rotate_left
  · rw [bool_no hA (fun h => e6 h.1.2.2.2.2.2.2.1)]
    exact ps_code kind clean will keep client present code codex (beq_eq_false_iff_ne.2 e6) dup dupx qos qosx retain retainx topic topicx payload payloadx id idx fv cv fvx cvx w
  subst e6
  by_cases e7 : dup = dupx
  rotate_left
  · rw [bool_no hA (fun h => e7 h.1.2.2.2.2.2.2.2.1)]
    exact ps_dup kind clean will keep client present code dup dupx (beq_eq_false_iff_ne.2 e7) qos qosx retain retainx topic topicx payload payloadx id idx fv cv fvx cvx w
  subst e7
  by_cases e8 : qos = qosx
  rotate_left
  · rw [bool_no hA (fun h => e8 h.1.2.2.2.2.2.2.2.2.1)]
    exact ps_qos kind clean will keep client present code dup qos qosx (beq_eq_false_iff_ne.2 e8) retain retainx topic topicx payload payloadx id idx fv cv fvx cvx w
  subst e8
  by_cases e9 : retain = retainx
  rotate_left
  · rw [bool_no hA (fun h => e9 h.1.2.2.2.2.2.2.2.2.2.1)]
    exact ps_retain kind clean will keep client present code dup qos retain retainx (beq_eq_false_iff_ne.2 e9) topic topicx payload payloadx id idx fv cv fvx cvx w
  subst e9
  by_cases e10 : topic = topicx
  rotate_left
  · rw [bool_no hA (fun h => e10 h.1.2.2.2.2.2.2.2.2.2.2.1)]
    exact ps_topic kind clean will keep client present code dup qos retain topic topicx (bs_ne e10) payload payloadx id idx fv cv fvx cvx w
  subst e10
  by_cases e11 : payload = payloadx
  rotate_left
  · rw [bool_no hA (fun h => e11 h.1.2.2.2.2.2.2.2.2.2.2.2.1)]
    exact ps_payload kind clean will keep client present code dup qos retain topic payload payloadx (bs_ne e11) id idx fv cv fvx cvx w
  subst e11
  by_cases e12 : id = idx
  rotate_left
  · rw [bool_no hA (fun h => e12 h.1.2.2.2.2.2.2.2.2.2.2.2.2)]
    exact ps_id kind clean will keep client present code dup qos retain topic payload id idx (beq_eq_false_iff_ne.2 e12)  fv cv fvx cvx w
  subst e12
  refine (ps_lists kind clean will keep client present code dup qos retain topic payload id fv cv fvx cvx fs gs cs ds w h1 h2 h3 h4).mono ?_
  rintro e w' ⟨rfl, hb⟩
  refine ⟨ret_bool ?_, hb⟩
  by_cases a : fs = gs
  · by_cases b : cs = ds
    · rw [decide_eq_true a, decide_eq_true b, hA.2 ⟨⟨rfl, rfl, rfl, rfl, rfl, rfl, rfl, rfl, rfl, rfl, rfl, rfl, rfl⟩, a, b⟩]; rfl
    · rw [decide_eq_true a, decide_eq_false b, bool_no hA (fun h => b h.2.2)]; rfl
  · rw [decide_eq_false a, bool_no hA (fun h => a h.2.1)]; rfl
theorem psame_any (p q : Pkt) (fs gs : List (List UInt8 × Int)) (cs ds : List Int) (w : World) (h1 : FilW w p.fv fs) (h2 : FilW w q.fv gs) (h3 : IntW w p.cv cs) (h4 : IntW w q.cv ds) :
    Calls Tryz.prog 83 #[.agg (pkCells p), .agg (pkCells q)] w fun e w' => e = .returned (.bool (decide (sameP p q ∧ fs = gs ∧ cs = ds))) ∧ Below w.heap.size w w' :=
  psame_aux p q fs gs cs ds w h1 h2 h3 h4 _ decide_eq_true_iff
end Go.Proofs.YtnmfmoimjkoieaaGreatDoor.ew

/- Tell: a message told to a session. -/
namespace Go.Proofs.YtnmfmoimjkoieaaGreatDoor.br
open Go.RowKit Go.Proofs.YtnmfmoimjkoieaaGreatDoor.topPlain Go.Proofs.YtnmfmoimjkoieaaGreatDoor.topWalks Go.Proofs.YtnmfmoimjkoieaaGreatDoor.decPlain

theorem Wrote.after {F : Nat → Prop} {w w1 w' : World} {B : Nat} {BV : BrV} {ov : Value} {L : List (OutS × Value)} {ms : List OutS} (hB : Below w.heap.size w w1) (h : Wrote F w1 B BV ov L ms w') : Wrote F w B BV ov L ms w' := by
  obtain ⟨ov', M, h1, h2, h3, h4, h5⟩ := h
  exact ⟨ov', M, h1, h2, (But.of_below hB).trans h3 (fun _ _ h => h), h4.imp id (fun ⟨b, e, hb⟩ => ⟨b, e, Nat.le_trans hB.size hb⟩), fun o ho b hb => Nat.le_trans hB.size (h5 o ho b hb)⟩
theorem Wrote.wide {F G : Nat → Prop} {w w' : World} {B : Nat} {BV : BrV} {ov : Value} {L : List (OutS × Value)} {ms : List OutS} (h : Wrote F w B BV ov L ms w') (hFG : ∀ b, F b → G b) : Wrote G w B BV ov L ms w' := by
  obtain ⟨ov', M, h1, h2, h3, h4, h5⟩ := h
  exact ⟨ov', M, h1, h2, h3.wide (fun _ _ h => h.imp (hFG _) id), h4, h5⟩
/-- what the session is, behind Tell -/
def tellS (on : Bool) (S : Ses) (m : Msg) : Ses := if m.qos = 0 then S else if on && decide ((S.under.length : Int) < S.window) then beginS S m else waitS S m
def tellId (S : Ses) (m : Msg) : Int := if m.qos = 0 then 0 else nextS S.last S.under
def tellO (n : Int) (snd : Option (Nat × Nat)) (S : Ses) (m : Msg) (d : List UInt8) : List OutS := if m.qos = 0 then outTo n snd [d] else if snd.isSome && decide ((S.under.length : Int) < S.window) then outTo n snd [d] else []
set_option maxHeartbeats 800000 in
set_option maxRecDepth 100000 in
theorem tell_any {N0 : Nat} (sb B cb : Nat) (n : Int) (m : Msg) (d : List UInt8) (V : SesV) (S : Ses) (BV : BrV) (ov : Value) (L : List (OutS × Value)) (w : World) (hE : EncOK N0 w (pktS m (tellId S m)) d) (hV : ∀ b, V.has sb b → N0 ≤ b) (hs : SesAt w sb V S) (h : BlkAt w B BV ov L) (hS : SinkO w B cb n V.snd) (hL : L.length < 1000000000000) (h0 : 0 ≤ S.last) (hl : S.under.length < 65000) :
    Calls Tryz.prog 145 #[.pointer (some ⟨sb, 0, none⟩), msgV m] w fun e w' => e = .returned (.tuple #[]) ∧ Wrote (V.has sb) w B BV ov L (tellO n V.snd S m d) w' ∧ ∃ uv', SesAt w' sb { V with uv := uv' } (tellS V.snd.isSome S m) ∧ (uv'.ownBlock = V.uv.ownBlock ∨ ∃ b, uv'.ownBlock = some b ∧ w.heap.size ≤ b) := by
  have H := hide h
  have HS := hide hs
  have HE := hide hE
  have HK := hide hS
  have hlt := blk_lt hs.blk
  have HB := hide fun o => (Below.refl w.heap.size w).alloc (Nat.le_refl _) o
  have cP := hide fun w => packet_any m 0 w
  have cM := hide fun w' (hb : Below w.heap.size w w') => mayGo_any sb V S w' (hs.below hb)
  clear hs h hE hS
  by_cases hq : m.qos = 0
  · have e1 : tellS V.snd.isSome S m = S := by simp [tellS, hq]
    have e2 : tellO n V.snd S m d = outTo n V.snd [d] := by simp [tellO, hq]
    have e3 : tellId S m = 0 := by simp [tellId, hq]
    rw [e1, e2]
    rw [e3] at HE
    clear e1 e2 e3
    rw [hq] at cP
    unfold msgV
    go_enter Tryz.func145, Tryz.ntmps145
    go_wp2_with fail
    refine (cP.out _).mono ?_
    rintro e w1 ⟨rfl, hB1⟩
    have hA := HB.out (.cells #[.string (bs m.topic), .string (bs m.payload), .int .i64 0, .bool m.retain] 206)
    have hBw : Below w.heap.size w w1 := hA.trans (hB1.mono hA.size)
    have HBW := hide hBw
    clear hA hB1 hBw
    go_wp2_with fail
    refine (swrite_any sb B cb n (pktS m 0) d V S BV ov L w1 (HE.out.below HBW.out) (HS.out.below HBW.out) (H.out.below HBW.out) (HK.out.below HBW.out) hL).mono ?_
    rintro e w2 ⟨rfl, hW⟩
    have HW := hide hW
    clear hW
    go_wp2_with fail
    have hb := HW.out
    obtain ⟨ov', M, h1, h2, h3, h4, h5⟩ := hb
    go_end0
    refine ⟨rfl, (HW.out.after HBW.out).wide (fun _ h => h.elim), V.uv, ?_, Or.inl rfl⟩
    exact (HS.out.below HBW.out).but h3 (fun b hb h => h.elim id ((HS.out.below HBW.out).apart (H.out.below HBW.out) hb))
  · have HQ := hide hq
    by_cases hg : (V.snd.isSome && decide ((S.under.length : Int) < S.window)) = true
    · have e1 : tellS V.snd.isSome S m = beginS S m := by unfold tellS; rw [if_neg hq, if_pos hg]
      have e2 : tellO n V.snd S m d = outTo n V.snd [d] := by unfold tellO; rw [if_neg hq, if_pos hg]
      have e3 : tellId S m = nextS S.last S.under := by unfold tellId; rw [if_neg hq]
      rw [e1, e2]
      rw [e3] at HE
      rw [hg] at cM
      clear e1 e2 e3 hg
      unfold msgV
      go_enter Tryz.func145, Tryz.ntmps145
      go_wp2_with fail
      refine (cM.out _ (HB.out _)).mono ?_
      rintro e w1 ⟨rfl, hB1⟩
      have hm1 : ∀ i x, #[Value.string (bs m.topic), .string (bs m.payload), .int .i64 m.qos, .bool m.retain][i]? = some x → w1.cell? ⟨w.heap.size, i, none⟩ = some x := fun i x hx => by rw [hB1.cell (by simp)]; exact cell_new _ _ _ hx
      have p0 := hm1 0 _ rfl
      have p1 := hm1 1 _ rfl
      have p2 := hm1 2 _ rfl
      have p3 := hm1 3 _ rfl
      have hA := HB.out (.cells #[.string (bs m.topic), .string (bs m.payload), .int .i64 m.qos, .bool m.retain] 206)
      have hBw : Below w.heap.size w w1 := hA.trans (hB1.mono hA.size)
      have HBW := hide hBw
      clear hA hB1 hBw hm1
      go_wp2_with fail
      refine (begin_any sb B cb n m d V S BV ov L w1 (HE.out.below HBW.out) hV (HS.out.below HBW.out) (H.out.below HBW.out) (HK.out.below HBW.out) hL h0 hl).mono ?_
      rintro e w2 ⟨rfl, hW, uv', hs', ho'⟩
      have HW := hide hW
      have HS' := hide hs'
      have HO' := hide ho'
      clear hW hs' ho'
      go_wp2_with fail
      go_end0
      exact ⟨rfl, HW.out.after HBW.out, uv', HS'.out, HO'.out.imp id (fun ⟨b, e, hb⟩ => ⟨b, e, Nat.le_trans HBW.out.size hb⟩)⟩
    · have e1 : tellS V.snd.isSome S m = waitS S m := by unfold tellS; rw [if_neg hq, if_neg hg]
      have e2 : tellO n V.snd S m d = [] := by unfold tellO; rw [if_neg hq, if_neg hg]
      have hg' : (V.snd.isSome && decide ((S.under.length : Int) < S.window)) = false := by simpa using hg
      rw [e1, e2]
      rw [hg'] at cM
      clear e1 e2 hg hg'
      unfold msgV
      go_enter Tryz.func145, Tryz.ntmps145
      go_wp2_with fail
      refine (cM.out _ (HB.out _)).mono ?_
      rintro e w1 ⟨rfl, hB1⟩
      have hm1 : ∀ i x, #[Value.string (bs m.topic), .string (bs m.payload), .int .i64 m.qos, .bool m.retain][i]? = some x → w1.cell? ⟨w.heap.size, i, none⟩ = some x := fun i x hx => by rw [hB1.cell (by simp)]; exact cell_new _ _ _ hx
      have p0 := hm1 0 _ rfl
      have p1 := hm1 1 _ rfl
      have p2 := hm1 2 _ rfl
      have p3 := hm1 3 _ rfl
      have hA := HB.out (.cells #[.string (bs m.topic), .string (bs m.payload), .int .i64 m.qos, .bool m.retain] 206)
      have hBw : Below w.heap.size w w1 := hA.trans (hB1.mono hA.size)
      have HBW := hide hBw
      clear hA hB1 hBw hm1
      go_wp2_with fail
      refine (wait_any sb V S m w1 (HS.out.below HBW.out)).mono ?_
      rintro e w2 ⟨rfl, hs', hb'⟩
      have HS' := hide hs'
      have HB' := hide hb'
      clear hs' hb'
      go_wp2_with fail
      have hc : ∀ b, V.has sb b → _ := (HS.out.below HBW.out).clear (H.out.below HBW.out)
      have hw : Wrote (V.has sb) w1 B BV ov L [] w2 := Wrote.none (H.out.below HBW.out) (HB'.out.wide (fun b _ e => e ▸ Or.inr (Or.inr (Or.inr (Or.inl rfl))))) hc
      go_end0
      exact ⟨rfl, hw.after HBW.out, V.uv, HS'.out, Or.inl rfl⟩
end Go.Proofs.YtnmfmoimjkoieaaGreatDoor.br
