import Derived.Test.YtnmfmoimjkoieaaGreatDoorJ22
import Derived.Test.YtnmfmoimjkoieaaGreatDoorJ31
import Derived.Test.YtnmfmoimjkoieaaGreatDoorJ32
import Derived.Deep.QuietTactic
import Derived.BigQuiet
import Derived.Test.YtnmfmoimjkoieaaGreatDoorJ15
/- courantref.Same of any two packets: its lists, and all. -/
namespace Go.Proofs.YtnmfmoimjkoieaaGreatDoor.rfe
open Go.RowKit Go.Proofs.YtnmfmoimjkoieaaGreatDoor.topPlain Go.Proofs.YtnmfmoimjkoieaaGreatDoor.topWalks Go.Proofs.YtnmfmoimjkoieaaGreatDoor.decPlain Go.Proofs.YtnmfmoimjkoieaaGreatDoor.encPlain Go.Proofs.YtnmfmoimjkoieaaGreatDoor.ew
open Go.Proofs.YtnmfmoimjkoieaaGreatDoor.rd (pkCells)

theorem drewN_drewN (w : World) (a b : Nat) : (w.drewN a).drewN b = w.drewN (a + b) := by
  simp [World.drewN, Nat.add_assoc]
theorem bool_no {A : Bool} {P : Prop} (h : A = true ↔ P) (n : ¬ P) : A = false := by
  cases A
  · rfl
  · exact absurd (h.1 rfl) n
theorem two_blk (w : World) (o1 o2 : Obj) (n : Nat) : Below w.heap.size w (((w.alloc o1).alloc o2).drewN n) ∧ (((w.alloc o1).alloc o2).drewN n).heap[w.heap.size]? = some o1 ∧ (((w.alloc o1).alloc o2).drewN n).heap[w.heap.size + 1]? = some o2 := by
  refine ⟨below_drewN (((Below.refl _ _).alloc (Nat.le_refl _) o1).alloc (by simp) o2) n, ?_, ?_⟩
  · show ((w.alloc o1).alloc o2).heap[w.heap.size]? = some o1
    rw [Below.heap_alloc _ _ _ (by simp)]
    exact Go.Deep.blk_alloc_new _ _
  · show ((w.alloc o1).alloc o2).heap[w.heap.size + 1]? = some o2
    have := Go.Deep.blk_alloc_new (w.alloc o1) o2
    simpa using this

set_option maxHeartbeats 3200000 in
set_option maxRecDepth 100000 in
theorem dsame_aux (p q : Pkt) (fs gs : List (List UInt8 × Int)) (cs ds : List Int) (w : World) (h1 : FilX w p.fv fs) (h2 : FilX w q.fv gs) (h3 : IntX w p.cv cs) (h4 : IntX w q.cv ds) (A : Bool) (hA : A = true ↔ sameP p q ∧ fs = gs ∧ cs = ds) :
    Calls Tryz.prog 35 #[.agg (pkCells p), .agg (pkCells q)] w fun e w' => e = .returned (.bool A) ∧ Below w.heap.size w w' := by
  obtain ⟨kind, clean, will, keep, client, present, code, dup, qos, retain, topic, payload, id, fv, cv⟩ := p
  obtain ⟨kindx, cleanx, willx, keepx, clientx, presentx, codex, dupx, qosx, retainx, topicx, payloadx, idx, fvx, cvx⟩ := q
  simp only [pkCells, sameP] at h1 h2 h3 h4 hA ⊢
  obtain ⟨q1, k1, rfl, l1, h1⟩ := h1
  obtain ⟨q2, k2, rfl, l2, h2⟩ := h2
  obtain ⟨q3, k3, rfl, l3, h3⟩ := h3
  obtain ⟨q4, k4, rfl, l4, h4⟩ := h4
  unfold maxLen at l1 l2 l3 l4
  have H1 := hide h1
  have H2 := hide h2
  have H3 := hide h3
  have H4 := hide h4
  have HA := hide hA
  have HTB := hide fun n => two_blk w (.cells #[.int .i64 kind, .bool clean, .bool will, .int .i64 keep, .string (bs client), .bool present, .int .i64 code, .bool dup, .int .i64 qos, .bool retain, .string (bs topic), .string (bs payload), .int .i64 id, .slice q1 fs.length k1, .slice q3 cs.length k3] 36) (.cells #[.int .i64 kindx, .bool cleanx, .bool willx, .int .i64 keepx, .string (bs clientx), .bool presentx, .int .i64 codex, .bool dupx, .int .i64 qosx, .bool retainx, .string (bs topicx), .string (bs payloadx), .int .i64 idx, .slice q2 gs.length k2, .slice q4 ds.length k4] 36) n
  clear h1 h2 h3 h4 hA
  by_cases hl : fs.length = gs.length
  rotate_left
  · have hlb : ((fs.length : Int) == (gs.length : Int)) = false := beq_eq_false_iff_ne.2 (by omega)
    have hln : ((fs.length : Int) != (gs.length : Int)) = true := by unfold bne; rw [hlb]; rfl
    obtain rfl := bool_no HA.out (fun h => hl (by rw [h.2.1]))
    clear hl
    go_enter Tryz.func35, Tryz.ntmps35
    go_wp2
    go_ret
    exact ⟨rfl, (HTB.out 0).1⟩
  have hlb : ((fs.length : Int) == (gs.length : Int)) = true := by rw [hl]; simp
  have hln : ((fs.length : Int) != (gs.length : Int)) = false := by unfold bne; rw [hlb]; rfl
  by_cases hm : cs.length = ds.length
  rotate_left
  · have hmb : ((cs.length : Int) == (ds.length : Int)) = false := beq_eq_false_iff_ne.2 (by omega)
    have hmn : ((cs.length : Int) != (ds.length : Int)) = true := by unfold bne; rw [hmb]; rfl
    obtain rfl := bool_no HA.out (fun h => hm (by rw [h.2.2]))
    clear hl hm
    go_enter Tryz.func35, Tryz.ntmps35
    go_wp2
    go_ret
    exact ⟨rfl, (HTB.out 0).1⟩
  have hmb : ((cs.length : Int) == (ds.length : Int)) = true := by rw [hm]; simp
  have hmn : ((cs.length : Int) != (ds.length : Int)) = false := by unfold bne; rw [hmb]; rfl
  have HL := hide hl
  have HM := hide hm
  clear hl hm
  go_enter Tryz.func35, Tryz.ntmps35
  go_wp2_with fail
  go_loopw [5] (fun i wx => ∃ (k n : Nat), k ≤ fs.length ∧ i = .int .i64 k ∧ wx = ((w.alloc (.cells #[.int .i64 kind, .bool clean, .bool will, .int .i64 keep, .string (bs client), .bool present, .int .i64 code, .bool dup, .int .i64 qos, .bool retain, .string (bs topic), .string (bs payload), .int .i64 id, .slice q1 fs.length k1, .slice q3 cs.length k3] 36)).alloc (.cells #[.int .i64 kindx, .bool cleanx, .bool willx, .int .i64 keepx, .string (bs clientx), .bool presentx, .int .i64 codex, .bool dupx, .int .i64 qosx, .bool retainx, .string (bs topicx), .string (bs payloadx), .int .i64 idx, .slice q2 gs.length k2, .slice q4 ds.length k4] 36)).drewN n ∧ fs.take k = gs.take k) (fun i _ => fs.length - (intOf i).toNat)
  case atStart => exact ⟨0, 0, Nat.zero_le _, rfl, rfl, rfl⟩
  case round =>
    obtain ⟨k, n, hk, rfl, rfl, ht⟩ := hrel
    have HT := hide ht
    clear ht
    by_cases hlt : k < fs.length
    · have hlt2 : k < gs.length := by rw [← HL.out]; exact hlt
      obtain ⟨c, hc⟩ : ∃ c, fs[k]? = some c := ⟨_, List.getElem?_eq_getElem hlt⟩
      obtain ⟨d, hd⟩ : ∃ d, gs[k]? = some d := ⟨_, List.getElem?_eq_getElem hlt2⟩
      obtain ⟨g1, o1, rfl, hg1, m1, m1'⟩ := H1.out k c hc
      obtain ⟨g2, o2, rfl, hg2, m2, m2'⟩ := H2.out k d hd
      have HC := hide hc
      have HD := hide hd
      clear hc hd
      by_cases he1 : c.1 = d.1
      · rw [← he1] at m2
        by_cases he2 : c.2 = d.2
        · rw [← he2] at m2'
          have HE := hide (Prod.ext he1 he2)
          clear he1 he2
          go_wp2
          go_quiet (fail)
          go_wp2
          go_roundw
          case rel => exact ⟨k + 1, _, by omega, by go_num, rfl, take_eq_step HT.out HC.out (by rw [HD.out, HE.out])⟩
          case measure => simp [intOf]; omega
        · have hb : (c.2 == d.2) = false := beq_eq_false_iff_ne.2 he2
          have hb2 : (c.2 != d.2) = true := by unfold bne; rw [hb]; rfl
          obtain rfl := bool_no HA.out (fun h => ne_at HC.out HD.out (fun e => he2 (by rw [e])) h.2.1)
          clear he1 he2
          go_wp2
          go_quiet (fail)
          go_wp2
          go_ret
          exact ⟨rfl, below_drewN (HTB.out _).1 _⟩
      · have hb : ((bs c.1).toList == (bs d.1).toList) = false := bs_ne he1
        have hb2 : ((bs c.1).toList != (bs d.1).toList) = true := by unfold bne; rw [hb]; rfl
        obtain rfl := bool_no HA.out (fun h => ne_at HC.out HD.out (fun e => he1 (by rw [e])) h.2.1)
        clear he1
        go_wp2
        go_quiet (fail)
        go_wp2
        go_ret
        exact ⟨rfl, below_drewN (HTB.out _).1 _⟩
    · have HEQ := hide (take_eq_all HT.out (by omega) (by rw [← HL.out]; omega))
      go_wp2_with fail
      clear hlt hk HT
      rename_i aT
      have HTL := hide aT
      clear aT
      go_loopw [6] (fun i wx => ∃ (k n : Nat), k ≤ cs.length ∧ i = .int .i64 k ∧ wx = ((w.alloc (.cells #[.int .i64 kind, .bool clean, .bool will, .int .i64 keep, .string (bs client), .bool present, .int .i64 code, .bool dup, .int .i64 qos, .bool retain, .string (bs topic), .string (bs payload), .int .i64 id, .slice q1 fs.length k1, .slice q3 cs.length k3] 36)).alloc (.cells #[.int .i64 kindx, .bool cleanx, .bool willx, .int .i64 keepx, .string (bs clientx), .bool presentx, .int .i64 codex, .bool dupx, .int .i64 qosx, .bool retainx, .string (bs topicx), .string (bs payloadx), .int .i64 idx, .slice q2 gs.length k2, .slice q4 ds.length k4] 36)).drewN n ∧ cs.take k = ds.take k) (fun i _ => cs.length - (intOf i).toNat)
      case atStart => exact ⟨0, n, Nat.zero_le _, rfl, rfl, rfl⟩
      case round =>
        obtain ⟨k, n, hk, rfl, rfl, ht⟩ := hrel
        have HT := hide ht
        clear ht
        by_cases hlt : k < cs.length
        · have hlt2 : k < ds.length := by rw [← HM.out]; exact hlt
          obtain ⟨c, hc⟩ : ∃ c, cs[k]? = some c := ⟨_, List.getElem?_eq_getElem hlt⟩
          obtain ⟨d, hd⟩ : ∃ d, ds[k]? = some d := ⟨_, List.getElem?_eq_getElem hlt2⟩
          obtain ⟨g1, o1, rfl, hg1, m1⟩ := H3.out k c hc
          obtain ⟨g2, o2, rfl, hg2, m2⟩ := H4.out k d hd
          have HC := hide hc
          have HD := hide hd
          clear hc hd
          by_cases he2 : c = d
          · subst he2
            go_wp2
            go_quiet (fail)
            go_wp2
            go_roundw
            case rel => exact ⟨k + 1, _, by omega, by go_num, rfl, take_eq_step HT.out HC.out HD.out⟩
            case measure => simp [intOf]; omega
          · have hb : (c == d) = false := beq_eq_false_iff_ne.2 he2
            have hb2 : (c != d) = true := by unfold bne; rw [hb]; rfl
            obtain rfl := bool_no HA.out (fun h => ne_at HC.out HD.out he2 h.2.2)
            clear he2
            go_wp2
            go_quiet (fail)
            go_wp2
            go_ret
            exact ⟨rfl, below_drewN (HTB.out _).1 _⟩
        · have heq2 := take_eq_all HT.out (by omega) (by rw [← HM.out]; omega)
          have HEQ2 := hide heq2
          clear heq2
          go_wp2_with fail
          refine HTL.out _ _ ?_
          have HW := hide (HTB.out n)
          have heq2 := HEQ2.out
          by_cases e0 : kind = kindx
          rotate_left
          · obtain rfl := bool_no HA.out (fun h => e0 h.1.1)
            exact ds_kind  kind kindx (beq_eq_false_iff_ne.2 e0) clean cleanx will willx keep keepx client clientx present presentx code codex dup dupx qos qosx retain retainx topic topicx payload payloadx id idx _ _ _ _ w _ HW.out.1 HW.out.2.1 HW.out.2.2 _ _ _ _ _ _ _ _ _ _ _ _ _ _ _ _ _ _ _ _ _ _ _ _ _ _ _ _ _ _ _ _ _ _ _ _ _ _ _ _ _ _ _ _ _ _ _ _ _ _ _ _ _ _ _ _ _ _ _ _ _ _ _ _ _ _ _ _ _ _ _ _ _ _ _ _ _ _ _ _ _ _ _ _ _ _ _ _ _ _ _ _ _ _ _ _ _ _ _ _ _ _ _ _ _ _ _ _ _ _ _ _ _ _ _ _ _ _ _ _ _ _ _ _ _ _ _ _ _ _ _ _ _ _ _ _ _ _ _ _ _ _ _ _ _ _ _ _ _ _ _ _ _ _ _ _ _ _ _ _ _
          subst e0
          by_cases e1 : clean = cleanx
          rotate_left
          · obtain rfl := bool_no HA.out (fun h => e1 h.1.2.1)
            exact ds_clean kind clean cleanx (beq_eq_false_iff_ne.2 e1) will willx keep keepx client clientx present presentx code codex dup dupx qos qosx retain retainx topic topicx payload payloadx id idx _ _ _ _ w _ HW.out.1 HW.out.2.1 HW.out.2.2 _ _ _ _ _ _ _ _ _ _ _ _ _ _ _ _ _ _ _ _ _ _ _ _ _ _ _ _ _ _ _ _ _ _ _ _ _ _ _ _ _ _ _ _ _ _ _ _ _ _ _ _ _ _ _ _ _ _ _ _ _ _ _ _ _ _ _ _ _ _ _ _ _ _ _ _ _ _ _ _ _ _ _ _ _ _ _ _ _ _ _ _ _ _ _ _ _ _ _ _ _ _ _ _ _ _ _ _ _ _ _ _ _ _ _ _ _ _ _ _ _ _ _ _ _ _ _ _ _ _ _ _ _ _ _ _ _ _ _ _ _ _ _ _ _ _ _ _ _ _ _ _ _ _ _ _ _ _ _ _ _
          subst e1
          by_cases e2 : will = willx
          rotate_left
          · obtain rfl := bool_no HA.out (fun h => e2 h.1.2.2.1)
            exact ds_will kind clean will willx (beq_eq_false_iff_ne.2 e2) keep keepx client clientx present presentx code codex dup dupx qos qosx retain retainx topic topicx payload payloadx id idx _ _ _ _ w _ HW.out.1 HW.out.2.1 HW.out.2.2 _ _ _ _ _ _ _ _ _ _ _ _ _ _ _ _ _ _ _ _ _ _ _ _ _ _ _ _ _ _ _ _ _ _ _ _ _ _ _ _ _ _ _ _ _ _ _ _ _ _ _ _ _ _ _ _ _ _ _ _ _ _ _ _ _ _ _ _ _ _ _ _ _ _ _ _ _ _ _ _ _ _ _ _ _ _ _ _ _ _ _ _ _ _ _ _ _ _ _ _ _ _ _ _ _ _ _ _ _ _ _ _ _ _ _ _ _ _ _ _ _ _ _ _ _ _ _ _ _ _ _ _ _ _ _ _ _ _ _ _ _ _ _ _ _ _ _ _ _ _ _ _ _ _ _ _ _ _ _ _ _
          subst e2
          by_cases e3 : keep = keepx
          rotate_left
          · obtain rfl := bool_no HA.out (fun h => e3 h.1.2.2.2.1)
            exact ds_keep kind clean will keep keepx (beq_eq_false_iff_ne.2 e3) client clientx present presentx code codex dup dupx qos qosx retain retainx topic topicx payload payloadx id idx _ _ _ _ w _ HW.out.1 HW.out.2.1 HW.out.2.2 _ _ _ _ _ _ _ _ _ _ _ _ _ _ _ _ _ _ _ _ _ _ _ _ _ _ _ _ _ _ _ _ _ _ _ _ _ _ _ _ _ _ _ _ _ _ _ _ _ _ _ _ _ _ _ _ _ _ _ _ _ _ _ _ _ _ _ _ _ _ _ _ _ _ _ _ _ _ _ _ _ _ _ _ _ _ _ _ _ _ _ _ _ _ _ _ _ _ _ _ _ _ _ _ _ _ _ _ _ _ _ _ _ _ _ _ _ _ _ _ _ _ _ _ _ _ _ _ _ _ _ _ _ _ _ _ _ _ _ _ _ _ _ _ _ _ _ _ _ _ _ _ _ _ _ _ _ _ _ _ _
          subst e3
          by_cases e4 : client = clientx
          rotate_left
          · obtain rfl := bool_no HA.out (fun h => e4 h.1.2.2.2.2.1)
            exact ds_client kind clean will keep client clientx (bs_ne e4) present presentx code codex dup dupx qos qosx retain retainx topic topicx payload payloadx id idx _ _ _ _ w _ HW.out.1 HW.out.2.1 HW.out.2.2 _ _ _ _ _ _ _ _ _ _ _ _ _ _ _ _ _ _ _ _ _ _ _ _ _ _ _ _ _ _ _ _ _ _ _ _ _ _ _ _ _ _ _ _ _ _ _ _ _ _ _ _ _ _ _ _ _ _ _ _ _ _ _ _ _ _ _ _ _ _ _ _ _ _ _ _ _ _ _ _ _ _ _ _ _ _ _ _ _ _ _ _ _ _ _ _ _ _ _ _ _ _ _ _ _ _ _ _ _ _ _ _ _ _ _ _ _ _ _ _ _ _ _ _ _ _ _ _ _ _ _ _ _ _ _ _ _ _ _ _ _ _ _ _ _ _ _ _ _ _ _ _ _ _ _ _ _ _ _ _ _
          subst e4
          by_cases e5 : present = presentx
          rotate_left
          · obtain rfl := bool_no HA.out (fun h => e5 h.1.2.2.2.2.2.1)
            exact ds_present kind clean will keep client present presentx (beq_eq_false_iff_ne.2 e5) code codex dup dupx qos qosx retain retainx topic topicx payload payloadx id idx _ _ _ _ w _ HW.out.1 HW.out.2.1 HW.out.2.2 _ _ _ _ _ _ _ _ _ _ _ _ _ _ _ _ _ _ _ _ _ _ _ _ _ _ _ _ _ _ _ _ _ _ _ _ _ _ _ _ _ _ _ _ _ _ _ _ _ _ _ _ _ _ _ _ _ _ _ _ _ _ _ _ _ _ _ _ _ _ _ _ _ _ _ _ _ _ _ _ _ _ _ _ _ _ _ _ _ _ _ _ _ _ _ _ _ _ _ _ _ _ _ _ _ _ _ _ _ _ _ _ _ _ _ _ _ _ _ _ _ _ _ _ _ _ _ _ _ _ _ _ _ _ _ _ _ _ _ _ _ _ _ _ _ _ _ _ _ _ _ _ _ _ _ _ _ _ _ _ _
          subst e5
          by_cases e6 : code = codex
          rotate_left
          · obtain rfl := bool_no HA.out (fun h => e6 h.1.2.2.2.2.2.2.1)
            exact ds_code kind clean will keep client present code codex (beq_eq_false_iff_ne.2 e6) dup dupx qos qosx retain retainx topic topicx payload payloadx id idx _ _ _ _ w _ HW.out.1 HW.out.2.1 HW.out.2.2 _ _ _ _ _ _ _ _ _ _ _ _ _ _ _ _ _ _ _ _ _ _ _ _ _ _ _ _ _ _ _ _ _ _ _ _ _ _ _ _ _ _ _ _ _ _ _ _ _ _ _ _ _ _ _ _ _ _ _ _ _ _ _ _ _ _ _ _ _ _ _ _ _ _ _ _ _ _ _ _ _ _ _ _ _ _ _ _ _ _ _ _ _ _ _ _ _ _ _ _ _ _ _ _ _ _ _ _ _ _ _ _ _ _ _ _ _ _ _ _ _ _ _ _ _ _ _ _ _ _ _ _ _ _ _ _ _ _ _ _ _ _ _ _ _ _ _ _ _ _ _ _ _ _ _ _ _ _ _ _ _
          subst e6
          by_cases e7 : dup = dupx
          rotate_left
          · obtain rfl := bool_no HA.out (fun h => e7 h.1.2.2.2.2.2.2.2.1)
            exact ds_dup kind clean will keep client present code dup dupx (beq_eq_false_iff_ne.2 e7) qos qosx retain retainx topic topicx payload payloadx id idx _ _ _ _ w _ HW.out.1 HW.out.2.1 HW.out.2.2 _ _ _ _ _ _ _ _ _ _ _ _ _ _ _ _ _ _ _ _ _ _ _ _ _ _ _ _ _ _ _ _ _ _ _ _ _ _ _ _ _ _ _ _ _ _ _ _ _ _ _ _ _ _ _ _ _ _ _ _ _ _ _ _ _ _ _ _ _ _ _ _ _ _ _ _ _ _ _ _ _ _ _ _ _ _ _ _ _ _ _ _ _ _ _ _ _ _ _ _ _ _ _ _ _ _ _ _ _ _ _ _ _ _ _ _ _ _ _ _ _ _ _ _ _ _ _ _ _ _ _ _ _ _ _ _ _ _ _ _ _ _ _ _ _ _ _ _ _ _ _ _ _ _ _ _ _ _ _ _ _
          subst e7
          by_cases e8 : qos = qosx
          rotate_left
          · obtain rfl := bool_no HA.out (fun h => e8 h.1.2.2.2.2.2.2.2.2.1)
            exact ds_qos kind clean will keep client present code dup qos qosx (beq_eq_false_iff_ne.2 e8) retain retainx topic topicx payload payloadx id idx _ _ _ _ w _ HW.out.1 HW.out.2.1 HW.out.2.2 _ _ _ _ _ _ _ _ _ _ _ _ _ _ _ _ _ _ _ _ _ _ _ _ _ _ _ _ _ _ _ _ _ _ _ _ _ _ _ _ _ _ _ _ _ _ _ _ _ _ _ _ _ _ _ _ _ _ _ _ _ _ _ _ _ _ _ _ _ _ _ _ _ _ _ _ _ _ _ _ _ _ _ _ _ _ _ _ _ _ _ _ _ _ _ _ _ _ _ _ _ _ _ _ _ _ _ _ _ _ _ _ _ _ _ _ _ _ _ _ _ _ _ _ _ _ _ _ _ _ _ _ _ _ _ _ _ _ _ _ _ _ _ _ _ _ _ _ _ _ _ _ _ _ _ _ _ _ _ _ _
          subst e8
          by_cases e9 : retain = retainx
          rotate_left
          · obtain rfl := bool_no HA.out (fun h => e9 h.1.2.2.2.2.2.2.2.2.2.1)
            exact ds_retain kind clean will keep client present code dup qos retain retainx (beq_eq_false_iff_ne.2 e9) topic topicx payload payloadx id idx _ _ _ _ w _ HW.out.1 HW.out.2.1 HW.out.2.2 _ _ _ _ _ _ _ _ _ _ _ _ _ _ _ _ _ _ _ _ _ _ _ _ _ _ _ _ _ _ _ _ _ _ _ _ _ _ _ _ _ _ _ _ _ _ _ _ _ _ _ _ _ _ _ _ _ _ _ _ _ _ _ _ _ _ _ _ _ _ _ _ _ _ _ _ _ _ _ _ _ _ _ _ _ _ _ _ _ _ _ _ _ _ _ _ _ _ _ _ _ _ _ _ _ _ _ _ _ _ _ _ _ _ _ _ _ _ _ _ _ _ _ _ _ _ _ _ _ _ _ _ _ _ _ _ _ _ _ _ _ _ _ _ _ _ _ _ _ _ _ _ _ _ _ _ _ _ _ _ _
          subst e9
          by_cases e10 : topic = topicx
          rotate_left
          · obtain rfl := bool_no HA.out (fun h => e10 h.1.2.2.2.2.2.2.2.2.2.2.1)
            exact ds_topic kind clean will keep client present code dup qos retain topic topicx (bs_ne e10) payload payloadx id idx _ _ _ _ w _ HW.out.1 HW.out.2.1 HW.out.2.2 _ _ _ _ _ _ _ _ _ _ _ _ _ _ _ _ _ _ _ _ _ _ _ _ _ _ _ _ _ _ _ _ _ _ _ _ _ _ _ _ _ _ _ _ _ _ _ _ _ _ _ _ _ _ _ _ _ _ _ _ _ _ _ _ _ _ _ _ _ _ _ _ _ _ _ _ _ _ _ _ _ _ _ _ _ _ _ _ _ _ _ _ _ _ _ _ _ _ _ _ _ _ _ _ _ _ _ _ _ _ _ _ _ _ _ _ _ _ _ _ _ _ _ _ _ _ _ _ _ _ _ _ _ _ _ _ _ _ _ _ _ _ _ _ _ _ _ _ _ _ _ _ _ _ _ _ _ _ _ _ _
          subst e10
          by_cases e11 : payload = payloadx
          rotate_left
          · obtain rfl := bool_no HA.out (fun h => e11 h.1.2.2.2.2.2.2.2.2.2.2.2.1)
            exact ds_payload kind clean will keep client present code dup qos retain topic payload payloadx (bs_ne e11) id idx _ _ _ _ w _ HW.out.1 HW.out.2.1 HW.out.2.2 _ _ _ _ _ _ _ _ _ _ _ _ _ _ _ _ _ _ _ _ _ _ _ _ _ _ _ _ _ _ _ _ _ _ _ _ _ _ _ _ _ _ _ _ _ _ _ _ _ _ _ _ _ _ _ _ _ _ _ _ _ _ _ _ _ _ _ _ _ _ _ _ _ _ _ _ _ _ _ _ _ _ _ _ _ _ _ _ _ _ _ _ _ _ _ _ _ _ _ _ _ _ _ _ _ _ _ _ _ _ _ _ _ _ _ _ _ _ _ _ _ _ _ _ _ _ _ _ _ _ _ _ _ _ _ _ _ _ _ _ _ _ _ _ _ _ _ _ _ _ _ _ _ _ _ _ _ _ _ _ _
          subst e11
          by_cases e12 : id = idx
          rotate_left
          · obtain rfl := bool_no HA.out (fun h => e12 h.1.2.2.2.2.2.2.2.2.2.2.2.2)
            exact ds_id kind clean will keep client present code dup qos retain topic payload id idx (beq_eq_false_iff_ne.2 e12)  _ _ _ _ w _ HW.out.1 HW.out.2.1 HW.out.2.2 _ _ _ _ _ _ _ _ _ _ _ _ _ _ _ _ _ _ _ _ _ _ _ _ _ _ _ _ _ _ _ _ _ _ _ _ _ _ _ _ _ _ _ _ _ _ _ _ _ _ _ _ _ _ _ _ _ _ _ _ _ _ _ _ _ _ _ _ _ _ _ _ _ _ _ _ _ _ _ _ _ _ _ _ _ _ _ _ _ _ _ _ _ _ _ _ _ _ _ _ _ _ _ _ _ _ _ _ _ _ _ _ _ _ _ _ _ _ _ _ _ _ _ _ _ _ _ _ _ _ _ _ _ _ _ _ _ _ _ _ _ _ _ _ _ _ _ _ _ _ _ _ _ _ _ _ _ _ _ _ _
          subst e12
          obtain rfl := HA.out.2 ⟨⟨rfl, rfl, rfl, rfl, rfl, rfl, rfl, rfl, rfl, rfl, rfl, rfl, rfl⟩, HEQ.out, heq2⟩
          exact ds_all kind clean will keep client present code dup qos retain topic payload id _ _ _ _ w _ HW.out.1 HW.out.2.1 HW.out.2.2 _ _ _ _ _ _ _ _ _ _ _ _ _ _ _ _ _ _ _ _ _ _ _ _ _ _ _ _ _ _ _ _ _ _ _ _ _ _ _ _ _ _ _ _ _ _ _ _ _ _ _ _ _ _ _ _ _ _ _ _ _ _ _ _ _ _ _ _ _ _ _ _ _ _ _ _ _ _ _ _ _ _ _ _ _ _ _ _ _ _ _ _ _ _ _ _ _ _ _ _ _ _ _ _ _ _ _ _ _ _ _ _ _ _ _ _ _ _ _ _ _ _ _ _ _ _ _ _ _ _ _ _ _ _ _ _ _ _ _ _ _ _ _ _ _ _ _ _ _ _ _ _ _ _ _ _ _ _ _ _ _
theorem dsame_any (p q : Pkt) (fs gs : List (List UInt8 × Int)) (cs ds : List Int) (w : World) (h1 : FilX w p.fv fs) (h2 : FilX w q.fv gs) (h3 : IntX w p.cv cs) (h4 : IntX w q.cv ds) :
    Calls Tryz.prog 35 #[.agg (pkCells p), .agg (pkCells q)] w fun e w' => e = .returned (.bool (decide (sameP p q ∧ fs = gs ∧ cs = ds))) ∧ Below w.heap.size w w' :=
  dsame_aux p q fs gs cs ds w h1 h2 h3 h4 _ decide_eq_true_iff
end Go.Proofs.YtnmfmoimjkoieaaGreatDoor.rfe

/- What Decode leaves, in one form. -/
namespace Go.Proofs.YtnmfmoimjkoieaaGreatDoor.lw
open Go.RowKit Go.Proofs.YtnmfmoimjkoieaaGreatDoor.topPlain Go.Proofs.YtnmfmoimjkoieaaGreatDoor.topWalks Go.Proofs.YtnmfmoimjkoieaaGreatDoor.decPlain Go.Proofs.YtnmfmoimjkoieaaGreatDoor.rd

def outP (R : Bool ⊕ ((Pkt × List (List UInt8 × Int) × List Int) × Nat)) : Pkt := match R with | .inl _ => zeroP | .inr r => r.1.1
def outF (R : Bool ⊕ ((Pkt × List (List UInt8 × Int) × List Int) × Nat)) : List (List UInt8 × Int) := match R with | .inl _ => [] | .inr r => r.1.2.1
def outC (R : Bool ⊕ ((Pkt × List (List UInt8 × Int) × List Int) × Nat)) : List Int := match R with | .inl _ => [] | .inr r => r.1.2.2
def outN (R : Bool ⊕ ((Pkt × List (List UInt8 × Int) × List Int) × Nat)) : Int := match R with | .inl _ => 0 | .inr r => (r.2 : Int)
def outE (R : Bool ⊕ ((Pkt × List (List UInt8 × Int) × List Int) × Nat)) : Int := match R with | .inl s => if s then 3 else 2 | .inr _ => 0
theorem cd_flat {w w' : World} {e : Ending} {R : Bool ⊕ ((Pkt × List (List UInt8 × Int) × List Int) × Nat)} (h : CdPost w R e w') : Below w.heap.size w w' ∧ ∃ q1 k1 q2 k2, e = .returned (.tuple #[.agg (pkCells { outP R with fv := .slice q1 (outF R).length k1, cv := .slice q2 (outC R).length k2 }), .int .i64 (outN R), .int .i64 (outE R)]) ∧ w'.ownsRow w.heap.size 95 2 (.slice q1 (outF R).length k1) (outF R).length (filC (outF R)) ∧ w'.ownsRow w.heap.size 3 1 (.slice q2 (outC R).length k2) (outC R).length (ints (outC R)) := by
  obtain ⟨hb, h⟩ := h
  refine ⟨hb, ?_⟩
  cases R with
  | inl s => exact ⟨none, 0, none, 0, h, ⟨rfl, Or.inl ⟨rfl, rfl⟩⟩, ⟨rfl, Or.inl ⟨rfl, rfl⟩⟩⟩
  | inr r =>
    obtain ⟨fv, cv, he, h1, h2⟩ := h
    obtain ⟨q1, k1, e1, _⟩ := own_formP h1
    obtain ⟨q2, k2, e2, _⟩ := own_formP h2
    subst e1
    subst e2
    exact ⟨q1, k1, q2, k2, he, h1, h2⟩
theorem out_len (l : List UInt8) : (outF (decL l)).length ≤ l.length ∧ (outC (decL l)).length ≤ l.length := by
  cases h : decL l with
  | inl s => exact ⟨Nat.zero_le _, Nat.zero_le _⟩
  | inr r => exact decL_len l r h

/-- what Decode leaves, in one form -/
def Flat (P : Pkt) (fs : List (List UInt8 × Int)) (cs : List Int) (n er : Int) (w : World) (e : Ending) (w' : World) : Prop := Below w.heap.size w w' ∧ ∃ q1 k1 q2 k2, e = .returned (.tuple #[.agg (pkCells { P with fv := .slice q1 fs.length k1, cv := .slice q2 cs.length k2 }), .int .i64 n, .int .i64 er]) ∧ w'.ownsRow w.heap.size 95 2 (.slice q1 fs.length k1) fs.length (filC fs) ∧ w'.ownsRow w.heap.size 3 1 (.slice q2 cs.length k2) cs.length (ints cs)
end Go.Proofs.YtnmfmoimjkoieaaGreatDoor.lw
