import Derived.Test.YtnmfmoimjkoieaaGreatDoorJ17
import Derived.Test.YtnmfmoimjkoieaaGreatDoorJ19
/- courantlaw.keepBytes: bytes that came out are written over and grown, and stand in the caller's book. -/
namespace Go.Proofs.YtnmfmoimjkoieaaGreatDoor.lb
open Go.RowKit Go.Proofs.YtnmfmoimjkoieaaGreatDoor.topPlain Go.Proofs.YtnmfmoimjkoieaaGreatDoor.topWalks Go.Proofs.YtnmfmoimjkoieaaGreatDoor.decPlain Go.Proofs.YtnmfmoimjkoieaaGreatDoor.rd Go.Proofs.YtnmfmoimjkoieaaGreatDoor.lw

theorem rowIs_ownF {w : World} {C : Nat} {e : TypeId} {g n cap : Nat} {f F : Nat → Value} (h : w.rowIs g e cap f) (hC : C ≤ g) (hn : n ≤ cap) (hm : cap ≤ maxLen) (hf : ∀ j, j < n → f j = F j) : w.ownsRow C e 1 (.slice (some ⟨g, 0, none⟩) n cap) n (fillL F (n * 1)) := by
  obtain ⟨cur, hb, hs, hc⟩ := h
  refine ⟨by rw [fillL_length], Or.inr ⟨g, cap, cur, rfl, hC, hb, hn, hm, by omega, ?_⟩⟩
  apply List.ext_getElem?
  intro j
  by_cases hj : j < n
  · rw [List.getElem?_take_of_lt (by omega), fillL_get F (by omega), Array.getElem?_toList, hc j (by omega), hf j hj]
  · rw [List.getElem?_eq_none (by simp; omega), List.getElem?_eq_none (by rw [fillL_length]; omega)]
theorem cell_one_setB (w : World) (b o : Nat) (v x : Value) : ∀ j u, [x][j]? = some u → ((w.setCell ⟨b, o, none⟩ v).alloc (.cells #[x] 5)).cell? ((⟨w.heap.size, 0, none⟩ : Addr).add j) = some u := by
  have h := cell_one_new (w.setCell ⟨b, o, none⟩ v) x 5
  rw [show (w.setCell ⟨b, o, none⟩ v).heap.size = w.heap.size by simp [World.setCell]] at h
  exact h

set_option maxHeartbeats 1600000 in
set_option maxRecDepth 100000 in
theorem keepBytes_k (w : World) (bw C n : Nat) (sv : Value) (v : Nat → Value) (xs : Nat → List Value) (u : Value) (ys : List Value) (h : Book w bw sv v xs) (hv : w.ownsRow C 5 1 u n ys) (hbC : bw < C) (hfr : ∀ b, u.ownBlock = some b → Free7 bw v xs b) (hn : n ≤ 1000000000000) (h9 : (xs 1).length + 4 ≤ 4000000000000) (hCs : C ≤ w.heap.size) :
    Calls Tryz.prog 42 #[.pointer (some ⟨bw, 0, none⟩), u] w fun e w' => e = .returned (.tuple #[]) ∧ ∃ vc' u' L, Kk w w' bw C n 4 4 1 5 1 (fun j => .int .u8 (digitN (xs 1).length j : Int)) sv v vc' u u' (xs 1) L := by
  have H := hide h
  have cDg := hide fun (i : Nat) (w : World) (hi : i ≤ 4611686018427387904) => digit_any (xs 1).length i w (by omega) hi
  obtain ⟨c0, c1, c2, c3, c4, c5, c6, c7⟩ := h.cells
  obtain ⟨pc, kc, ec⟩ := own_form1 (h.own 1 ⟨by omega, by omega⟩)
  rw [ec] at c1
  have EC := hide ec
  obtain ⟨i0, hi, hz0, hz1, hz2⟩ := info_parts infoBytes
  obtain ⟨i1, hj, hy0, hy1, hy2⟩ := info_parts infoU8
  obtain ⟨pv, kv, rfl⟩ := own_form1 hv
  have HV := hide hv
  have HFR := hide hfr
  clear hfr h hv ec c0 c2 c3 c4 c5 c6 c7
  go_enter Tryz.func42, Tryz.ntmps42
  go_wp2_with fail
  go_loopw [5] (fun i wx => ∃ (k : Nat), k ≤ n ∧ i = .int .i64 k ∧ w.grownBy wx (Value.slice pv n kv).ownBlock ∧ (n = 0 ∧ wx = w ∨ ∃ g f, pv = some ⟨g, 0, none⟩ ∧ C ≤ g ∧ n ≤ kv ∧ kv ≤ maxLen ∧ wx.rowIs g 5 kv f ∧ ∀ j, j < k → f j = .int .u8 (digitN (xs 1).length j : Int))) (fun i _ => n - (intOf i).toNat)
  case atStart =>
    refine ⟨0, Nat.zero_le _, rfl, grown_refl _ _, ?_⟩
    cases pv with
    | none =>
      refine Or.inl ⟨?_, rfl⟩
      rcases HV.out.2 with ⟨h1, h2⟩ | ⟨g, cap, cur, h1, _⟩
      · exact h2
      · cases h1
    | some a =>
      obtain ⟨g, o, sp⟩ := a
      have ha : (⟨g, o, sp⟩ : Addr) = ⟨g, 0, none⟩ := by
        rcases HV.out.2 with ⟨h1, h2⟩ | ⟨g', cap, cur, h1, _⟩
        · cases h1
        · simp only [Value.slice.injEq, Option.some.injEq, Addr.mk.injEq] at h1
          obtain ⟨⟨rfl, rfl, rfl⟩, _⟩ := h1
          rfl
      rw [ha]
      have hv := HV.out
      rw [ha] at hv
      obtain ⟨h1, h2, h3, f, h4, _⟩ := own_rowIs hv
      exact Or.inr ⟨g, f, rfl, h1, h2, h3, h4, fun j hj => by omega⟩
  case round =>
    obtain ⟨k, hk, rfl, hg, hh⟩ := hrel
    by_cases hlt : k < n
    · rcases hh with ⟨h0, _⟩ | ⟨g, f, rfl, hCg, hnk, hkm, hrow, hf⟩
      · omega
      · have q1 := hrow.cell (i := k) (by omega)
        have f1 := hrow.frozen k
        have HR2 := hide (hrow.set k (.int .u8 (digitN (xs 1).length k : Int)))
        have HG := hide (grown_trans hg (grown_set wr g k (.int .u8 (digitN (xs 1).length k : Int))))
        have HF := hide hf
        have hdd := hide (cDg.out k · (by omega))
        clear hrow hg hf
        go_wp2_with fail
        refine (hdd.out _).mono ?_
        rintro e w9 ⟨rfl, rfl⟩
        go_wp2_with fail
        go_roundw
        case rel =>
          refine ⟨k + 1, by omega, by go_num, HG.out, Or.inr ⟨g, _, rfl, hCg, hnk, hkm, HR2.out, fun j hj => ?_⟩⟩
          show (if j = k then _ else f j) = _
          by_cases e : j = k
          · rw [if_pos e, e]
          · rw [if_neg e]; exact HF.out j (by omega)
        case measure => simp [intOf]; omega
    · have HG := hide hg
      have HH := hide hh
      clear hg hh
      have hK0 : Kk w wr bw C n 0 0 1 5 1 (fun j => .int .u8 (digitN (xs 1).length j : Int)) sv v (v 1) (.slice pv n kv) (.slice pv n kv) (xs 1) [] := by
        have hg := HG.out
        have hW := H.out
        have hne : ∀ b, (Value.slice pv n kv).ownBlock = some b → C ≤ b := fun b e => (HV.out.lt b e).1
        have hkeep : ∀ b, b < w.heap.size → b < C → wr.heap[b]? = w.heap[b]? := fun b hb hc => hg.block b hb (fun e => by have := hne b e.symm; omega)
        refine ⟨by rw [upd_self]; exact (hkeep bw hW.lt' (by omega)).trans hW.blk, ?_, ?_, rfl, ?_, fun b e => Or.inl e, fun b e => Or.inl e, fun u hm => by simp at hm, fun b hb _ h2 _ => hg.block b hb (fun e => h2 e.symm), fun u hm => by simp at hm, by omega, hg.size, hg.os, hg.tape, hg.output⟩
        · rw [List.append_nil]
          exact (hW.own 1 ⟨by omega, by omega⟩).kept hg (by
            cases hv : (v 1).ownBlock with
            | none => exact Or.inl rfl
            | some q => exact Or.inr (fun e => (HFR.out q e.symm).1.2 1 ⟨by omega, by omega⟩ hv))
        · rcases HH.out with ⟨h0, e⟩ | ⟨g, f, rfl, h1, h2, h3, h4, h5⟩
          · have hv := HV.out
            rw [e]
            subst h0
            refine ⟨rfl, ?_⟩
            rcases hv.2 with h | ⟨g, cap, cur, q1, q2, q3, q4, q5, q6, _⟩
            · exact Or.inl h
            · exact Or.inr ⟨g, cap, cur, q1, q2, q3, q4, q5, q6, by simp [fillL]⟩
          · exact rowIs_ownF h4 h1 h2 h3 (fun j hj => h5 j (by omega))
        · intro b e e2
          exact (HFR.out b e2).1.2 1 ⟨by omega, by omega⟩ e
      have HK0 := hide hK0
      clear hK0 HH HG c1
      have c1' : wr.cell? ⟨bw, 1, none⟩ = some (v 1) := by
        have := (wd_cells HK0.out.blk).2.1
        rw [upd_same] at this
        exact this
      have F1 := hide c1'
      clear c1'
      go_wp2_with fail
      go_loopw [1, 6] (fun l i wx => ∃ (k : Nat) (vc' u' : Value) (L : List Value), k ≤ 4 ∧ i = .int .i64 (k : Int) ∧ l = u' ∧ Kk w wx bw C n k k 1 5 1 (fun j => .int .u8 (digitN (xs 1).length j : Int)) sv v vc' (.slice pv n kv) u' (xs 1) L) (fun _ i _ => 4 - (intOf i).toNat)
      case atStart => exact ⟨0, _, _, [], by omega, rfl, rfl, HK0.out⟩
      case round =>
        obtain ⟨k, vc', v', L, hk, rfl, rfl, hK⟩ := hrel
        have HK := hide hK
        by_cases hlt4 : k < 4
        · obtain ⟨p1, m1, q1, rfl⟩ := rd.own_slice hK.ob
          obtain ⟨p2, m2, q2, rfl⟩ := rd.own_slice hK.ol
          have hm2 : m2 = n + k := by rcases hK.ol.2 with ⟨h1, h2⟩ | ⟨g, cap, cur, h1, _⟩ <;> cases h1 <;> omega
          have HM2 := hide hm2
          clear hm2
          have d1 := (wd_cells hK.blk).2.1
          rw [upd_same] at d1
          have hLn := hK.ln
          have hll : ((xs 1) ++ L).length ≤ 4000000000000 := by simp; omega
          have hbl : bw < wr.heap.size := (Array.getElem?_eq_some_iff.1 hK.blk).1
          have hCw : C ≤ wr.heap.size := by have := hK.size; omega
          have hvb : (Value.slice p1 m1 q1).ownBlock ≠ some bw := fun e => by have := (hK.ob.lt bw e).1; omega
          have HLL := hide hll
          have HVB := hide hvb
          clear hK hll hvb
          go_wp2_with (first
            | (at_builtin; refine wpList_append_keep _ rfl _ _ 24 rfl (bw + 1) 45 i0 (.slice none 0 0) 1 24 Tryz.underlying24 hi hz0 hz1 hz2 rfl (by decide) _ (xs 1 ++ L).length (xs 1 ++ L) rfl (HK.out.ob.alloc _) ⟨wr.heap.size, 0, none⟩ 1 1 (by decide) [.slice p2 m2 q2] rfl rfl (cell_one_new _ _ _) (fun u hu => by rw [List.mem_singleton.1 hu]; rfl) (by unfold maxLen; have := HLL.out; omega) (by have := HLL.out; omega) (by simp; omega) ?_))
          intro u1 w3 hown1 hgrow1 hat1
          have hK1 := HK.out.put ⟨by omega, by omega⟩ (by rw [List.append_assoc, List.length_append, hLn]; exact hown1) hgrow1 (hat1.imp (fun e => e) (fun e => ⟨by rw [e.1]; simp, e.2⟩))
          have hb3 : w3.heap[bw]? = _ := (hgrow1.block bw (by simp; omega) (fun e => HVB.out e.symm)).trans ((Below.heap_alloc _ _ _ hbl).trans HK.out.blk)
          have d1' := (wd_cells hb3).2.1
          rw [upd_same] at d1'
          have f1' : w3.frozen? ⟨bw, 1, none⟩ = false := by simp [World.frozen?, hb3]
          obtain ⟨g1, cap1, rfl⟩ := own_form hown1 (by omega)
          have HK1 := hide hK1
          have hs3 : wr.heap.size < w3.heap.size := Nat.lt_of_lt_of_le (by simp) hgrow1.size
          have hdd := hide fun w => cDg.out m2 w (by have := HM2.out; omega)
          clear hown1 hgrow1 hat1 hK1 hb3 d1
          go_wp2_with fail
          refine (hdd.out _).mono ?_
          rintro e w9 ⟨rfl, rfl⟩
          go_wp2_with (first
            | (at_builtin; refine wpList_append_keep _ rfl _ _ 45 rfl C 5 i1 (.int .u8 0) 1 1 Tryz.underlying45 hj hy0 hy1 hy2 rfl (by decide) _ (n + k) (fillL (fun j => .int .u8 (digitN (xs 1).length j : Int)) ((n + k) * 1)) rfl (HK1.out.ol.alloc _) ⟨w3.heap.size, 0, none⟩ 1 1 (by decide) [.int .u8 (digitN (xs 1).length m2 : Int)] rfl rfl (cell_one_setB _ _ _ _ _) (fun u hu => by rw [List.mem_singleton.1 hu]; rfl) (by unfold maxLen; omega) (by omega) (by simp; omega) ?_))
          intro u2 w5 hown2 hgrow2 hat2
          have HK2 := hide (HK1.out.more (news := [.int .u8 (digitN (xs 1).length m2 : Int)]) (by rw [HM2.out]; simp) (by rw [Nat.mul_one]; exact hown2) hgrow2 (hat2.imp (fun e => e) (fun e => ⟨by rw [e.1]; simp, e.2⟩)))
          obtain ⟨g2, cap2, rfl⟩ := own_form hown2 (by omega)
          clear hown2 hgrow2 hat2
          go_wp2
          go_roundw
          case rel => exact ⟨k + 1, _, _, _, by omega, by go_num, rfl, HK2.out⟩
          case measure => simp [intOf]; omega
        · have : k = 4 := by omega
          subst this
          clear hK
          go_wp2_with fail
          go_end0
          exact ⟨rfl, _, _, _, HK.out⟩

/-- keepBytes, as encodes needs it -/
theorem keepBytes_book (w : World) (bw C n : Nat) (sv : Value) (v : Nat → Value) (xs : Nat → List Value) (u : Value) (ys : List Value) (h : Book w bw sv v xs) (hv : w.ownsRow C 5 1 u n ys) (hbC : bw < C) (hfr : ∀ b, u.ownBlock = some b → Free7 bw v xs b) (hn : n ≤ 1000000000000) (h4 : (xs 1).length % 4 = 0) (h9 : (xs 1).length + 4 ≤ 4000000000000) (hCs : C ≤ w.heap.size) :
    Calls Tryz.prog 42 #[.pointer (some ⟨bw, 0, none⟩), u] w fun e w' => e = .returned (.tuple #[]) ∧ ∃ vc' L, L.length = 4 ∧ Book w' bw sv (upd v 1 vc') (upd xs 1 (xs 1 ++ L)) ∧ (∀ b, b < w.heap.size → Free7 bw v xs b → u.ownBlock ≠ some b → w'.heap[b]? = w.heap[b]? ∧ Free7 bw (upd v 1 vc') (upd xs 1 (xs 1 ++ L)) b) ∧ Below bw w w' :=
  (keepBytes_k w bw C n sv v xs u ys h hv hbC hfr hn h9 hCs).mono fun e w' ⟨he, vc', u', L, hK⟩ => ⟨he, vc', L, hK.ln, Kk.book h ⟨by omega, by omega⟩ hK rfl (fun i j h1 h2 => by
    show bytF i j = _
    unfold bytF
    rw [show i / 4 * 4 = (xs 1).length by omega]) hv hfr (by omega) h9⟩
end Go.Proofs.YtnmfmoimjkoieaaGreatDoor.lb
