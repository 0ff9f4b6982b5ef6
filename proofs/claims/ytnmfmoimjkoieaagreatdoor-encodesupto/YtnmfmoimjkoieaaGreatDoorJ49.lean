import Derived.Test.YtnmfmoimjkoieaaGreatDoorJ48
/- courantlaw.Encodes. -/
namespace Go.Proofs.YtnmfmoimjkoieaaGreatDoor.lb
open Go.RowKit Go.Proofs.YtnmfmoimjkoieaaGreatDoor.topPlain Go.Proofs.YtnmfmoimjkoieaaGreatDoor.topWalks Go.Proofs.YtnmfmoimjkoieaaGreatDoor.decPlain Go.Proofs.YtnmfmoimjkoieaaGreatDoor.rd Go.Proofs.YtnmfmoimjkoieaaGreatDoor.lw
open Go.Proofs.YtnmfmoimjkoieaaGreatDoor.rfe (FilX IntX I64 pk15)

/-- a packet of at most about a million -/
def PkOk (p : Pkt) (fs : List (List UInt8 × Int)) (cs : List Int) : Prop := I64 p.keep ∧ I64 p.id ∧ p.client.length ≤ 1048576 ∧ p.topic.length ≤ 1048576 ∧ p.payload.length ≤ 1048576 ∧ cs.length ≤ 1048576 ∧ fs.length ≤ 1048576 ∧ ∀ f, f ∈ fs → f.1.length ≤ 1048576
/-- the book behind k calls -/
def Bk (w0 w : World) (k : Nat) : Prop := Below w0.heap.size w0 w ∧ ∃ v xs, Book w w0.heap.size (.slice none 0 0) v xs ∧ (xs 1).length = 4 * k ∧ (xs 6).length = k ∧ (xs 7).length = k ∧ xs 2 = []
theorem encodes_bk {ash aw : Addr} {w0 w : World} (k : Nat) (p : Pkt) (fs : List (List UInt8 × Int)) (cs : List Int) (hp : PkOk p fs cs) (hf : FilX w0 p.fv fs) (hc : IntX w0 p.cv cs) (hE : Errs ash aw w0) (hN : Env aw w0.heap.size w0) (hk : k ≤ 100) (h : Bk w0 w k) :
    Calls Tryz.prog 14 #[.pointer (some ⟨w0.heap.size, 0, none⟩), .agg (pkCells p)] w fun e w' => e = .returned (.bool true) ∧ Bk w0 w' (k + 1) := by
  obtain ⟨hb, v, xs, hw, h1, h2, h3, h4⟩ := h
  obtain ⟨p1, p2, p3, p4, p5, p6, p7, p8⟩ := hp
  have hn := hN.below hb
  refine (encodes_any ash aw w w0.heap.size (.slice none 0 0) v xs p fs cs hw (by omega) h4 (by omega) (by omega) (by omega) p1 p2 p3 p4 p5 p6 p7 p8 (hf.below hb) (hc.below hb) (hE.below hb) ⟨Nat.le_trans hn.low hb.size, Nat.le_refl _, hn.err, hn.inv⟩).mono ?_
  rintro e w' ⟨rfl, hb', v', xs', hw', e1, e2, e3, e4⟩
  exact ⟨rfl, hb.trans hb', v', xs', hw', by omega, by omega, by omega, e4⟩
theorem keptE_bk {w0 w : World} {k : Nat} (h : Bk w0 w k) : Calls Tryz.prog 13 #[.pointer (some ⟨w0.heap.size, 0, none⟩)] w fun e w' => e = .returned (.bool true) ∧ Bk w0 w' k := by
  obtain ⟨hb, v, xs, hw, h1, h2, h3, h4⟩ := h
  refine (lb.kept_any w w0.heap.size _ v xs hw (by omega) h4).mono ?_
  rintro e w' ⟨rfl, n, rfl⟩
  exact ⟨rfl, below_drewN hb n, v, xs, hw.below (below_drewN (Below.refl _ _) n), h1, h2, h3, h4⟩
theorem bkE_new (w : World) : Bk w (w.alloc (.cells #[.slice none 0 0, .slice none 0 0, .slice none 0 0, .slice none 0 0, .slice none 0 0, .slice none 0 0, .slice none 0 0, .slice none 0 0] 29)) 0 := by
  refine ⟨(Below.refl _ _).alloc (Nat.le_refl _) _, fun _ => .slice none 0 0, fun _ => [], ?_, rfl, rfl, rfl, rfl⟩
  have hn : ∀ b, (Value.slice none 0 0).ownBlock ≠ some b := fun b e => by cases e
  refine { blk := heap1 _ _, own := fun k _ => ⟨rfl, Or.inl ⟨rfl, rfl⟩⟩, ne := fun _ _ _ _ _ b e => absurd e (hn b), held := ?_, len := fun _ _ => Nat.zero_le _, hd := fun _ _ u hu => by simp at hu }
  intro k _ i u hu
  simp at hu

theorem pingOk : PkOk ⟨12, false, false, 0, [], false, 0, false, 0, false, [], [], 0, .slice none 0 0, .slice none 0 0⟩ [] [] := by
  refine ⟨?_, ?_, Nat.zero_le _, Nat.zero_le _, Nat.zero_le _, Nat.zero_le _, Nat.zero_le _, fun f hf => by simp at hf⟩
  · unfold I64; simp
  · unfold I64; simp
theorem pingF {w : World} : FilX w (.slice none 0 0) [] := ⟨none, 0, rfl, Nat.zero_le _, fun j f h => by simp at h⟩
theorem pingC {w : World} : IntX w (.slice none 0 0) [] := ⟨none, 0, rfl, Nat.zero_le _, fun j f h => by simp at h⟩

set_option maxHeartbeats 400000 in
set_option maxRecDepth 100000 in
theorem lawEncodes_any (ash aw : Addr) (w : World) (p o : Pkt) (fp fo : List (List UInt8 × Int)) (cp co : List Int) (hp : PkOk p fp cp) (ho : PkOk o fo co) (f1 : FilX w p.fv fp) (f2 : IntX w p.cv cp) (f3 : FilX w o.fv fo) (f4 : IntX w o.cv co) (hE : Errs ash aw w) (hN : Env aw w.heap.size w) :
    Calls Tryz.prog 4 #[.agg (pkCells p), .agg (pkCells o)] w fun e w' => e = .returned (.bool true) ∧ Below w.heap.size w w' := by
  obtain ⟨kind, clean, will, keep, client, present, code, dup, qos, retain, topic, payload, id, fv, cv⟩ := p
  obtain ⟨kind', clean', will', keep', client', present', code', dup', qos', retain', topic', payload', id', fv', cv'⟩ := o
  obtain ⟨wB, hwB⟩ : ∃ W, W = (w.alloc (.cells #[.int .i64 kind, .bool clean, .bool will, .int .i64 keep, .string (bs client), .bool present, .int .i64 code, .bool dup, .int .i64 qos, .bool retain, .string (bs topic), .string (bs payload), .int .i64 id, fv, cv] 36)).alloc (.cells #[.int .i64 kind', .bool clean', .bool will', .int .i64 keep', .string (bs client'), .bool present', .int .i64 code', .bool dup', .int .i64 qos', .bool retain', .string (bs topic'), .string (bs payload'), .int .i64 id', fv', cv'] 36) := ⟨_, rfl⟩
  have hsB : wB.heap.size = w.heap.size + 1 + 1 := by rw [hwB]; simp
  have hbB : Below w.heap.size w wB := by rw [hwB]; exact ((Below.refl _ _).alloc (Nat.le_refl _) _).alloc (by simp) _
  have hP : wB.heap[w.heap.size]? = some (.cells #[.int .i64 kind, .bool clean, .bool will, .int .i64 keep, .string (bs client), .bool present, .int .i64 code, .bool dup, .int .i64 qos, .bool retain, .string (bs topic), .string (bs payload), .int .i64 id, fv, cv] 36) := by
    rw [hwB]
    exact (Below.heap_alloc _ _ _ (by simp)).trans (Go.Deep.blk_alloc_new _ _)
  have hO : wB.heap[w.heap.size + 1]? = some (.cells #[.int .i64 kind', .bool clean', .bool will', .int .i64 keep', .string (bs client'), .bool present', .int .i64 code', .bool dup', .int .i64 qos', .bool retain', .string (bs topic'), .string (bs payload'), .int .i64 id', fv', cv'] 36) := by
    rw [hwB]
    have := Go.Deep.blk_alloc_new (w.alloc (.cells #[.int .i64 kind, .bool clean, .bool will, .int .i64 keep, .string (bs client), .bool present, .int .i64 code, .bool dup, .int .i64 qos, .bool retain, .string (bs topic), .string (bs payload), .int .i64 id, fv, cv] 36)) (.cells #[.int .i64 kind', .bool clean', .bool will', .int .i64 keep', .string (bs client'), .bool present', .int .i64 code', .bool dup', .int .i64 qos', .bool retain', .string (bs topic'), .string (bs payload'), .int .i64 id', fv', cv'] 36)
    rw [show (w.alloc (.cells #[.int .i64 kind, .bool clean, .bool will, .int .i64 keep, .string (bs client), .bool present, .int .i64 code, .bool dup, .int .i64 qos, .bool retain, .string (bs topic), .string (bs payload), .int .i64 id, fv, cv] 36)).heap.size = w.heap.size + 1 by simp] at this
    exact this
  have HP : Hid (∀ w' k, Bk wB w' k → w'.heap[w.heap.size]? = some (.cells #[.int .i64 kind, .bool clean, .bool will, .int .i64 keep, .string (bs client), .bool present, .int .i64 code, .bool dup, .int .i64 qos, .bool retain, .string (bs topic), .string (bs payload), .int .i64 id, fv, cv] 36) ∧ w'.heap[w.heap.size + 1]? = some (.cells #[.int .i64 kind', .bool clean', .bool will', .int .i64 keep', .string (bs client'), .bool present', .int .i64 code', .bool dup', .int .i64 qos', .bool retain', .string (bs topic'), .string (bs payload'), .int .i64 id', fv', cv'] 36)) := fun w' k h => ⟨(h.1.block _ (by omega)).trans hP, (h.1.block _ (by omega)).trans hO⟩
  have hNB : Env aw wB.heap.size wB := by
    have hn := hN.below hbB
    exact ⟨Nat.le_trans hn.low hbB.size, Nat.le_refl _, hn.err, hn.inv⟩
  have hEB := hE.below hbB
  have cP := fun (k : Nat) (w' : World) (hk : k ≤ 100) (h : Bk wB w' k) => encodes_bk k _ fp cp hp (f1.below hbB) (f2.below hbB) hEB hNB hk h
  have cO := fun (k : Nat) (w' : World) (hk : k ≤ 100) (h : Bk wB w' k) => encodes_bk k _ fo co ho (f3.below hbB) (f4.below hbB) hEB hNB hk h
  have cL := fun (k : Nat) (w' : World) (hk : k ≤ 100) (h : Bk wB w' k) => encodes_bk k _ [] [] pingOk pingF pingC hEB hNB hk h
  have cK := fun (k : Nat) (w' : World) (h : Bk wB w' k) => keptE_bk h
  rw [hsB] at cP cO cL cK
  simp only [pkCells] at cP cO cL ⊢
  have CP := hide cP
  have CO := hide cO
  have CL := hide cL
  have CK := hide cK
  have HBB := hide hbB
  have H0 : Hid (Bk wB (((w.alloc (.cells #[.int .i64 kind, .bool clean, .bool will, .int .i64 keep, .string (bs client), .bool present, .int .i64 code, .bool dup, .int .i64 qos, .bool retain, .string (bs topic), .string (bs payload), .int .i64 id, fv, cv] 36)).alloc (.cells #[.int .i64 kind', .bool clean', .bool will', .int .i64 keep', .string (bs client'), .bool present', .int .i64 code', .bool dup', .int .i64 qos', .bool retain', .string (bs topic'), .string (bs payload'), .int .i64 id', fv', cv'] 36)).alloc (.cells #[.slice none 0 0, .slice none 0 0, .slice none 0 0, .slice none 0 0, .slice none 0 0, .slice none 0 0, .slice none 0 0, .slice none 0 0] 29)) 0) := by rw [← hwB]; exact bkE_new wB
  clear hE hN hp ho f1 f2 f3 f4 cP cO cL cK hNB hEB hP hO hbB hwB hsB
  go_enter Tryz.func4, Tryz.ntmps4
  go_wp2_with fail
  refine (CP.out 0 _ (by omega) H0.out).mono ?_
  rintro e w1 ⟨rfl, h1⟩
  obtain ⟨c0, c1, c2, c3, c4, c5, c6, c7, c8, c9, c10, c11, c12, c13, c14⟩ := pk15 (HP.out _ _ h1).2
  have H1 := hide h1
  clear h1 H0
  go_wp2_with fail
  refine (CO.out 1 _ (by omega) H1.out).mono ?_
  rintro e w2 ⟨rfl, h2⟩
  clear c0 c1 c2 c3 c4 c5 c6 c7 c8 c9 c10 c11 c12 c13 c14
  obtain ⟨c0, c1, c2, c3, c4, c5, c6, c7, c8, c9, c10, c11, c12, c13, c14⟩ := pk15 (HP.out _ _ h2).1
  have H2 := hide h2
  clear h2
  go_wp2_with fail
  refine (CP.out 2 _ (by omega) H2.out).mono ?_
  rintro e w3 ⟨rfl, h3⟩
  clear c0 c1 c2 c3 c4 c5 c6 c7 c8 c9 c10 c11 c12 c13 c14
  have H3 := hide h3
  clear h3
  go_wp2_with fail
  refine (CL.out 3 _ (by omega) H3.out).mono ?_
  rintro e w4 ⟨rfl, h4⟩
  have H4 := hide h4
  clear h4
  go_wp2_with fail
  refine (CK.out _ _ H4.out).mono ?_
  rintro e w5 ⟨rfl, h5⟩
  have H5 := hide h5
  clear h5
  go_wp2
  go_ret
  exact ⟨rfl, HBB.out.trans (H5.out.1.mono HBB.out.size)⟩
end Go.Proofs.YtnmfmoimjkoieaaGreatDoor.lb
