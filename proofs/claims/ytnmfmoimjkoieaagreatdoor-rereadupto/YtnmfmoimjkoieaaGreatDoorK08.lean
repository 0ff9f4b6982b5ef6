import Derived.Test.YtnmfmoimjkoieaaGreatDoorK07
import Derived.Test.YtnmfmoimjkoieaaGreatDoorK03
import Derived.LoopN
import Derived.Deep.RegionHeld3
import Derived.Test.YtnmfmoimjkoieaaGreatDoorK05
/- goOn where nothing waits, or nothing may go; Connect of a session with nothing under way. -/
namespace Go.Proofs.YtnmfmoimjkoieaaGreatDoor.br
open Go.RowKit Go.Proofs.YtnmfmoimjkoieaaGreatDoor.topPlain Go.Proofs.YtnmfmoimjkoieaaGreatDoor.topWalks Go.Proofs.YtnmfmoimjkoieaaGreatDoor.decPlain Go.Conc

set_option maxHeartbeats 800000 in
theorem goOn_idle (sb : Nat) (V : SesV) (S : Ses) (w : World) (h : SesAt w sb V S) (hw : S.waiting = []) :
    Calls Tryz.prog 174 #[.pointer (some ⟨sb, 0, none⟩)] w fun e w' => e = .returned (.tuple #[]) ∧ Below w.heap.size w w' := by
  have H := hide h
  have cM := hide fun w' (hb : Below w.heap.size w w') => mayGo_any sb V S w' (h.below hb)
  have hlt := blk_lt h.blk
  have hz := zeroMsg
  clear h
  refine calls_of_wpN Tryz.func174 rfl ?_
  simp only [Tryz.ntmps174, List.size_toArray, List.length_cons, List.length_nil, Nat.reduceAdd, Nat.reduceSub, Array.replicate_succ, Array.replicate_zero, List.push_toArray, List.append_toArray, List.nil_append, List.cons_append]
  refine wpN_block (wpN_loop (fun n a w' => n = 0 ∧ w' = w ∧ a = ⟨#[.pointer (some ⟨sb, 0, none⟩), undef, undef, undef, undef, undef, undef, undef, undef, undef, undef, undef, undef, undef, undef, undef], []⟩) 0 ⟨rfl, rfl, rfl⟩ ?_)
  rintro n a w' ⟨rfl, rfl, rfl⟩
  refine wpN_seq_wp fun K hK => ?_
  go_wp2_with fail
  refine (cM.out _ (Below.refl _ _)).mono ?_
  rintro e w1 ⟨rfl, hB1⟩
  have HB1 := hide hB1
  have H1 := hide (H.out.below hB1)
  clear hB1
  cases hg : (V.snd.isSome && decide ((S.under.length : Int) < S.window)) with
  | false =>
    go_wp2
    go_end0
    exact ⟨rfl, HB1.out⟩
  | true =>
    go_wp2
    have c4 : w1.cell? ⟨sb, 4, none⟩ = some (.chan (some V.cb)) := blk_cell H1.out.blk rfl
    obtain ⟨s0, r0, hc⟩ := H1.out.chn
    rw [hw] at hc
    refine wpN_block (wpN_seq_wp fun K hK => ?_)
    go_wp2
    refine wpN_seq_k fun K hK => (wpN_recv (c := V.cb) (cap := S.queue) (s := s0) (r := r0) (buf := #[]) (z := .agg #[.string ByteArray.empty, .string ByteArray.empty, .int .i64 0, .bool false]) rfl ?hx ?hc ?h1 ?h2)
    case hx => simp [go_sem, execOp, rcase, Act.eval, hz]
    case hc => exact hc
    case h1 => intro hh; simp at hh
    case h2 =>
      intro _
      clear hc
      simp only [Act.put, goInt]
      go_wp2
      refine wpN_of_wp ?_
      go_wp2
      refine bodyPost_ret (v := .tuple #[]) (by simp [results, Tryz.results174]) rfl ?_
      exact ⟨rfl, HB1.out⟩
set_option maxHeartbeats 800000 in
theorem sconnect_idle (sb x y : Nat) (V : SesV) (S : Ses) (w : World) (h : SesAt w sb V S) (hw : S.waiting = []) (hu : S.under = []) :
    Calls Tryz.prog 132 #[.pointer (some ⟨sb, 0, none⟩), .func (.func 133) #[] #[.pointer (some ⟨x, 0, none⟩), .pointer (some ⟨y, 0, none⟩)]] w fun e w' => e = .returned (.tuple #[]) ∧ SesAt w' sb { V with snd := some (x, y) } S ∧ But (fun b => b = sb) w w' := by
  have c2 : w.cell? ⟨sb, 2, none⟩ = some (sndV V.snd) := blk_cell h.blk rfl
  have f2 : w.frozen? ⟨sb, 2, none⟩ = false := blk_frozen h.blk
  have H1 := hide (h.set (V' := { V with snd := some (x, y) }) (S' := S) 2 (.func (.func 133) #[] #[.pointer (some ⟨x, 0, none⟩), .pointer (some ⟨y, 0, none⟩)]) rfl rfl rfl rfl rfl rfl rfl rfl rfl rfl)
  have HF := hide (But.set (F := fun b => b = sb) w ⟨sb, 2, none⟩ (.func (.func 133) #[] #[.pointer (some ⟨x, 0, none⟩), .pointer (some ⟨y, 0, none⟩)]) rfl)
  obtain ⟨q, cap, hq⟩ := own_form h.und
  rw [hu, List.length_nil] at hq
  have c5 : w.cell? ⟨sb, 5, none⟩ = some V.uv := blk_cell h.blk rfl
  rw [hq] at c5
  have cG := hide (goOn_idle sb _ S _ H1.out hw)
  clear h
  go_enter Tryz.func132, Tryz.ntmps132
  go_wp2_with fail
  refine wp_loop_rounds 1 ?_
  rw [rounds_succ]
  go_wp2_with fail
  refine cG.out.mono ?_
  rintro e w1 ⟨rfl, hB1⟩
  have H2 := hide (H1.out.below hB1)
  have HF2 := hide (HF.out.trans (But.of_below (F := fun b => b = sb) hB1) (fun _ _ h => h))
  clear hB1
  go_wp2
  go_end0
  exact ⟨rfl, H2.out, HF2.out⟩
end Go.Proofs.YtnmfmoimjkoieaaGreatDoor.br

/- begin's last statement: the message is written. -/
namespace Go.Proofs.YtnmfmoimjkoieaaGreatDoor.br
open Go.RowKit Go.Proofs.YtnmfmoimjkoieaaGreatDoor.topPlain Go.Proofs.YtnmfmoimjkoieaaGreatDoor.topWalks Go.Proofs.YtnmfmoimjkoieaaGreatDoor.decPlain

def dropS : Nat → Code → Code
  | 0, c => c
  | n + 1, .seq _ c => dropS n c
  | _, c => c

set_option maxHeartbeats 1600000 in
set_option maxRecDepth 100000 in
theorem begin_tail {N0 : Nat} (sb B cb N : Nat) (n idn : Int) (m : Msg) (d : List UInt8) (V : SesV) (S : Ses) (BV : BrV) (ov : Value) (L : List (OutS × Value)) (w : World) (R : Ending → World → Prop) (hE : EncOK N0 w (pktS m idn) d) (hs : SesAt w sb V S) (h : BlkAt w B BV ov L) (hS : SinkO w B cb n V.snd) (hL : L.length < 1000000000000) (hid : S.last = idn)
    (m0 : w.cell? ⟨N, 0, none⟩ = some (.string (bs m.topic))) (m1 : w.cell? ⟨N, 1, none⟩ = some (.string (bs m.payload))) (m2 : w.cell? ⟨N, 2, none⟩ = some (.int .i64 m.qos)) (m3 : w.cell? ⟨N, 3, none⟩ = some (.bool m.retain))
    (hN : ¬ OutHas B ov N) (hR : ∀ w', Wrote (fun _ => False) w B BV ov L (outTo n V.snd [d]) w' → R (.returned (.tuple #[])) w')
    (u1 u2 u4 u5 u6 u7 u8 u9 u10 u11 u12 u13 u14 u15 u16 u17 u18 u19 u20 u21 u22 u23 u24 u25 u26 u27 u28 u29 u30 u31 u32 u33 : Value) :
    Code.wp Tryz.prog (dropS 3 (Tryz.f197.body.getD .skip)) (bodyPost Tryz.prog Tryz.f197 R) ⟨#[.pointer (some ⟨sb, 0, none⟩), u1, u2, .pointer (some ⟨N, 0, none⟩), u4, u5, u6, u7, u8, u9, u10, u11, u12, u13, u14, u15, u16, u17, u18, u19, u20, u21, u22, u23, u24, u25, u26, u27, u28, u29, u30, u31, u32, u33], []⟩ w := by
  have c6 : w.cell? ⟨sb, 6, none⟩ = some (.int .i64 idn) := by rw [← hid]; exact blk_cell hs.blk rfl
  have hlt := blk_lt hs.blk
  have hltN := cell_blt m0
  simp only at hltN
  have cP := hide fun w => packet_any m idn w
  have cW := hide fun w' (hb : Below w.heap.size w w') => swrite_any sb B cb n (pktS m idn) d V S BV ov L w' (hE.below hb) (hs.below hb) (h.below hb) (hS.below hb) hL
  have HR := hide hR
  have HA := hide (hs.apart h (Or.inl rfl))
  have HNO := hide hN
  clear hE hs h hS hR hid hN
  conv => arg 2; whnf
  go_region_held3 (fun w' => w'.cell? ⟨sb, 6, none⟩ = some (.int .i64 idn) ∧ w'.cell? ⟨N, 0, none⟩ = some (.string (bs m.topic)) ∧ w'.cell? ⟨N, 1, none⟩ = some (.string (bs m.payload)) ∧ w'.cell? ⟨N, 2, none⟩ = some (.int .i64 m.qos) ∧ w'.cell? ⟨N, 3, none⟩ = some (.bool m.retain))
   (go_keep)
   (first
    | (go_at_call 195
       refine (cP.out _).mono ?_
       rintro e w1 ⟨rfl, hB1⟩
       have hB : Below w.heap.size w w1 := (Below.refl w.heap.size w).drew.trans hB1
       have k6 : w1.cell? ⟨sb, 6, none⟩ = some (.int .i64 idn) := by rw [hB.cell hlt]; exact c6
       have n0 : w1.cell? ⟨N, 0, none⟩ = some (.string (bs m.topic)) := by rw [hB.cell hltN]; exact m0
       have n1 : w1.cell? ⟨N, 1, none⟩ = some (.string (bs m.payload)) := by rw [hB.cell hltN]; exact m1
       have n2 : w1.cell? ⟨N, 2, none⟩ = some (.int .i64 m.qos) := by rw [hB.cell hltN]; exact m2
       have n3 : w1.cell? ⟨N, 3, none⟩ = some (.bool m.retain) := by rw [hB.cell hltN]; exact m3
       have HB := hide hB
       clear hB hB1)
    | (go_at_call 172
       refine (cW.out _ HB.out).mono ?_
       rintro e w2 ⟨rfl, hW⟩
       obtain ⟨ov', M, h1, h2, h3, h4, h5⟩ := hW
       have hb3 : But (OutHas B ov) w w2 := (But.of_below HB.out).trans (h3.wide (fun _ _ h => h.resolve_left (fun f => f))) (fun _ _ h => h)
       have z6 : w2.cell? ⟨sb, 6, none⟩ = some (.int .i64 idn) := hb3.cell HA.out c6
       have z0 : w2.cell? ⟨N, 0, none⟩ = some (.string (bs m.topic)) := hb3.cell HNO.out m0
       have z1 : w2.cell? ⟨N, 1, none⟩ = some (.string (bs m.payload)) := hb3.cell HNO.out m1
       have z2 : w2.cell? ⟨N, 2, none⟩ = some (.int .i64 m.qos) := hb3.cell HNO.out m2
       have z3 : w2.cell? ⟨N, 3, none⟩ = some (.bool m.retain) := hb3.cell HNO.out m3
       have hsz := HB.out.size
       have HW : Hid (Wrote (fun _ => False) w B BV ov L (outTo n V.snd [d]) w2) := ⟨ov', M, h1, h2, (But.of_below HB.out).trans h3 (fun _ _ h => h), h4.imp id (fun ⟨b, e1, e2⟩ => ⟨b, e1, Nat.le_trans hsz e2⟩), fun o ho b hb => Nat.le_trans hsz (h5 o ho b hb)⟩
       clear h1 h2 h3 h4 h5 hb3 hsz))
  go_wp2
  go_end0
  exact HR.out _ HW.out
end Go.Proofs.YtnmfmoimjkoieaaGreatDoor.br

/- connect's end: CONNACK is written, the session is connected. -/
namespace Go.Proofs.YtnmfmoimjkoieaaGreatDoor.br
open Go.RowKit Go.Proofs.YtnmfmoimjkoieaaGreatDoor.topPlain Go.Proofs.YtnmfmoimjkoieaaGreatDoor.topWalks Go.Proofs.YtnmfmoimjkoieaaGreatDoor.decPlain

def ackS (present : Bool) (code : Int) : Pkt := { zP with kind := 2, present := present, code := code }
set_option maxHeartbeats 1600000 in
set_option maxRecDepth 100000 in
theorem cn_end {N0 : Nat} (B cb sb x y : Nat) (n : Int) (pr : Bool) (d : List UInt8) (V : SesV) (S : Ses) (BV : BrV) (ov : Value) (L : List (OutS × Value)) (w : World) (R : Ending → World → Prop) (hE : EncOK N0 w (ackS pr 0) d) (hs : SesAt w sb V S) (h : BlkAt w B BV ov L) (hS : Sink w B cb x y n) (hL : L.length < 1000000000000) (hw : S.waiting = []) (hu : S.under = [])
    (hR : ∀ w', Wrote (fun b => b = sb) w B BV ov L [⟨n, d, false⟩] w' → SesAt w' sb { V with snd := some (x, y) } S → R (.returned (.tuple #[])) w')
    (u0 u1 u2 u5 u6 u9 u10 u11 u12 u13 u14 u15 u16 u17 u18 u19 u20 u21 u22 u23 u24 u25 u26 u27 u28 u29 u30 u31 u32 u33 u34 u35 u36 u37 u38 u39 u40 u41 u42 u43 u44 u45 u46 u47 u48 u49 u50 u51 u52 u53 u54 u55 u56 u57 u58 u59 u60 u61 u62 u63 u64 u65 u66 u67 u68 u69 u70 u71 u72 u73 u74 u75 u76 u77 u78 u79 u80 u81 u82 u83 u84 u85 u86 u87 u88 u89 u90 u91 u92 u93 u94 u95 u96 : Value) :
    Code.wp Tryz.prog (dropS 8 (Tryz.f90.body.getD .skip)) (bodyPost Tryz.prog Tryz.f90 R) ⟨#[u0, u1, u2, .pointer (some ⟨x, 0, none⟩), .pointer (some ⟨y, 0, none⟩), u5, u6, .pointer (some ⟨sb, 0, none⟩), .bool pr, u9, u10, u11, u12, u13, u14, u15, u16, u17, u18, u19, u20, u21, u22, u23, u24, u25, u26, u27, u28, u29, u30, u31, u32, u33, u34, u35, u36, u37, u38, u39, u40, u41, u42, u43, u44, u45, u46, u47, u48, u49, u50, u51, u52, u53, u54, u55, u56, u57, u58, u59, u60, u61, u62, u63, u64, u65, u66, u67, u68, u69, u70, u71, u72, u73, u74, u75, u76, u77, u78, u79, u80, u81, u82, u83, u84, u85, u86, u87, u88, u89, u90, u91, u92, u93, u94, u95, u96], []⟩ w := by
  have cx : w.cell? ⟨x, 0, none⟩ = some (.pointer (some ⟨B, 0, none⟩)) := blk_cell hS.bx rfl
  have cy : w.cell? ⟨y, 0, none⟩ = some (.pointer (some ⟨cb, 0, none⟩)) := blk_cell hS.by_ rfl
  have cW : Hid (Calls Tryz.prog 131 #[.pointer (some ⟨B, 0, none⟩), .pointer (some ⟨cb, 0, none⟩), .agg #[.int .i64 2, .bool false, .bool false, .int .i64 0, .string ⟨#[]⟩, .bool pr, .int .i64 0, .bool false, .int .i64 0, .bool false, .string ⟨#[]⟩, .string ⟨#[]⟩, .int .i64 0, .slice none 0 0, .slice none 0 0]] w fun e w' => e = .returned (.tuple #[]) ∧ ∃ ov' dv, BlkAt w' B BV ov' (L ++ [(⟨n, d, false⟩, dv)]) ∧ But (OutHas B ov) w w' ∧ (ov'.ownBlock = ov.ownBlock ∨ ∃ b, ov'.ownBlock = some b ∧ w.heap.size ≤ b) ∧ ∀ b, dv.ownBlock = some b → w.heap.size ≤ b) := bwrite_any B cb n (ackS pr 0) d BV ov L w hE h (by obtain ⟨cc, h1, h2⟩ := hS.num; exact blk_cell h1 h2) hL
  have HA := hide (fun b hb => hs.apart h (b := b) hb)
  have HS := hide hs
  have HR := hide hR
  have cG := hide fun w' hs' => sconnect_idle sb x y V S w' hs' hw hu
  clear hE hs h hR hS
  conv => arg 2; whnf
  go_wp2_with fail
  refine cW.out.mono ?_
  rintro e w1 ⟨rfl, ov', dv, h1, h2, h3, h4⟩
  have hs1 := HS.out.but h2 (fun b hb => HA.out b hb)
  have HS1 := hide hs1
  have hsz := h2.size
  have HW := hide (show ∀ w', But (fun b => b = sb) w1 w' → BlkAt w' B BV ov' (L ++ [(⟨n, d, false⟩, dv)]) → Wrote (fun b => b = sb) w B BV ov L [⟨n, d, false⟩] w' from fun w' hb hk => ⟨ov', [(⟨n, d, false⟩, dv)], hk, rfl, (h2.wide (fun _ _ f => Or.inr f)).trans hb (fun _ _ e => Or.inl e), h3, fun o ho b hb => by simp only [List.mem_singleton] at ho; subst ho; exact h4 b hb⟩)
  have HK := hide (fun w' (hb : But (fun b => b = sb) w1 w') => h1.but hb (fun b e => by subst e; exact hs1.clear h1 b (Or.inl rfl)))
  clear hs1 h1 h2 h3 h4 hsz
  go_wp2_with fail
  refine (cG.out _ HS1.out).mono ?_
  rintro e w2 ⟨rfl, hs2, hb2⟩
  have HF := hide (HR.out w2 (HW.out w2 hb2 (HK.out w2 hb2)) hs2)
  clear hs2 hb2
  go_wp2
  go_end0
  exact HF.out
end Go.Proofs.YtnmfmoimjkoieaaGreatDoor.br

/- connect: the connection is given its session, its CONNECT and what is done with its packets. -/
namespace Go.Proofs.YtnmfmoimjkoieaaGreatDoor.br
open Go.RowKit Go.Proofs.YtnmfmoimjkoieaaGreatDoor.topPlain Go.Proofs.YtnmfmoimjkoieaaGreatDoor.topWalks Go.Proofs.YtnmfmoimjkoieaaGreatDoor.decPlain

def conSet (c : Array Value) (sb : Nat) (p : Pkt) (f1 : Option Addr) (f2 f3 : Nat) (c1 : Option Addr) (c2 c3 : Nat) : Array Value := patch c 18 [.pointer (some ⟨sb, 0, none⟩), .int .i64 p.kind, .bool p.clean, .bool p.will, .int .i64 p.keep, .string (bs p.client), .bool p.present, .int .i64 p.code, .bool p.dup, .int .i64 p.qos, .bool p.retain, .string (bs p.topic), .string (bs p.payload), .int .i64 p.id, .slice f1 f2 f3, .slice c1 c2 c3]
theorem conSet_eq (n : Int) (CV : ConV) (C : Con) (hC : C.hello = none) (sb a b a' b' : Nat) (p : Pkt) (f1 : Option Addr) (f2 f3 : Nat) (c1 : Option Addr) (c2 c3 : Nat) : patch (conSet (conC n CV C) sb p f1 f2 f3 c1 c2 c3) 2 (onceA a b a' b').toList = conC n ⟨CV.cb, CV.wv, a, b, a', b', sb⟩ { C with hello := some { p with fv := .slice f1 f2 f3, cv := .slice c1 c2 c3 } } := by
  obtain ⟨wt, hd, hl⟩ := C
  simp only at hC
  subst hC
  kernel_rfl
theorem there_set {W : World} {b o n i : Nat} {v : Value} (h : W.there b o n) : (W.setCell ⟨b, i, none⟩ v).there b o n := fun j hj => by
  obtain ⟨h1, h2⟩ := h j hj
  refine ⟨?_, by rw [World.frozen?_setCell]; exact h2⟩
  obtain ⟨u, hu⟩ := Option.isSome_iff_exists.1 h1
  by_cases e : o + j = i
  · subst e
    have h3 : (W.setCell ⟨b, o + j, none⟩ v).cell? ⟨b, o + j, none⟩ = some v := by apply World.cell?_setCell_same; exact hu
    rw [h3]; rfl
  · have h3 : (W.setCell ⟨b, i, none⟩ v).cell? ⟨b, o + j, none⟩ = W.cell? ⟨b, o + j, none⟩ := by
      apply World.cell?_setCell_other
      intro e2
      simp only [Addr.mk.injEq] at e2
      omega
    rw [h3]; exact h1
theorem there_sets {b o n : Nat} (vs : List Value) : ∀ {W : World} (_ : W.there b o n) (k : Nat), (W.setCells b k vs).there b o n := by
  induction vs with
  | nil => exact fun h _ => h
  | cons v vs ih => exact fun h k => ih (there_set h) (k + 1)
theorem conC_size (n : Int) (V : ConV) (C : Con) : (conC n V C).size = 34 := by
  obtain ⟨wt, hd, hl⟩ := C
  cases hl <;> kernel_rfl
theorem blk_some {w : World} {b i : Nat} {c : Array Value} {t : TypeId} {z : Nat × Nat} (h : w.heap[b]? = some (.cells c t z)) (hi : i < c.size) : ∃ v, w.cell? ⟨b, i, none⟩ = some v := ⟨_, blk_cell h (Array.getElem?_eq_getElem hi)⟩
set_option maxHeartbeats 3200000 in
set_option maxRecDepth 100000 in
theorem cn_set (B cb sb x y pb : Nat) (n : Int) (pr : Bool) (p : Pkt) (f1 : Option Addr) (f2 f3 : Nat) (c1 : Option Addr) (c2 c3 : Nat) (CV : ConV) (C : Con) (w : World) (R : Ending → World → Prop) (hb : Boxes w B cb x y) (hc : w.heap[cb]? = some (.cells (conC n CV C) 137)) (hp : w.cell? ⟨pb, 0, none⟩ = some (.int .i64 p.kind) ∧ w.cell? ⟨pb, 1, none⟩ = some (.bool p.clean) ∧ w.cell? ⟨pb, 2, none⟩ = some (.bool p.will) ∧ w.cell? ⟨pb, 3, none⟩ = some (.int .i64 p.keep) ∧ w.cell? ⟨pb, 4, none⟩ = some (.string (bs p.client)) ∧ w.cell? ⟨pb, 5, none⟩ = some (.bool p.present) ∧ w.cell? ⟨pb, 6, none⟩ = some (.int .i64 p.code) ∧ w.cell? ⟨pb, 7, none⟩ = some (.bool p.dup) ∧ w.cell? ⟨pb, 8, none⟩ = some (.int .i64 p.qos) ∧ w.cell? ⟨pb, 9, none⟩ = some (.bool p.retain) ∧ w.cell? ⟨pb, 10, none⟩ = some (.string (bs p.topic)) ∧ w.cell? ⟨pb, 11, none⟩ = some (.string (bs p.payload)) ∧ w.cell? ⟨pb, 12, none⟩ = some (.int .i64 p.id) ∧ w.cell? ⟨pb, 13, none⟩ = some (.slice f1 f2 f3) ∧ w.cell? ⟨pb, 14, none⟩ = some (.slice c1 c2 c3))
    (hpb : pb ≠ cb)
    (hN : ∀ w' a b a' b' (u0 u1 u2 u5 u6 u9 u10 u11 u12 u13 u14 u15 u16 u17 u18 u19 u20 u21 u22 u23 u24 u25 u26 u27 u28 u29 u30 u31 u32 u33 u34 u35 u36 u37 u38 u39 u40 u41 u42 u43 u44 u45 u46 u47 u48 u49 u50 u51 u52 u53 u54 u55 u56 u57 u58 u59 u60 u61 u62 u63 u64 u65 u66 u67 u68 u69 u70 u71 u72 u73 u74 u75 u76 u77 u78 u79 u80 u81 u82 u83 u84 u85 u86 u87 u88 u89 u90 u91 u92 u93 u94 u95 u96 : Value), But (fun g => g = cb) w w' → w'.heap[cb]? = some (.cells (patch (conSet (conC n CV C) sb p f1 f2 f3 c1 c2 c3) 2 (onceA a b a' b').toList) 137) → Boxes w' B cb a b → Boxes w' B cb a' b' → w.heap.size ≤ a → w.heap.size ≤ b → w.heap.size ≤ a' → w.heap.size ≤ b' → Code.wp Tryz.prog (dropS 8 (Tryz.f90.body.getD .skip)) (bodyPost Tryz.prog Tryz.f90 R) ⟨#[u0, u1, u2, .pointer (some ⟨x, 0, none⟩), .pointer (some ⟨y, 0, none⟩), u5, u6, .pointer (some ⟨sb, 0, none⟩), .bool pr, u9, u10, u11, u12, u13, u14, u15, u16, u17, u18, u19, u20, u21, u22, u23, u24, u25, u26, u27, u28, u29, u30, u31, u32, u33, u34, u35, u36, u37, u38, u39, u40, u41, u42, u43, u44, u45, u46, u47, u48, u49, u50, u51, u52, u53, u54, u55, u56, u57, u58, u59, u60, u61, u62, u63, u64, u65, u66, u67, u68, u69, u70, u71, u72, u73, u74, u75, u76, u77, u78, u79, u80, u81, u82, u83, u84, u85, u86, u87, u88, u89, u90, u91, u92, u93, u94, u95, u96], []⟩ w')
    (u0 u1 u2 u6 u9 u10 u11 u12 u13 u14 u15 u16 u17 u18 u19 u20 u21 u22 u23 u24 u25 u26 u27 u28 u29 u30 u31 u32 u33 u34 u35 u36 u37 u38 u39 u40 u41 u42 u43 u44 u45 u46 u47 u48 u49 u50 u51 u52 u53 u54 u55 u56 u57 u58 u59 u60 u61 u62 u63 u64 u65 u66 u67 u68 u69 u70 u71 u72 u73 u74 u75 u76 u77 u78 u79 u80 u81 u82 u83 u84 u85 u86 u87 u88 u89 u90 u91 u92 u93 u94 u95 u96 : Value) :
    Code.wp Tryz.prog (dropS 7 (Tryz.f90.body.getD .skip)) (bodyPost Tryz.prog Tryz.f90 R) ⟨#[u0, u1, u2, .pointer (some ⟨x, 0, none⟩), .pointer (some ⟨y, 0, none⟩), .pointer (some ⟨pb, 0, none⟩), u6, .pointer (some ⟨sb, 0, none⟩), .bool pr, u9, u10, u11, u12, u13, u14, u15, u16, u17, u18, u19, u20, u21, u22, u23, u24, u25, u26, u27, u28, u29, u30, u31, u32, u33, u34, u35, u36, u37, u38, u39, u40, u41, u42, u43, u44, u45, u46, u47, u48, u49, u50, u51, u52, u53, u54, u55, u56, u57, u58, u59, u60, u61, u62, u63, u64, u65, u66, u67, u68, u69, u70, u71, u72, u73, u74, u75, u76, u77, u78, u79, u80, u81, u82, u83, u84, u85, u86, u87, u88, u89, u90, u91, u92, u93, u94, u95, u96], []⟩ w := by
  have cx : w.cell? ⟨x, 0, none⟩ = some (.pointer (some ⟨B, 0, none⟩)) := blk_cell hb.bx rfl
  have cy : w.cell? ⟨y, 0, none⟩ = some (.pointer (some ⟨cb, 0, none⟩)) := blk_cell hb.by_ rfl
  have hxc : x ≠ cb := fun e => by have := hb.bx; rw [e, hc] at this; simp at this
  have hyc : y ≠ cb := fun e => by have := hb.by_; rw [e, hc] at this; simp at this
  obtain ⟨p0, p1, p2, p3, p4, p5, p6, p7, p8, p9, p10, p11, p12, p13, p14⟩ := hp
  have hlx := blk_lt hb.bx
  have hly := blk_lt hb.by_
  have hlc := blk_lt hc
  have hlp := cell_blt p0
  simp only at hlp
  have cO := hide fun w => once_any B cb w
  have HC := hide hc
  have HN := hide hN
  have hu134 := Tryz.underlying134
  clear hb hc hN
  have hkx : ∀ (W : World) (i j : Nat) (v : Value), (W.setCell ⟨cb, i, none⟩ v).cell? ⟨x, j, none⟩ = W.cell? ⟨x, j, none⟩ := fun W i j v => World.cell?_of_block (Below.heap_setCell _ _ _ _ (fun e => hxc e))
  have hky : ∀ (W : World) (i j : Nat) (v : Value), (W.setCell ⟨cb, i, none⟩ v).cell? ⟨y, j, none⟩ = W.cell? ⟨y, j, none⟩ := fun W i j v => World.cell?_of_block (Below.heap_setCell _ _ _ _ (fun e => hyc e))
  have hkp : ∀ (W : World) (i j : Nat) (v : Value), (W.setCell ⟨cb, i, none⟩ v).cell? ⟨pb, j, none⟩ = W.cell? ⟨pb, j, none⟩ := fun W i j v => World.cell?_of_block (Below.heap_setCell _ _ _ _ (fun e => hpb e))
  have hsx : ∀ (W : World) (vs : List Value) (j : Nat), (W.setCells cb 2 vs).cell? ⟨x, j, none⟩ = W.cell? ⟨x, j, none⟩ := fun W vs j => World.cell?_of_block (setCells_ne hxc _ _ _)
  have hsy : ∀ (W : World) (vs : List Value) (j : Nat), (W.setCells cb 2 vs).cell? ⟨y, j, none⟩ = W.cell? ⟨y, j, none⟩ := fun W vs j => World.cell?_of_block (setCells_ne hyc _ _ _)
  have hsp : ∀ (W : World) (vs : List Value) (j : Nat), (W.setCells cb 2 vs).cell? ⟨pb, j, none⟩ = W.cell? ⟨pb, j, none⟩ := fun W vs j => World.cell?_of_block (setCells_ne hpb _ _ _)
  conv => arg 2; whnf
  refine wp_seq_k fun K aK => ?_
  have HK := hide aK
  clear aK
  go_region_held3 (fun w' => w'.cell? ⟨x, 0, none⟩ = some (.pointer (some ⟨B, 0, none⟩)) ∧ w'.cell? ⟨y, 0, none⟩ = some (.pointer (some ⟨cb, 0, none⟩)) ∧ w'.cell? ⟨pb, 0, none⟩ = some (.int .i64 p.kind) ∧ w'.cell? ⟨pb, 1, none⟩ = some (.bool p.clean) ∧ w'.cell? ⟨pb, 2, none⟩ = some (.bool p.will) ∧ w'.cell? ⟨pb, 3, none⟩ = some (.int .i64 p.keep) ∧ w'.cell? ⟨pb, 4, none⟩ = some (.string (bs p.client)) ∧ w'.cell? ⟨pb, 5, none⟩ = some (.bool p.present) ∧ w'.cell? ⟨pb, 6, none⟩ = some (.int .i64 p.code) ∧ w'.cell? ⟨pb, 7, none⟩ = some (.bool p.dup) ∧ w'.cell? ⟨pb, 8, none⟩ = some (.int .i64 p.qos) ∧ w'.cell? ⟨pb, 9, none⟩ = some (.bool p.retain) ∧ w'.cell? ⟨pb, 10, none⟩ = some (.string (bs p.topic)) ∧ w'.cell? ⟨pb, 11, none⟩ = some (.string (bs p.payload)) ∧ w'.cell? ⟨pb, 12, none⟩ = some (.int .i64 p.id) ∧ w'.cell? ⟨pb, 13, none⟩ = some (.slice f1 f2 f3) ∧ w'.cell? ⟨pb, 14, none⟩ = some (.slice c1 c2 c3))
   (go_keep)
   (first
    | (go_at_call 130
       refine (cO.out _).mono ?_
       rintro e w1 ⟨a, b, a', b', rfl, hB1, k1, k2, l1, l2, l3, l4⟩
       have hB : Below w.heap.size w w1 := (Below.refl w.heap.size w).drew.trans hB1
       have dx : w1.cell? ⟨x, 0, none⟩ = some (.pointer (some ⟨B, 0, none⟩)) := by rw [hB.cell hlx]; exact cx
       have dy : w1.cell? ⟨y, 0, none⟩ = some (.pointer (some ⟨cb, 0, none⟩)) := by rw [hB.cell hly]; exact cy
       have q0 : w1.cell? ⟨pb, 0, none⟩ = some (.int .i64 p.kind) := by rw [hB.cell hlp]; exact p0
       have q1 : w1.cell? ⟨pb, 1, none⟩ = some (.bool p.clean) := by rw [hB.cell hlp]; exact p1
       have q2 : w1.cell? ⟨pb, 2, none⟩ = some (.bool p.will) := by rw [hB.cell hlp]; exact p2
       have q3 : w1.cell? ⟨pb, 3, none⟩ = some (.int .i64 p.keep) := by rw [hB.cell hlp]; exact p3
       have q4 : w1.cell? ⟨pb, 4, none⟩ = some (.string (bs p.client)) := by rw [hB.cell hlp]; exact p4
       have q5 : w1.cell? ⟨pb, 5, none⟩ = some (.bool p.present) := by rw [hB.cell hlp]; exact p5
       have q6 : w1.cell? ⟨pb, 6, none⟩ = some (.int .i64 p.code) := by rw [hB.cell hlp]; exact p6
       have q7 : w1.cell? ⟨pb, 7, none⟩ = some (.bool p.dup) := by rw [hB.cell hlp]; exact p7
       have q8 : w1.cell? ⟨pb, 8, none⟩ = some (.int .i64 p.qos) := by rw [hB.cell hlp]; exact p8
       have q9 : w1.cell? ⟨pb, 9, none⟩ = some (.bool p.retain) := by rw [hB.cell hlp]; exact p9
       have q10 : w1.cell? ⟨pb, 10, none⟩ = some (.string (bs p.topic)) := by rw [hB.cell hlp]; exact p10
       have q11 : w1.cell? ⟨pb, 11, none⟩ = some (.string (bs p.payload)) := by rw [hB.cell hlp]; exact p11
       have q12 : w1.cell? ⟨pb, 12, none⟩ = some (.int .i64 p.id) := by rw [hB.cell hlp]; exact p12
       have q13 : w1.cell? ⟨pb, 13, none⟩ = some (.slice f1 f2 f3) := by rw [hB.cell hlp]; exact p13
       have q14 : w1.cell? ⟨pb, 14, none⟩ = some (.slice c1 c2 c3) := by rw [hB.cell hlp]; exact p14
       have hb1 := (hB.block _ hlc).trans HC.out
       have ht1 : w1.there cb 2 15 := blk_there hb1 (by rw [conC_size]; omega)
       obtain ⟨v18, h18⟩ := blk_some (i := 18) hb1 (by rw [conC_size]; omega)
       obtain ⟨v19, h19⟩ := blk_some (i := 19) hb1 (by rw [conC_size]; omega)
       obtain ⟨v20, h20⟩ := blk_some (i := 20) hb1 (by rw [conC_size]; omega)
       obtain ⟨v21, h21⟩ := blk_some (i := 21) hb1 (by rw [conC_size]; omega)
       obtain ⟨v22, h22⟩ := blk_some (i := 22) hb1 (by rw [conC_size]; omega)
       obtain ⟨v23, h23⟩ := blk_some (i := 23) hb1 (by rw [conC_size]; omega)
       obtain ⟨v24, h24⟩ := blk_some (i := 24) hb1 (by rw [conC_size]; omega)
       obtain ⟨v25, h25⟩ := blk_some (i := 25) hb1 (by rw [conC_size]; omega)
       obtain ⟨v26, h26⟩ := blk_some (i := 26) hb1 (by rw [conC_size]; omega)
       obtain ⟨v27, h27⟩ := blk_some (i := 27) hb1 (by rw [conC_size]; omega)
       obtain ⟨v28, h28⟩ := blk_some (i := 28) hb1 (by rw [conC_size]; omega)
       obtain ⟨v29, h29⟩ := blk_some (i := 29) hb1 (by rw [conC_size]; omega)
       obtain ⟨v30, h30⟩ := blk_some (i := 30) hb1 (by rw [conC_size]; omega)
       obtain ⟨v31, h31⟩ := blk_some (i := 31) hb1 (by rw [conC_size]; omega)
       obtain ⟨v32, h32⟩ := blk_some (i := 32) hb1 (by rw [conC_size]; omega)
       obtain ⟨v33, h33⟩ := blk_some (i := 33) hb1 (by rw [conC_size]; omega)
       have hfz : ∀ i, w1.frozen? ⟨cb, i, none⟩ = false := fun i => blk_frozen hb1
       obtain ⟨cs, hcs⟩ : ∃ cs, cs = (onceA a b a' b').toList := ⟨_, rfl⟩
       have hcl : cs.length = 15 := by rw [hcs]; rfl
       have hall : ∀ v ∈ cs, v.oneCell' = true := fun v hv => (Array.all_eq_true_iff_forall_mem.1 (onceA_all a b a' b')) v (by rw [hcs] at hv; simpa using hv)
       have hinc : (Tryz.prog.info? 134).map (·.size) = some cs.length := by rw [hcl]; exact infoHand
       rw [show onceA a b a' b' = cs.toArray by rw [hcs, Array.toArray_toList]]
       have hth : ((((((((((((((((w1.setCell ⟨cb, 18, none⟩ (.pointer (some ⟨sb, 0, none⟩))).setCell ⟨cb, 19, none⟩ (.int .i64 p.kind)).setCell ⟨cb, 20, none⟩ (.bool p.clean)).setCell ⟨cb, 21, none⟩ (.bool p.will)).setCell ⟨cb, 22, none⟩ (.int .i64 p.keep)).setCell ⟨cb, 23, none⟩ (.string (bs p.client))).setCell ⟨cb, 24, none⟩ (.bool p.present)).setCell ⟨cb, 25, none⟩ (.int .i64 p.code)).setCell ⟨cb, 26, none⟩ (.bool p.dup)).setCell ⟨cb, 27, none⟩ (.int .i64 p.qos)).setCell ⟨cb, 28, none⟩ (.bool p.retain)).setCell ⟨cb, 29, none⟩ (.string (bs p.topic))).setCell ⟨cb, 30, none⟩ (.string (bs p.payload))).setCell ⟨cb, 31, none⟩ (.int .i64 p.id)).setCell ⟨cb, 32, none⟩ (.slice f1 f2 f3)).setCell ⟨cb, 33, none⟩ (.slice c1 c2 c3)).there cb 2 15 := by
         with_reducible repeat refine there_set ?_
         exact ht1
       clear ht1
       have HCS := hide hcs
       have HB := hide hB
       have HB1 := hide hb1
       have HK1 := hide k1
       have HK2 := hide k2
       have HL : Hid (w.heap.size ≤ a ∧ w.heap.size ≤ b ∧ w.heap.size ≤ a' ∧ w.heap.size ≤ b') := ⟨l1, l2, l3, l4⟩
       clear hcs hB hB1 hb1 k1 k2 l1 l2 l3 l4))
  refine HK.out _ ((w1.setCells cb 18 [.pointer (some ⟨sb, 0, none⟩), .int .i64 p.kind, .bool p.clean, .bool p.will, .int .i64 p.keep, .string (bs p.client), .bool p.present, .int .i64 p.code, .bool p.dup, .int .i64 p.qos, .bool p.retain, .string (bs p.topic), .string (bs p.payload), .int .i64 p.id, .slice f1 f2 f3, .slice c1 c2 c3]).setCells cb 2 cs) ?_
  have hb1 : But (fun g => g = cb) w1 ((w1.setCells cb 18 [.pointer (some ⟨sb, 0, none⟩), .int .i64 p.kind, .bool p.clean, .bool p.will, .int .i64 p.keep, .string (bs p.client), .bool p.present, .int .i64 p.code, .bool p.dup, .int .i64 p.qos, .bool p.retain, .string (bs p.topic), .string (bs p.payload), .int .i64 p.id, .slice f1 f2 f3, .slice c1 c2 c3]).setCells cb 2 cs) := (But.cells (F := fun g => g = cb) rfl [.pointer (some ⟨sb, 0, none⟩), .int .i64 p.kind, .bool p.clean, .bool p.will, .int .i64 p.keep, .string (bs p.client), .bool p.present, .int .i64 p.code, .bool p.dup, .int .i64 p.qos, .bool p.retain, .string (bs p.topic), .string (bs p.payload), .int .i64 p.id, .slice f1 f2 f3, .slice c1 c2 c3] w1 18).trans (But.cells (F := fun g => g = cb) rfl cs _ 2) (fun _ _ h => h)
  have hbx : ∀ g, g ≠ cb → ((w1.setCells cb 18 [.pointer (some ⟨sb, 0, none⟩), .int .i64 p.kind, .bool p.clean, .bool p.will, .int .i64 p.keep, .string (bs p.client), .bool p.present, .int .i64 p.code, .bool p.dup, .int .i64 p.qos, .bool p.retain, .string (bs p.topic), .string (bs p.payload), .int .i64 p.id, .slice f1 f2 f3, .slice c1 c2 c3]).setCells cb 2 cs).heap[g]? = w1.heap[g]? := fun g hg => (setCells_ne hg cs _ 2).trans (setCells_ne hg [.pointer (some ⟨sb, 0, none⟩), .int .i64 p.kind, .bool p.clean, .bool p.will, .int .i64 p.keep, .string (bs p.client), .bool p.present, .int .i64 p.code, .bool p.dup, .int .i64 p.qos, .bool p.retain, .string (bs p.topic), .string (bs p.payload), .int .i64 p.id, .slice f1 f2 f3, .slice c1 c2 c3] w1 18)
  have hbl := setCells_blk cs _ 2 _ (setCells_blk [.pointer (some ⟨sb, 0, none⟩), .int .i64 p.kind, .bool p.clean, .bool p.will, .int .i64 p.keep, .string (bs p.client), .bool p.present, .int .i64 p.code, .bool p.dup, .int .i64 p.qos, .bool p.retain, .string (bs p.topic), .string (bs p.payload), .int .i64 p.id, .slice f1 f2 f3, .slice c1 c2 c3] w1 18 _ HB1.out)
  have hbc : ∀ g, w.heap.size ≤ g → g ≠ cb := fun g hg => by omega
  obtain ⟨l1, l2, l3, l4⟩ := HL.out
  exact HN.out _ a b a' b' _ _ _ _ _ _ _ _ _ _ _ _ _ _ _ _ _ _ _ _ _ _ _ _ _ _ _ _ _ _ _ _ _ _ _ _ _ _ _ _ _ _ _ _ _ _ _ _ _ _ _ _ _ _ _ _ _ _ _ _ _ _ _ _ _ _ _ _ _ _ _ _ _ _ _ _ _ _ _ _ _ _ _ _ _ _ _ _ _ _ _ _ _ ((But.of_below HB.out).trans hb1 (fun _ _ h => h)) (by rw [← HCS.out]; exact hbl) (HK1.out.keep (hbx _ (hbc _ l1)) (hbx _ (hbc _ l2))) (HK2.out.keep (hbx _ (hbc _ l3)) (hbx _ (hbc _ l4))) l1 l2 l3 l4
end Go.Proofs.YtnmfmoimjkoieaaGreatDoor.br
