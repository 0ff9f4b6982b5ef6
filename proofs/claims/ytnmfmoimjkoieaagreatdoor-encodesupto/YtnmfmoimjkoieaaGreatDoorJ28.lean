import Derived.Test.YtnmfmoimjkoieaaGreatDoorJ27
import Derived.Test.YtnmfmoimjkoieaaGreatDoorJ07
import Derived.Test.YtnmfmoimjkoieaaGreatDoorJ22
import Derived.Deep.RegionHeld3
import Derived.Deep.DrawnRows
/- courant.Encode: the bytes of a packet, or ErrPacket. -/
namespace Go.Proofs.YtnmfmoimjkoieaaGreatDoor.ew
open Go.RowKit Go.Proofs.YtnmfmoimjkoieaaGreatDoor.topPlain Go.Proofs.YtnmfmoimjkoieaaGreatDoor.topWalks Go.Proofs.YtnmfmoimjkoieaaGreatDoor.decPlain Go.Proofs.YtnmfmoimjkoieaaGreatDoor.encPlain Go.Proofs.YtnmfmoimjkoieaaGreatDoor.rd
open Go.Proofs.YtnmfmoimjkoieaaGreatDoor.rf (FilV IntV)

def CePost (w : World) (R : Option (List UInt8)) (e : Ending) (w' : World) : Prop :=
  Below w.heap.size w w' ∧ match R with
    | none => e = .returned (.tuple #[.slice none 0 0, .int .i64 2])
    | some b => ∃ v, e = .returned (.tuple #[v, .int .i64 0]) ∧ w'.ownsRow w.heap.size 5 1 v b.length (u8s b)

set_option maxHeartbeats 1600000 in
set_option maxRecDepth 100000 in
theorem cEncode_any (ash aw : Addr) (p : Pkt) (fs : List (List UInt8 × Int)) (cs : List Int) (w : World) (hf : FilV w p.fv fs) (hc : IntV w p.cv cs) (hE : Errs ash aw w) (hEnv : Env aw w.heap.size w) :
    Calls Tryz.prog 19 #[.agg (pkCells p)] w (CePost w (encL (fwW p) (cbW p) p fs cs)) := by
  have HE := hide hE
  have cE := hide fun o => pEncode_any ash aw p fs cs (w.alloc o) (filV_below hf ((Below.refl _ _).alloc (Nat.le_refl _) o)) (intV_below hc ((Below.refl _ _).alloc (Nat.le_refl _) o)) (hE.below ((Below.refl _ _).alloc (Nat.le_refl _) o)) (by
    have hn := hEnv.below ((Below.refl _ _).alloc (Nat.le_refl _) o)
    exact ⟨Nat.le_trans hn.low (by simp), Nat.le_refl _, hn.err, hn.inv⟩)
  clear hf hc hE hEnv
  generalize encL (fwW p) (cbW p) p fs cs = R at *
  obtain ⟨kind, clean, will, keep, client, present, code, dup, qos, retain, topic, payload, id, fv, cv⟩ := p
  simp only [pkCells] at cE ⊢
  go_enter Tryz.func19, Tryz.ntmps19
  go_wp2_with fail
  refine (cE.out _).mono ?_
  rintro e w1 ⟨hb1, h1⟩
  have HB1 : Hid (Below w.heap.size w w1) := ((Below.refl w.heap.size w).alloc (Nat.le_refl _) _).trans (hb1.mono (by simp))
  clear hb1 cE
  cases R with
  | none =>
    obtain ⟨v, n, rfl, hn⟩ := h1
    obtain ⟨wh, c2, rfl, hn2⟩ := hn
    have cN := hide (errno_wrong ash aw (n + 1) (.iface 171 (.agg #[.string wh, c2])) w1 (HE.out.below HB1.out) ⟨wh, c2, rfl, hn2⟩)
    clear hn2
    go_wp2_with (go_at_call 54; refine cN.out.mono ?_; rintro e w2 ⟨rfl, hb2⟩)
    have HB2 := hide (HB1.out.trans (hb2.mono HB1.out.size))
    go_ret2
    exact ⟨HB2.out, rfl⟩
  | some b =>
    obtain ⟨v, rfl, ho⟩ := h1
    have HO := hide ho
    obtain ⟨q, cap, rfl⟩ := own_slice ho
    clear ho
    have cN := hide (errno_nil w1)
    go_wp2_with (go_at_call 54; refine cN.out.mono ?_; rintro e w2 ⟨rfl, rfl⟩)
    go_ret2
    exact ⟨HB1.out, _, rfl, own_base HO.out (by simp)⟩
end Go.Proofs.YtnmfmoimjkoieaaGreatDoor.ew

/- courantref.Bytes: its end: the first byte and the length ahead of the body. -/
namespace Go.Proofs.YtnmfmoimjkoieaaGreatDoor.rfe
open Go.RowKit Go.Proofs.YtnmfmoimjkoieaaGreatDoor.topPlain Go.Proofs.YtnmfmoimjkoieaaGreatDoor.topWalks Go.Proofs.YtnmfmoimjkoieaaGreatDoor.decPlain Go.Proofs.YtnmfmoimjkoieaaGreatDoor.encPlain Go.Proofs.YtnmfmoimjkoieaaGreatDoor.ew
open Go.Proofs.YtnmfmoimjkoieaaGreatDoor.rd (pkCells fixedF)

def dropSeq : Nat → Code → Code
  | 0, c => c
  | n + 1, .seq _ c => dropSeq n c
  | _, c => c
theorem byt8_wrap2 (a b : Int) : byt8 (wrap64 (wrap64 a + b)) = byt8 (a + b) := by
  unfold byt8 wrap64
  congr 2
  omega
theorem ret_str {a b : ByteArray} (h : a = b) : Ending.returned (.string a) = .returned (.string b) := by rw [h]
set_option maxHeartbeats 3200000 in
set_option maxRecDepth 100000 in
theorem byt_end (w wx : World) (kind : Int) (clean will : Bool) (keep : Int) (client : List UInt8) (present : Bool) (code : Int) (dup : Bool) (qos : Int) (retain : Bool) (topic payload : List UInt8) (id : Int) (fv cv : Value) (flags : Int) (X R : List UInt8) (s : ByteArray) (hs : s = bs X) (hX : X.length ≤ 17592186044416) (hR : R = byt8 (16 * kind + flags) :: (lenR X.length ++ X))
    (hst : St w wx (.cells #[.int .i64 kind, .bool clean, .bool will, .int .i64 keep, .string (bs client), .bool present, .int .i64 code, .bool dup, .int .i64 qos, .bool retain, .string (bs topic), .string (bs payload), .int .i64 id, fv, cv] 36)) (u0 u2 u5 u6 u7 u8 u9 u10 u11 u12 u13 u14 u15 u16 u17 u18 u19 u20 u21 u22 u23 u24 u25 u26 u27 u28 u29 u30 u31 u32 u33 u34 u35 u36 u37 u38 u39 u40 u41 u42 u43 u44 u45 u46 u47 u48 u49 u50 u51 u52 u53 u54 u55 u56 u57 u58 u59 u60 u61 u62 u63 u64 u65 u66 u67 u68 u69 u70 u71 u72 u73 u74 u75 u76 u77 u78 u79 u80 u81 u82 u83 u84 u85 u86 u87 u88 u89 u90 u91 u92 u93 u94 u95 u96 u97 u98 u99 u100 u101 u102 u103 u104 u105 u106 u107 u108 u109 u110 u111 u112 u113 u114 u115 u116 u117 u118 u119 u120 u121 u122 u123 u124 u125 u126 u127 u128 u129 u130 u131 u132 u133 u134 u135 u136 u137 u138 u139 u140 u141 u142 u143 u144 u145 u146 u147 u148 u149 u150 u151 u152 u153 u154 u155 u156 u157 u158 u159 u160 u161 u162 u163 u164 u165 u166 u167 u168 u169 u170 u171 u172 u173 u174 u175 u176 u177 u178 u179 u180 u181 : Value) :
    Code.wp Tryz.prog (dropSeq 4 (Tryz.f70.body.getD .skip)) (bodyPost Tryz.prog Tryz.f70 (fun e w' => e = .returned (.string (bs R)) ∧ Below w.heap.size w w')) ⟨#[u0, .pointer (some ⟨w.heap.size, 0, none⟩), u2, .string s, .int .i64 flags, u5, u6, u7, u8, u9, u10, u11, u12, u13, u14, u15, u16, u17, u18, u19, u20, u21, u22, u23, u24, u25, u26, u27, u28, u29, u30, u31, u32, u33, u34, u35, u36, u37, u38, u39, u40, u41, u42, u43, u44, u45, u46, u47, u48, u49, u50, u51, u52, u53, u54, u55, u56, u57, u58, u59, u60, u61, u62, u63, u64, u65, u66, u67, u68, u69, u70, u71, u72, u73, u74, u75, u76, u77, u78, u79, u80, u81, u82, u83, u84, u85, u86, u87, u88, u89, u90, u91, u92, u93, u94, u95, u96, u97, u98, u99, u100, u101, u102, u103, u104, u105, u106, u107, u108, u109, u110, u111, u112, u113, u114, u115, u116, u117, u118, u119, u120, u121, u122, u123, u124, u125, u126, u127, u128, u129, u130, u131, u132, u133, u134, u135, u136, u137, u138, u139, u140, u141, u142, u143, u144, u145, u146, u147, u148, u149, u150, u151, u152, u153, u154, u155, u156, u157, u158, u159, u160, u161, u162, u163, u164, u165, u166, u167, u168, u169, u170, u171, u172, u173, u174, u175, u176, u177, u178, u179, u180, u181], []⟩ wx := by
  have c1 := hide fun n w => one_any n w
  have hsz := fun l => bsz l
  have HST := hide hst
  obtain ⟨x0, x1, x2, x3, x4, x5, x6, x7, x8, x9, x10, x11, x12, x13, x14⟩ := pk15 hst.blk
  have hss : s.size = X.length := by rw [hs, bsz]
  have HS := hide hs
  have HR := hide hR
  clear hs hR hst
  by_cases hl : 127 < X.length
  · conv => arg 2; whnf
    go_wp2_with fail
    refine (c1.out _ _).mono ?_
    rintro e w1 ⟨rfl, hb1⟩
    have HST1 := hide (HST.out.call hb1)
    clear hb1
    go_wp2_with fail
    refine (c1.out _ _).mono ?_
    rintro e w2 ⟨rfl, hb2⟩
    have HST2 := hide (HST1.out.call hb2)
    clear hb2
    go_wp2_with fail
    refine (c1.out _ _).mono ?_
    rintro e w3 ⟨rfl, hb3⟩
    have HST3 := hide (HST2.out.call hb3)
    clear hb3
    go_wp2
    go_ret
    refine ⟨ret_str ?_, HST3.out.below⟩
    rw [HR.out, HS.out]
    unfold lenR
    rw [if_pos hl, bs_append, bs_append, bs_append, byt8_wrap2]
    congr 1
  · conv => arg 2; whnf
    go_wp2_with fail
    refine (c1.out _ _).mono ?_
    rintro e w1 ⟨rfl, hb1⟩
    have HST1 := hide (HST.out.call hb1)
    clear hb1
    go_wp2_with fail
    refine (c1.out _ _).mono ?_
    rintro e w2 ⟨rfl, hb2⟩
    have HST2 := hide (HST1.out.call hb2)
    clear hb2
    go_wp2
    go_ret
    refine ⟨ret_str ?_, HST2.out.below⟩
    rw [HR.out, HS.out]
    unfold lenR
    rw [if_neg hl, bs_append, bs_append, byt8_wrap2]
    congr 1
end Go.Proofs.YtnmfmoimjkoieaaGreatDoor.rfe

/- courantref.Bytes: CONNACK, PINGREQ, PINGRESP, DISCONNECT. -/
namespace Go.Proofs.YtnmfmoimjkoieaaGreatDoor.rfe
open Go.RowKit Go.Proofs.YtnmfmoimjkoieaaGreatDoor.topPlain Go.Proofs.YtnmfmoimjkoieaaGreatDoor.topWalks Go.Proofs.YtnmfmoimjkoieaaGreatDoor.decPlain Go.Proofs.YtnmfmoimjkoieaaGreatDoor.encPlain Go.Proofs.YtnmfmoimjkoieaaGreatDoor.ew
open Go.Proofs.YtnmfmoimjkoieaaGreatDoor.rd (pkCells fixedF)

set_option maxHeartbeats 3200000 in
set_option maxRecDepth 100000 in
theorem bytes2_any (p : Pkt) (fs : List (List UInt8 × Int)) (cs : List Int) (w : World) (hk : p.kind = 2) :
    Calls Tryz.prog 70 #[.agg (pkCells p)] w fun e w' => e = .returned (.string (bs (bytesR p fs cs))) ∧ Below w.heap.size w w' := by
  have c1 := hide fun n w => one_any n w
  have c2 := hide fun b n w => rbit_any b n w
  have hsz := fun l => bsz l
  obtain ⟨kind, clean, will, keep, client, present, code, dup, qos, retain, topic, payload, id, fv, cv⟩ := p
  simp only at hk
  subst hk
  generalize hG : bytesR _ fs cs = G
  have HG := hide hG
  clear hG
  simp only [pkCells]
  have HST := hide (St.new w (.cells #[.int .i64 2, .bool clean, .bool will, .int .i64 keep, .string (bs client), .bool present, .int .i64 code, .bool dup, .int .i64 qos, .bool retain, .string (bs topic), .string (bs payload), .int .i64 id, fv, cv] 36))
  have htw := fun n => twoR_len n
  have htx := fun l => txtR_len l
  go_enter Tryz.func70, Tryz.ntmps70
  go_wp2_with fail
  rename_i aK
  go_region_held3 (fun w' => w'.cell? ⟨w.heap.size, 0, none⟩ = some (.int .i64 2) ∧ w'.cell? ⟨w.heap.size, 1, none⟩ = some (.bool clean) ∧ w'.cell? ⟨w.heap.size, 2, none⟩ = some (.bool will) ∧ w'.cell? ⟨w.heap.size, 3, none⟩ = some (.int .i64 keep) ∧ w'.cell? ⟨w.heap.size, 4, none⟩ = some (.string (bs client)) ∧ w'.cell? ⟨w.heap.size, 5, none⟩ = some (.bool present) ∧ w'.cell? ⟨w.heap.size, 6, none⟩ = some (.int .i64 code) ∧ w'.cell? ⟨w.heap.size, 7, none⟩ = some (.bool dup) ∧ w'.cell? ⟨w.heap.size, 8, none⟩ = some (.int .i64 qos) ∧ w'.cell? ⟨w.heap.size, 9, none⟩ = some (.bool retain) ∧ w'.cell? ⟨w.heap.size, 10, none⟩ = some (.string (bs topic)) ∧ w'.cell? ⟨w.heap.size, 11, none⟩ = some (.string (bs payload)) ∧ w'.cell? ⟨w.heap.size, 12, none⟩ = some (.int .i64 id) ∧ w'.cell? ⟨w.heap.size, 13, none⟩ = some (fv) ∧ w'.cell? ⟨w.heap.size, 14, none⟩ = some (cv))
    (go_keep)
    (first
      | (go_at_call 98
         refine (c1.out _ _).mono ?_
         rintro e w5 ⟨rfl, hb5⟩
         first | have hst := HST.out.call hb5 | have hst := HST.out.drew.call hb5
         obtain ⟨y0, y1, y2, y3, y4, y5, y6, y7, y8, y9, y10, y11, y12, y13, y14⟩ := pk15 hst.blk
         have HST := hide hst
         clear hb5 hst)
      | (go_at_call 99
         refine (c2.out _ _ _).mono ?_
         rintro e w5 ⟨rfl, rfl⟩))
  refine aK _ _ ?_
  exact byt_end w _ 2 clean will keep client present code dup qos retain topic payload id fv cv 0 ([byt8 (bitI present 1)] ++ [byt8 code]) G _ (bs_append _ _) (by simp) (HG.out.symm) HST.out _ _ _ _ _ _ _ _ _ _ _ _ _ _ _ _ _ _ _ _ _ _ _ _ _ _ _ _ _ _ _ _ _ _ _ _ _ _ _ _ _ _ _ _ _ _ _ _ _ _ _ _ _ _ _ _ _ _ _ _ _ _ _ _ _ _ _ _ _ _ _ _ _ _ _ _ _ _ _ _ _ _ _ _ _ _ _ _ _ _ _ _ _ _ _ _ _ _ _ _ _ _ _ _ _ _ _ _ _ _ _ _ _ _ _ _ _ _ _ _ _ _ _ _ _ _ _ _ _ _ _ _ _ _ _ _ _ _ _ _ _ _ _ _ _ _ _ _ _ _ _ _ _ _ _ _ _ _ _ _ _ _ _ _ _ _ _ _ _ _ _ _ _ _ _ _ _ _ _

set_option maxHeartbeats 3200000 in
set_option maxRecDepth 100000 in
theorem bytes12_any (p : Pkt) (fs : List (List UInt8 × Int)) (cs : List Int) (w : World) (hk : p.kind = 12) :
    Calls Tryz.prog 70 #[.agg (pkCells p)] w fun e w' => e = .returned (.string (bs (bytesR p fs cs))) ∧ Below w.heap.size w w' := by
  have c1 := hide fun n w => one_any n w
  have c2 := hide fun b n w => rbit_any b n w
  have hsz := fun l => bsz l
  obtain ⟨kind, clean, will, keep, client, present, code, dup, qos, retain, topic, payload, id, fv, cv⟩ := p
  simp only at hk
  subst hk
  generalize hG : bytesR _ fs cs = G
  have HG := hide hG
  clear hG
  simp only [pkCells]
  have HST := hide (St.new w (.cells #[.int .i64 12, .bool clean, .bool will, .int .i64 keep, .string (bs client), .bool present, .int .i64 code, .bool dup, .int .i64 qos, .bool retain, .string (bs topic), .string (bs payload), .int .i64 id, fv, cv] 36))
  have htw := fun n => twoR_len n
  have htx := fun l => txtR_len l
  go_enter Tryz.func70, Tryz.ntmps70
  go_wp2_with fail
  refine (c1.out _ _).mono ?_
  rintro e w1 ⟨rfl, hb1⟩
  have HST1 := hide (HST.out.call hb1)
  clear hb1
  go_wp2_with fail
  refine (c1.out _ _).mono ?_
  rintro e w2 ⟨rfl, hb2⟩
  have HST2 := hide (HST1.out.call hb2)
  clear hb2
  go_wp2
  go_ret
  exact ⟨by rw [← HG.out]; rfl, HST2.out.below⟩

set_option maxHeartbeats 3200000 in
set_option maxRecDepth 100000 in
theorem bytes13_any (p : Pkt) (fs : List (List UInt8 × Int)) (cs : List Int) (w : World) (hk : p.kind = 13) :
    Calls Tryz.prog 70 #[.agg (pkCells p)] w fun e w' => e = .returned (.string (bs (bytesR p fs cs))) ∧ Below w.heap.size w w' := by
  have c1 := hide fun n w => one_any n w
  have c2 := hide fun b n w => rbit_any b n w
  have hsz := fun l => bsz l
  obtain ⟨kind, clean, will, keep, client, present, code, dup, qos, retain, topic, payload, id, fv, cv⟩ := p
  simp only at hk
  subst hk
  generalize hG : bytesR _ fs cs = G
  have HG := hide hG
  clear hG
  simp only [pkCells]
  have HST := hide (St.new w (.cells #[.int .i64 13, .bool clean, .bool will, .int .i64 keep, .string (bs client), .bool present, .int .i64 code, .bool dup, .int .i64 qos, .bool retain, .string (bs topic), .string (bs payload), .int .i64 id, fv, cv] 36))
  have htw := fun n => twoR_len n
  have htx := fun l => txtR_len l
  go_enter Tryz.func70, Tryz.ntmps70
  go_wp2_with fail
  refine (c1.out _ _).mono ?_
  rintro e w1 ⟨rfl, hb1⟩
  have HST1 := hide (HST.out.call hb1)
  clear hb1
  go_wp2_with fail
  refine (c1.out _ _).mono ?_
  rintro e w2 ⟨rfl, hb2⟩
  have HST2 := hide (HST1.out.call hb2)
  clear hb2
  go_wp2
  go_ret
  exact ⟨by rw [← HG.out]; rfl, HST2.out.below⟩

set_option maxHeartbeats 3200000 in
set_option maxRecDepth 100000 in
theorem bytes14_any (p : Pkt) (fs : List (List UInt8 × Int)) (cs : List Int) (w : World) (hk : p.kind = 14) :
    Calls Tryz.prog 70 #[.agg (pkCells p)] w fun e w' => e = .returned (.string (bs (bytesR p fs cs))) ∧ Below w.heap.size w w' := by
  have c1 := hide fun n w => one_any n w
  have c2 := hide fun b n w => rbit_any b n w
  have hsz := fun l => bsz l
  obtain ⟨kind, clean, will, keep, client, present, code, dup, qos, retain, topic, payload, id, fv, cv⟩ := p
  simp only at hk
  subst hk
  generalize hG : bytesR _ fs cs = G
  have HG := hide hG
  clear hG
  simp only [pkCells]
  have HST := hide (St.new w (.cells #[.int .i64 14, .bool clean, .bool will, .int .i64 keep, .string (bs client), .bool present, .int .i64 code, .bool dup, .int .i64 qos, .bool retain, .string (bs topic), .string (bs payload), .int .i64 id, fv, cv] 36))
  have htw := fun n => twoR_len n
  have htx := fun l => txtR_len l
  go_enter Tryz.func70, Tryz.ntmps70
  go_wp2_with fail
  refine (c1.out _ _).mono ?_
  rintro e w1 ⟨rfl, hb1⟩
  have HST1 := hide (HST.out.call hb1)
  clear hb1
  go_wp2_with fail
  refine (c1.out _ _).mono ?_
  rintro e w2 ⟨rfl, hb2⟩
  have HST2 := hide (HST1.out.call hb2)
  clear hb2
  go_wp2
  go_ret
  exact ⟨by rw [← HG.out]; rfl, HST2.out.below⟩
end Go.Proofs.YtnmfmoimjkoieaaGreatDoor.rfe

/- courantref.Bytes: CONNECT. -/
namespace Go.Proofs.YtnmfmoimjkoieaaGreatDoor.rfe
open Go.RowKit Go.Proofs.YtnmfmoimjkoieaaGreatDoor.topPlain Go.Proofs.YtnmfmoimjkoieaaGreatDoor.topWalks Go.Proofs.YtnmfmoimjkoieaaGreatDoor.decPlain Go.Proofs.YtnmfmoimjkoieaaGreatDoor.encPlain Go.Proofs.YtnmfmoimjkoieaaGreatDoor.ew
open Go.Proofs.YtnmfmoimjkoieaaGreatDoor.rd (pkCells fixedF)

theorem cb_wrap (a b q c : Int) : byt8 (wrap64 (wrap64 (wrap64 (a + b) + wrap64 (8 * q)) + c)) = byt8 (a + b + 8 * q + c) := by
  unfold byt8 wrap64
  congr 2
  omega
theorem str1 (a b q c : Int) (k l : List UInt8) : ({ data := #[0, 4, 77, 81, 84, 84, 4] } : ByteArray) ++ bs [byt8 (wrap64 (wrap64 (wrap64 (a + b) + wrap64 (8 * q)) + c))] ++ bs k ++ bs l = bs ([0, 4, 77, 81, 84, 84, 4] ++ [byt8 (a + b + 8 * q + c)] ++ k ++ l) := by
  rw [cb_wrap, ← bs_append, ← bs_append, ← bs_append]
  rfl

set_option maxHeartbeats 3200000 in
set_option maxRecDepth 100000 in
theorem bytes1f_any (p : Pkt) (fs : List (List UInt8 × Int)) (cs : List Int) (w : World) (hk : p.kind = 1) (hw : p.will = false) (h0 : -9223372036854775808 ≤ p.keep) (h1 : p.keep ≤ 9223372036854775807) (hl1 : p.client.length ≤ 1099511627776) (hl2 : p.topic.length ≤ 1099511627776) (hl3 : p.payload.length ≤ 1099511627776) :
    Calls Tryz.prog 70 #[.agg (pkCells p)] w fun e w' => e = .returned (.string (bs (bytesR p fs cs))) ∧ Below w.heap.size w w' := by
  have c1 := hide fun n w => one_any n w
  have c2 := hide fun b n w => rbit_any b n w
  have c3 := hide fun w => two_any p.keep w h0 h1
  have c4 := hide fun l w (hl : l.length ≤ 1099511627776) => text_any l w hl
  clear h0 h1
  have hsz := fun l => bsz l
  obtain ⟨kind, clean, will, keep, client, present, code, dup, qos, retain, topic, payload, id, fv, cv⟩ := p
  simp only at hk
  subst hk
  simp only at hw hl1 hl2 hl3 c3
  subst hw
  have hq : ¬ 9223372036854775807 < 10 + (2 + client.length) := by omega
  generalize hG : bytesR _ fs cs = G
  have HG := hide hG
  clear hG
  simp only [pkCells]
  have HST := hide (St.new w (.cells #[.int .i64 1, .bool clean, .bool false, .int .i64 keep, .string (bs client), .bool present, .int .i64 code, .bool dup, .int .i64 qos, .bool retain, .string (bs topic), .string (bs payload), .int .i64 id, fv, cv] 36))
  have htw := fun n => twoR_len n
  have htx := fun l => txtR_len l
  go_enter Tryz.func70, Tryz.ntmps70
  go_wp2_with fail
  rename_i aB KA aA
  have HK := hide aB
  clear aB
  go_region_held3 (fun w' => w'.cell? ⟨w.heap.size, 0, none⟩ = some (.int .i64 1) ∧ w'.cell? ⟨w.heap.size, 1, none⟩ = some (.bool clean) ∧ w'.cell? ⟨w.heap.size, 2, none⟩ = some (.bool false) ∧ w'.cell? ⟨w.heap.size, 3, none⟩ = some (.int .i64 keep) ∧ w'.cell? ⟨w.heap.size, 4, none⟩ = some (.string (bs client)) ∧ w'.cell? ⟨w.heap.size, 5, none⟩ = some (.bool present) ∧ w'.cell? ⟨w.heap.size, 6, none⟩ = some (.int .i64 code) ∧ w'.cell? ⟨w.heap.size, 7, none⟩ = some (.bool dup) ∧ w'.cell? ⟨w.heap.size, 8, none⟩ = some (.int .i64 qos) ∧ w'.cell? ⟨w.heap.size, 9, none⟩ = some (.bool retain) ∧ w'.cell? ⟨w.heap.size, 10, none⟩ = some (.string (bs topic)) ∧ w'.cell? ⟨w.heap.size, 11, none⟩ = some (.string (bs payload)) ∧ w'.cell? ⟨w.heap.size, 12, none⟩ = some (.int .i64 id) ∧ w'.cell? ⟨w.heap.size, 13, none⟩ = some (fv) ∧ w'.cell? ⟨w.heap.size, 14, none⟩ = some (cv))
    (go_keep)
    (first
      | (go_at_call 98
         refine (c1.out _ _).mono ?_
         rintro e w5 ⟨rfl, hb5⟩
         first | have hst := HST.out.call hb5 | have hst := HST.out.drew.call hb5
         obtain ⟨y0, y1, y2, y3, y4, y5, y6, y7, y8, y9, y10, y11, y12, y13, y14⟩ := pk15 hst.blk
         have HST := hide hst
         clear hb5 hst)
      | (go_at_call 99
         refine (c2.out _ _ _).mono ?_
         rintro e w5 ⟨rfl, rfl⟩)
      | (go_at_call 100
         refine (c3.out _).mono ?_
         rintro e w5 ⟨rfl, hb5⟩
         first | have hst := HST.out.call hb5 | have hst := HST.out.drew.call hb5
         obtain ⟨y0, y1, y2, y3, y4, y5, y6, y7, y8, y9, y10, y11, y12, y13, y14⟩ := pk15 hst.blk
         have HST := hide hst
         clear hb5 hst)
      | (go_at_call 101
         refine (c4.out _ _ (by assumption)).mono ?_
         rintro e w5 ⟨rfl, hb5⟩
         first | have hst := HST.out.call hb5 | have hst := HST.out.drew.call hb5
         obtain ⟨y0, y1, y2, y3, y4, y5, y6, y7, y8, y9, y10, y11, y12, y13, y14⟩ := pk15 hst.blk
         have HST := hide hst
         clear hb5 hst))
  refine aA _ _ ?_
  go_wp2_with fail
  refine HK.out _ _ ?_
  exact byt_end w _ 1 clean false keep client present code dup qos retain topic payload id fv cv 0 ([0, 4, 77, 81, 84, 84, 4] ++ [cbR ⟨1, clean, false, keep, client, present, code, dup, qos, retain, topic, payload, id, fv, cv⟩] ++ twoR keep ++ txtR client ++ []) G _ (by (try simp only [i64w]); rw [str1, List.append_nil]; rfl) (by simp [htw, htx]; omega) (HG.out.symm) HST.out _ _ _ _ _ _ _ _ _ _ _ _ _ _ _ _ _ _ _ _ _ _ _ _ _ _ _ _ _ _ _ _ _ _ _ _ _ _ _ _ _ _ _ _ _ _ _ _ _ _ _ _ _ _ _ _ _ _ _ _ _ _ _ _ _ _ _ _ _ _ _ _ _ _ _ _ _ _ _ _ _ _ _ _ _ _ _ _ _ _ _ _ _ _ _ _ _ _ _ _ _ _ _ _ _ _ _ _ _ _ _ _ _ _ _ _ _ _ _ _ _ _ _ _ _ _ _ _ _ _ _ _ _ _ _ _ _ _ _ _ _ _ _ _ _ _ _ _ _ _ _ _ _ _ _ _ _ _ _ _ _ _ _ _ _ _ _ _ _ _ _ _ _ _ _ _ _ _ _

set_option maxHeartbeats 3200000 in
set_option maxRecDepth 100000 in
theorem bytes1t_any (p : Pkt) (fs : List (List UInt8 × Int)) (cs : List Int) (w : World) (hk : p.kind = 1) (hw : p.will = true) (h0 : -9223372036854775808 ≤ p.keep) (h1 : p.keep ≤ 9223372036854775807) (hl1 : p.client.length ≤ 1099511627776) (hl2 : p.topic.length ≤ 1099511627776) (hl3 : p.payload.length ≤ 1099511627776) :
    Calls Tryz.prog 70 #[.agg (pkCells p)] w fun e w' => e = .returned (.string (bs (bytesR p fs cs))) ∧ Below w.heap.size w w' := by
  have c1 := hide fun n w => one_any n w
  have c2 := hide fun b n w => rbit_any b n w
  have c3 := hide fun w => two_any p.keep w h0 h1
  have c4 := hide fun l w (hl : l.length ≤ 1099511627776) => text_any l w hl
  clear h0 h1
  have hsz := fun l => bsz l
  obtain ⟨kind, clean, will, keep, client, present, code, dup, qos, retain, topic, payload, id, fv, cv⟩ := p
  simp only at hk
  subst hk
  simp only at hw hl1 hl2 hl3 c3
  subst hw
  have hq : ¬ 9223372036854775807 < 10 + (2 + client.length) := by omega
  have hq2 : ¬ 9223372036854775807 < 10 + (2 + client.length) + (2 + topic.length) := by omega
  have hq3 : ¬ 9223372036854775807 < 10 + (2 + client.length) + (2 + topic.length) + (2 + payload.length) := by omega
  generalize hG : bytesR _ fs cs = G
  have HG := hide hG
  clear hG
  simp only [pkCells]
  have HST := hide (St.new w (.cells #[.int .i64 1, .bool clean, .bool true, .int .i64 keep, .string (bs client), .bool present, .int .i64 code, .bool dup, .int .i64 qos, .bool retain, .string (bs topic), .string (bs payload), .int .i64 id, fv, cv] 36))
  have htw := fun n => twoR_len n
  have htx := fun l => txtR_len l
  go_enter Tryz.func70, Tryz.ntmps70
  go_wp2_with fail
  rename_i aB KA aA
  have HK := hide aB
  clear aB
  go_region_held3 (fun w' => w'.cell? ⟨w.heap.size, 0, none⟩ = some (.int .i64 1) ∧ w'.cell? ⟨w.heap.size, 1, none⟩ = some (.bool clean) ∧ w'.cell? ⟨w.heap.size, 2, none⟩ = some (.bool true) ∧ w'.cell? ⟨w.heap.size, 3, none⟩ = some (.int .i64 keep) ∧ w'.cell? ⟨w.heap.size, 4, none⟩ = some (.string (bs client)) ∧ w'.cell? ⟨w.heap.size, 5, none⟩ = some (.bool present) ∧ w'.cell? ⟨w.heap.size, 6, none⟩ = some (.int .i64 code) ∧ w'.cell? ⟨w.heap.size, 7, none⟩ = some (.bool dup) ∧ w'.cell? ⟨w.heap.size, 8, none⟩ = some (.int .i64 qos) ∧ w'.cell? ⟨w.heap.size, 9, none⟩ = some (.bool retain) ∧ w'.cell? ⟨w.heap.size, 10, none⟩ = some (.string (bs topic)) ∧ w'.cell? ⟨w.heap.size, 11, none⟩ = some (.string (bs payload)) ∧ w'.cell? ⟨w.heap.size, 12, none⟩ = some (.int .i64 id) ∧ w'.cell? ⟨w.heap.size, 13, none⟩ = some (fv) ∧ w'.cell? ⟨w.heap.size, 14, none⟩ = some (cv))
    (go_keep)
    (first
      | (go_at_call 98
         refine (c1.out _ _).mono ?_
         rintro e w5 ⟨rfl, hb5⟩
         first | have hst := HST.out.call hb5 | have hst := HST.out.drew.call hb5
         obtain ⟨y0, y1, y2, y3, y4, y5, y6, y7, y8, y9, y10, y11, y12, y13, y14⟩ := pk15 hst.blk
         have HST := hide hst
         clear hb5 hst)
      | (go_at_call 99
         refine (c2.out _ _ _).mono ?_
         rintro e w5 ⟨rfl, rfl⟩)
      | (go_at_call 100
         refine (c3.out _).mono ?_
         rintro e w5 ⟨rfl, hb5⟩
         first | have hst := HST.out.call hb5 | have hst := HST.out.drew.call hb5
         obtain ⟨y0, y1, y2, y3, y4, y5, y6, y7, y8, y9, y10, y11, y12, y13, y14⟩ := pk15 hst.blk
         have HST := hide hst
         clear hb5 hst)
      | (go_at_call 101
         refine (c4.out _ _ (by assumption)).mono ?_
         rintro e w5 ⟨rfl, hb5⟩
         first | have hst := HST.out.call hb5 | have hst := HST.out.drew.call hb5
         obtain ⟨y0, y1, y2, y3, y4, y5, y6, y7, y8, y9, y10, y11, y12, y13, y14⟩ := pk15 hst.blk
         have HST := hide hst
         clear hb5 hst))
  refine aA _ _ ?_
  go_wp2_with fail
  go_region_held3 (fun w' => w'.cell? ⟨w.heap.size, 0, none⟩ = some (.int .i64 1) ∧ w'.cell? ⟨w.heap.size, 1, none⟩ = some (.bool clean) ∧ w'.cell? ⟨w.heap.size, 2, none⟩ = some (.bool true) ∧ w'.cell? ⟨w.heap.size, 3, none⟩ = some (.int .i64 keep) ∧ w'.cell? ⟨w.heap.size, 4, none⟩ = some (.string (bs client)) ∧ w'.cell? ⟨w.heap.size, 5, none⟩ = some (.bool present) ∧ w'.cell? ⟨w.heap.size, 6, none⟩ = some (.int .i64 code) ∧ w'.cell? ⟨w.heap.size, 7, none⟩ = some (.bool dup) ∧ w'.cell? ⟨w.heap.size, 8, none⟩ = some (.int .i64 qos) ∧ w'.cell? ⟨w.heap.size, 9, none⟩ = some (.bool retain) ∧ w'.cell? ⟨w.heap.size, 10, none⟩ = some (.string (bs topic)) ∧ w'.cell? ⟨w.heap.size, 11, none⟩ = some (.string (bs payload)) ∧ w'.cell? ⟨w.heap.size, 12, none⟩ = some (.int .i64 id) ∧ w'.cell? ⟨w.heap.size, 13, none⟩ = some (fv) ∧ w'.cell? ⟨w.heap.size, 14, none⟩ = some (cv))
    (go_keep)
    (first
      | (go_at_call 101
         refine (c4.out _ _ (by assumption)).mono ?_
         rintro e w5 ⟨rfl, hb5⟩
         first | have hst := HST.out.call hb5 | have hst := HST.out.drew.call hb5
         obtain ⟨y0, y1, y2, y3, y4, y5, y6, y7, y8, y9, y10, y11, y12, y13, y14⟩ := pk15 hst.blk
         have HST := hide hst
         clear hb5 hst))
  refine HK.out _ _ ?_
  exact byt_end w _ 1 clean true keep client present code dup qos retain topic payload id fv cv 0 ([0, 4, 77, 81, 84, 84, 4] ++ [cbR ⟨1, clean, true, keep, client, present, code, dup, qos, retain, topic, payload, id, fv, cv⟩] ++ twoR keep ++ txtR client ++ (txtR topic ++ txtR payload)) G _ (by (try simp only [i64w]); rw [str1, bs_append, bs_append, List.append_assoc]; rfl) (by simp [htw, htx]; omega) (HG.out.symm) HST.out _ _ _ _ _ _ _ _ _ _ _ _ _ _ _ _ _ _ _ _ _ _ _ _ _ _ _ _ _ _ _ _ _ _ _ _ _ _ _ _ _ _ _ _ _ _ _ _ _ _ _ _ _ _ _ _ _ _ _ _ _ _ _ _ _ _ _ _ _ _ _ _ _ _ _ _ _ _ _ _ _ _ _ _ _ _ _ _ _ _ _ _ _ _ _ _ _ _ _ _ _ _ _ _ _ _ _ _ _ _ _ _ _ _ _ _ _ _ _ _ _ _ _ _ _ _ _ _ _ _ _ _ _ _ _ _ _ _ _ _ _ _ _ _ _ _ _ _ _ _ _ _ _ _ _ _ _ _ _ _ _ _ _ _ _ _ _ _ _ _ _ _ _ _ _ _ _ _ _

end Go.Proofs.YtnmfmoimjkoieaaGreatDoor.rfe
