import Derived.Test.YtnmfmoimjkoieaaGreatDoorJ40
/- courantref.Decode's code, cut: the length, and what is not whole. -/
namespace Go.Proofs.YtnmfmoimjkoieaaGreatDoor.rf
open Go.RowKit Go.Proofs.YtnmfmoimjkoieaaGreatDoor.topPlain Go.Proofs.YtnmfmoimjkoieaaGreatDoor.topWalks Go.Proofs.YtnmfmoimjkoieaaGreatDoor.decPlain Go.Proofs.YtnmfmoimjkoieaaGreatDoor.rd

set_option maxHeartbeats 3200000 in
set_option maxRecDepth 100000 in
theorem mid_one (s : ByteArray) (w : World) (p : Pkt) (hfv : p.fv = .slice none 0 0) (hcv : p.cv = .slice none 0 0) (h0 : 0 < s.size) (hs1 : ((s.size : Int) == 1) = true) (R : Bool ⊕ ((Pkt × List (List UInt8 × Int) × List Int) × Nat)) (hR : R = .inl true) (u1 u3 u4 u7 u8 u9 u10 u11 u12 u13 u14 u15 u16 u17 u18 u19 u20 u21 u22 u23 u24 u25 u26 u27 u28 u29 u30 u31 u32 u33 u34 u35 u36 u37 u38 u39 u40 u41 u42 u43 u44 u45 u46 u47 u48 u49 u50 u51 u52 u53 u54 u55 u56 u57 u58 u59 u60 u61 u62 u63 u64 u65 u66 u67 u68 u69 u70 u71 u72 u73 u74 u75 u76 u77 u78 u79 u80 u81 u82 u83 u84 u85 u86 u87 u88 u89 u90 u91 u92 u93 u94 u95 u96 u97 u98 u99 u100 u101 u102 u103 u104 u105 u106 u107 u108 u109 u110 u111 u112 u113 u114 u115 u116 u117 u118 u119 u120 u121 u122 u123 u124 u125 u126 u127 u128 u129 u130 u131 u132 u133 u134 u135 u136 u137 u138 u139 u140 u141 : Value) :
    Code.wp Tryz.prog (dropSeq 9 (Tryz.f33.body.getD .skip)) (bodyPost Tryz.prog Tryz.f33 (CdPost w R)) ⟨#[.string s, u1, .pointer (some ⟨w.heap.size, 0, none⟩), u3, u4, .pointer (some ⟨w.heap.size + 1, 0, none⟩), .pointer (some ⟨w.heap.size + 1 + 1, 0, none⟩), u7, u8, u9, u10, u11, u12, u13, u14, u15, u16, u17, u18, u19, u20, u21, u22, u23, u24, u25, u26, u27, u28, u29, u30, u31, u32, u33, u34, u35, u36, u37, u38, u39, u40, u41, u42, u43, u44, u45, u46, u47, u48, u49, u50, u51, u52, u53, u54, u55, u56, u57, u58, u59, u60, u61, u62, u63, u64, u65, u66, u67, u68, u69, u70, u71, u72, u73, u74, u75, u76, u77, u78, u79, u80, u81, u82, u83, u84, u85, u86, u87, u88, u89, u90, u91, u92, u93, u94, u95, u96, u97, u98, u99, u100, u101, u102, u103, u104, u105, u106, u107, u108, u109, u110, u111, u112, u113, u114, u115, u116, u117, u118, u119, u120, u121, u122, u123, u124, u125, u126, u127, u128, u129, u130, u131, u132, u133, u134, u135, u136, u137, u138, u139, u140, u141], []⟩ (((w.alloc (.cells (pkCells zeroP) 36)).alloc (.cells (pkCells zeroP) 36)).alloc (.cells (pkCells p) 36)) := by
  have _ := h0
  have HR := hide hR
  clear hR
  obtain ⟨kind, clean, will, keep, client, present, code, dup, qos, retain, topic, payload, id, fv, cv⟩ := p
  obtain rfl := hfv
  obtain rfl := hcv
  simp only [pkCells, zeroP]
  conv => arg 2; whnf
  go_wp2_with fail
  refine bodyPost_ret (results_dd_zero _ _ w.heap.size rfl (heap_three _ _ _ _)) rfl ?_
  rw [HR.out]
  refine ⟨?_, rfl⟩
  exact (((Below.refl _ _).alloc (Nat.le_refl _) _).alloc (by simp) _).alloc (by simp; omega) _

set_option maxHeartbeats 3200000 in
set_option maxRecDepth 100000 in
theorem mid_short1 (s : ByteArray) (w : World) (p : Pkt) (hfv : p.fv = .slice none 0 0) (hcv : p.cv = .slice none 0 0) (h0 : 0 < s.size) (y : UInt8) (h1 : 1 < s.size) (hy : s[1]'h1 = y) (hn : ¬ (127 : Int) < (y.toNat : Int)) (hsh : (s.size : Int) < 2 + (y.toNat : Int)) (R : Bool ⊕ ((Pkt × List (List UInt8 × Int) × List Int) × Nat)) (hR : R = .inl true) (u1 u3 u4 u7 u8 u9 u10 u11 u12 u13 u14 u15 u16 u17 u18 u19 u20 u21 u22 u23 u24 u25 u26 u27 u28 u29 u30 u31 u32 u33 u34 u35 u36 u37 u38 u39 u40 u41 u42 u43 u44 u45 u46 u47 u48 u49 u50 u51 u52 u53 u54 u55 u56 u57 u58 u59 u60 u61 u62 u63 u64 u65 u66 u67 u68 u69 u70 u71 u72 u73 u74 u75 u76 u77 u78 u79 u80 u81 u82 u83 u84 u85 u86 u87 u88 u89 u90 u91 u92 u93 u94 u95 u96 u97 u98 u99 u100 u101 u102 u103 u104 u105 u106 u107 u108 u109 u110 u111 u112 u113 u114 u115 u116 u117 u118 u119 u120 u121 u122 u123 u124 u125 u126 u127 u128 u129 u130 u131 u132 u133 u134 u135 u136 u137 u138 u139 u140 u141 : Value) :
    Code.wp Tryz.prog (dropSeq 9 (Tryz.f33.body.getD .skip)) (bodyPost Tryz.prog Tryz.f33 (CdPost w R)) ⟨#[.string s, u1, .pointer (some ⟨w.heap.size, 0, none⟩), u3, u4, .pointer (some ⟨w.heap.size + 1, 0, none⟩), .pointer (some ⟨w.heap.size + 1 + 1, 0, none⟩), u7, u8, u9, u10, u11, u12, u13, u14, u15, u16, u17, u18, u19, u20, u21, u22, u23, u24, u25, u26, u27, u28, u29, u30, u31, u32, u33, u34, u35, u36, u37, u38, u39, u40, u41, u42, u43, u44, u45, u46, u47, u48, u49, u50, u51, u52, u53, u54, u55, u56, u57, u58, u59, u60, u61, u62, u63, u64, u65, u66, u67, u68, u69, u70, u71, u72, u73, u74, u75, u76, u77, u78, u79, u80, u81, u82, u83, u84, u85, u86, u87, u88, u89, u90, u91, u92, u93, u94, u95, u96, u97, u98, u99, u100, u101, u102, u103, u104, u105, u106, u107, u108, u109, u110, u111, u112, u113, u114, u115, u116, u117, u118, u119, u120, u121, u122, u123, u124, u125, u126, u127, u128, u129, u130, u131, u132, u133, u134, u135, u136, u137, u138, u139, u140, u141], []⟩ (((w.alloc (.cells (pkCells zeroP) 36)).alloc (.cells (pkCells zeroP) 36)).alloc (.cells (pkCells p) 36)) := by
  have _ := h0
  have HR := hide hR
  clear hR
  have hs1 : ((s.size : Int) == 1) = false := beq_eq_false_iff_ne.2 (by omega)
  have hyl := y.toNat_lt
  obtain ⟨kind, clean, will, keep, client, present, code, dup, qos, retain, topic, payload, id, fv, cv⟩ := p
  obtain rfl := hfv
  obtain rfl := hcv
  simp only [pkCells, zeroP]
  conv => arg 2; whnf
  go_wp2_with fail
  refine bodyPost_ret (results_dd_zero _ _ w.heap.size rfl (heap_three _ _ _ _)) rfl ?_
  rw [HR.out]
  refine ⟨?_, rfl⟩
  exact (((Below.refl _ _).alloc (Nat.le_refl _) _).alloc (by simp) _).alloc (by simp; omega) _

set_option maxHeartbeats 3200000 in
set_option maxRecDepth 100000 in
theorem mid_two (s : ByteArray) (w : World) (p : Pkt) (hfv : p.fv = .slice none 0 0) (hcv : p.cv = .slice none 0 0) (h0 : 0 < s.size) (y : UInt8) (h1 : 1 < s.size) (hy : s[1]'h1 = y) (hn : (127 : Int) < (y.toNat : Int)) (hs2 : ((s.size : Int) == 2) = true) (R : Bool ⊕ ((Pkt × List (List UInt8 × Int) × List Int) × Nat)) (hR : R = .inl true) (u1 u3 u4 u7 u8 u9 u10 u11 u12 u13 u14 u15 u16 u17 u18 u19 u20 u21 u22 u23 u24 u25 u26 u27 u28 u29 u30 u31 u32 u33 u34 u35 u36 u37 u38 u39 u40 u41 u42 u43 u44 u45 u46 u47 u48 u49 u50 u51 u52 u53 u54 u55 u56 u57 u58 u59 u60 u61 u62 u63 u64 u65 u66 u67 u68 u69 u70 u71 u72 u73 u74 u75 u76 u77 u78 u79 u80 u81 u82 u83 u84 u85 u86 u87 u88 u89 u90 u91 u92 u93 u94 u95 u96 u97 u98 u99 u100 u101 u102 u103 u104 u105 u106 u107 u108 u109 u110 u111 u112 u113 u114 u115 u116 u117 u118 u119 u120 u121 u122 u123 u124 u125 u126 u127 u128 u129 u130 u131 u132 u133 u134 u135 u136 u137 u138 u139 u140 u141 : Value) :
    Code.wp Tryz.prog (dropSeq 9 (Tryz.f33.body.getD .skip)) (bodyPost Tryz.prog Tryz.f33 (CdPost w R)) ⟨#[.string s, u1, .pointer (some ⟨w.heap.size, 0, none⟩), u3, u4, .pointer (some ⟨w.heap.size + 1, 0, none⟩), .pointer (some ⟨w.heap.size + 1 + 1, 0, none⟩), u7, u8, u9, u10, u11, u12, u13, u14, u15, u16, u17, u18, u19, u20, u21, u22, u23, u24, u25, u26, u27, u28, u29, u30, u31, u32, u33, u34, u35, u36, u37, u38, u39, u40, u41, u42, u43, u44, u45, u46, u47, u48, u49, u50, u51, u52, u53, u54, u55, u56, u57, u58, u59, u60, u61, u62, u63, u64, u65, u66, u67, u68, u69, u70, u71, u72, u73, u74, u75, u76, u77, u78, u79, u80, u81, u82, u83, u84, u85, u86, u87, u88, u89, u90, u91, u92, u93, u94, u95, u96, u97, u98, u99, u100, u101, u102, u103, u104, u105, u106, u107, u108, u109, u110, u111, u112, u113, u114, u115, u116, u117, u118, u119, u120, u121, u122, u123, u124, u125, u126, u127, u128, u129, u130, u131, u132, u133, u134, u135, u136, u137, u138, u139, u140, u141], []⟩ (((w.alloc (.cells (pkCells zeroP) 36)).alloc (.cells (pkCells zeroP) 36)).alloc (.cells (pkCells p) 36)) := by
  have _ := h0
  have HR := hide hR
  clear hR
  have hs1 : ((s.size : Int) == 1) = false := beq_eq_false_iff_ne.2 (by omega)
  have hyl := y.toNat_lt
  obtain ⟨kind, clean, will, keep, client, present, code, dup, qos, retain, topic, payload, id, fv, cv⟩ := p
  obtain rfl := hfv
  obtain rfl := hcv
  simp only [pkCells, zeroP]
  conv => arg 2; whnf
  go_wp2_with fail
  refine bodyPost_ret (results_dd_zero _ _ w.heap.size rfl (heap_three _ _ _ _)) rfl ?_
  rw [HR.out]
  refine ⟨?_, rfl⟩
  exact (((Below.refl _ _).alloc (Nat.le_refl _) _).alloc (by simp) _).alloc (by simp; omega) _

set_option maxHeartbeats 3200000 in
set_option maxRecDepth 100000 in
theorem mid_len0 (s : ByteArray) (w : World) (p : Pkt) (hfv : p.fv = .slice none 0 0) (hcv : p.cv = .slice none 0 0) (h0 : 0 < s.size) (y : UInt8) (h1 : 1 < s.size) (hy : s[1]'h1 = y) (z : UInt8) (h2 : 2 < s.size) (hz : s[2]'h2 = z) (M : Nat) (hM : (y.toNat : Int) - 128 + 128 * (z.toNat : Int) = (M : Int)) (hn : (127 : Int) < (y.toNat : Int)) (hz0 : ((z.toNat : Int) == 0) = true) (R : Bool ⊕ ((Pkt × List (List UInt8 × Int) × List Int) × Nat)) (hR : R = .inl false) (u1 u3 u4 u7 u8 u9 u10 u11 u12 u13 u14 u15 u16 u17 u18 u19 u20 u21 u22 u23 u24 u25 u26 u27 u28 u29 u30 u31 u32 u33 u34 u35 u36 u37 u38 u39 u40 u41 u42 u43 u44 u45 u46 u47 u48 u49 u50 u51 u52 u53 u54 u55 u56 u57 u58 u59 u60 u61 u62 u63 u64 u65 u66 u67 u68 u69 u70 u71 u72 u73 u74 u75 u76 u77 u78 u79 u80 u81 u82 u83 u84 u85 u86 u87 u88 u89 u90 u91 u92 u93 u94 u95 u96 u97 u98 u99 u100 u101 u102 u103 u104 u105 u106 u107 u108 u109 u110 u111 u112 u113 u114 u115 u116 u117 u118 u119 u120 u121 u122 u123 u124 u125 u126 u127 u128 u129 u130 u131 u132 u133 u134 u135 u136 u137 u138 u139 u140 u141 : Value) :
    Code.wp Tryz.prog (dropSeq 9 (Tryz.f33.body.getD .skip)) (bodyPost Tryz.prog Tryz.f33 (CdPost w R)) ⟨#[.string s, u1, .pointer (some ⟨w.heap.size, 0, none⟩), u3, u4, .pointer (some ⟨w.heap.size + 1, 0, none⟩), .pointer (some ⟨w.heap.size + 1 + 1, 0, none⟩), u7, u8, u9, u10, u11, u12, u13, u14, u15, u16, u17, u18, u19, u20, u21, u22, u23, u24, u25, u26, u27, u28, u29, u30, u31, u32, u33, u34, u35, u36, u37, u38, u39, u40, u41, u42, u43, u44, u45, u46, u47, u48, u49, u50, u51, u52, u53, u54, u55, u56, u57, u58, u59, u60, u61, u62, u63, u64, u65, u66, u67, u68, u69, u70, u71, u72, u73, u74, u75, u76, u77, u78, u79, u80, u81, u82, u83, u84, u85, u86, u87, u88, u89, u90, u91, u92, u93, u94, u95, u96, u97, u98, u99, u100, u101, u102, u103, u104, u105, u106, u107, u108, u109, u110, u111, u112, u113, u114, u115, u116, u117, u118, u119, u120, u121, u122, u123, u124, u125, u126, u127, u128, u129, u130, u131, u132, u133, u134, u135, u136, u137, u138, u139, u140, u141], []⟩ (((w.alloc (.cells (pkCells zeroP) 36)).alloc (.cells (pkCells zeroP) 36)).alloc (.cells (pkCells p) 36)) := by
  have _ := h0
  have HR := hide hR
  clear hR
  have hs1 : ((s.size : Int) == 1) = false := beq_eq_false_iff_ne.2 (by omega)
  have hyl := y.toNat_lt
  have hs2 : ((s.size : Int) == 2) = false := beq_eq_false_iff_ne.2 (by omega)
  have hzl := z.toNat_lt
  obtain ⟨kind, clean, will, keep, client, present, code, dup, qos, retain, topic, payload, id, fv, cv⟩ := p
  obtain rfl := hfv
  obtain rfl := hcv
  simp only [pkCells, zeroP]
  conv => arg 2; whnf
  go_wp2_with fail
  refine bodyPost_ret (results_dd_zero _ _ w.heap.size rfl (heap_three _ _ _ _)) rfl ?_
  rw [HR.out]
  refine ⟨?_, rfl⟩
  exact (((Below.refl _ _).alloc (Nat.le_refl _) _).alloc (by simp) _).alloc (by simp; omega) _

set_option maxHeartbeats 3200000 in
set_option maxRecDepth 100000 in
theorem mid_len1 (s : ByteArray) (w : World) (p : Pkt) (hfv : p.fv = .slice none 0 0) (hcv : p.cv = .slice none 0 0) (h0 : 0 < s.size) (y : UInt8) (h1 : 1 < s.size) (hy : s[1]'h1 = y) (z : UInt8) (h2 : 2 < s.size) (hz : s[2]'h2 = z) (M : Nat) (hM : (y.toNat : Int) - 128 + 128 * (z.toNat : Int) = (M : Int)) (hn : (127 : Int) < (y.toNat : Int)) (hz0 : ((z.toNat : Int) == 0) = false) (hz1 : (127 : Int) < (z.toNat : Int)) (R : Bool ⊕ ((Pkt × List (List UInt8 × Int) × List Int) × Nat)) (hR : R = .inl false) (u1 u3 u4 u7 u8 u9 u10 u11 u12 u13 u14 u15 u16 u17 u18 u19 u20 u21 u22 u23 u24 u25 u26 u27 u28 u29 u30 u31 u32 u33 u34 u35 u36 u37 u38 u39 u40 u41 u42 u43 u44 u45 u46 u47 u48 u49 u50 u51 u52 u53 u54 u55 u56 u57 u58 u59 u60 u61 u62 u63 u64 u65 u66 u67 u68 u69 u70 u71 u72 u73 u74 u75 u76 u77 u78 u79 u80 u81 u82 u83 u84 u85 u86 u87 u88 u89 u90 u91 u92 u93 u94 u95 u96 u97 u98 u99 u100 u101 u102 u103 u104 u105 u106 u107 u108 u109 u110 u111 u112 u113 u114 u115 u116 u117 u118 u119 u120 u121 u122 u123 u124 u125 u126 u127 u128 u129 u130 u131 u132 u133 u134 u135 u136 u137 u138 u139 u140 u141 : Value) :
    Code.wp Tryz.prog (dropSeq 9 (Tryz.f33.body.getD .skip)) (bodyPost Tryz.prog Tryz.f33 (CdPost w R)) ⟨#[.string s, u1, .pointer (some ⟨w.heap.size, 0, none⟩), u3, u4, .pointer (some ⟨w.heap.size + 1, 0, none⟩), .pointer (some ⟨w.heap.size + 1 + 1, 0, none⟩), u7, u8, u9, u10, u11, u12, u13, u14, u15, u16, u17, u18, u19, u20, u21, u22, u23, u24, u25, u26, u27, u28, u29, u30, u31, u32, u33, u34, u35, u36, u37, u38, u39, u40, u41, u42, u43, u44, u45, u46, u47, u48, u49, u50, u51, u52, u53, u54, u55, u56, u57, u58, u59, u60, u61, u62, u63, u64, u65, u66, u67, u68, u69, u70, u71, u72, u73, u74, u75, u76, u77, u78, u79, u80, u81, u82, u83, u84, u85, u86, u87, u88, u89, u90, u91, u92, u93, u94, u95, u96, u97, u98, u99, u100, u101, u102, u103, u104, u105, u106, u107, u108, u109, u110, u111, u112, u113, u114, u115, u116, u117, u118, u119, u120, u121, u122, u123, u124, u125, u126, u127, u128, u129, u130, u131, u132, u133, u134, u135, u136, u137, u138, u139, u140, u141], []⟩ (((w.alloc (.cells (pkCells zeroP) 36)).alloc (.cells (pkCells zeroP) 36)).alloc (.cells (pkCells p) 36)) := by
  have _ := h0
  have HR := hide hR
  clear hR
  have hs1 : ((s.size : Int) == 1) = false := beq_eq_false_iff_ne.2 (by omega)
  have hyl := y.toNat_lt
  have hs2 : ((s.size : Int) == 2) = false := beq_eq_false_iff_ne.2 (by omega)
  have hzl := z.toNat_lt
  obtain ⟨kind, clean, will, keep, client, present, code, dup, qos, retain, topic, payload, id, fv, cv⟩ := p
  obtain rfl := hfv
  obtain rfl := hcv
  simp only [pkCells, zeroP]
  conv => arg 2; whnf
  go_wp2_with fail
  refine bodyPost_ret (results_dd_zero _ _ w.heap.size rfl (heap_three _ _ _ _)) rfl ?_
  rw [HR.out]
  refine ⟨?_, rfl⟩
  exact (((Below.refl _ _).alloc (Nat.le_refl _) _).alloc (by simp) _).alloc (by simp; omega) _

set_option maxHeartbeats 3200000 in
set_option maxRecDepth 100000 in
theorem mid_len2 (s : ByteArray) (w : World) (p : Pkt) (hfv : p.fv = .slice none 0 0) (hcv : p.cv = .slice none 0 0) (h0 : 0 < s.size) (y : UInt8) (h1 : 1 < s.size) (hy : s[1]'h1 = y) (z : UInt8) (h2 : 2 < s.size) (hz : s[2]'h2 = z) (M : Nat) (hM : (y.toNat : Int) - 128 + 128 * (z.toNat : Int) = (M : Int)) (hn : (127 : Int) < (y.toNat : Int)) (hz0 : ((z.toNat : Int) == 0) = false) (hz1 : ¬ (127 : Int) < (z.toNat : Int)) (hM3 : (300 : Int) < (M : Int)) (R : Bool ⊕ ((Pkt × List (List UInt8 × Int) × List Int) × Nat)) (hR : R = .inl false) (u1 u3 u4 u7 u8 u9 u10 u11 u12 u13 u14 u15 u16 u17 u18 u19 u20 u21 u22 u23 u24 u25 u26 u27 u28 u29 u30 u31 u32 u33 u34 u35 u36 u37 u38 u39 u40 u41 u42 u43 u44 u45 u46 u47 u48 u49 u50 u51 u52 u53 u54 u55 u56 u57 u58 u59 u60 u61 u62 u63 u64 u65 u66 u67 u68 u69 u70 u71 u72 u73 u74 u75 u76 u77 u78 u79 u80 u81 u82 u83 u84 u85 u86 u87 u88 u89 u90 u91 u92 u93 u94 u95 u96 u97 u98 u99 u100 u101 u102 u103 u104 u105 u106 u107 u108 u109 u110 u111 u112 u113 u114 u115 u116 u117 u118 u119 u120 u121 u122 u123 u124 u125 u126 u127 u128 u129 u130 u131 u132 u133 u134 u135 u136 u137 u138 u139 u140 u141 : Value) :
    Code.wp Tryz.prog (dropSeq 9 (Tryz.f33.body.getD .skip)) (bodyPost Tryz.prog Tryz.f33 (CdPost w R)) ⟨#[.string s, u1, .pointer (some ⟨w.heap.size, 0, none⟩), u3, u4, .pointer (some ⟨w.heap.size + 1, 0, none⟩), .pointer (some ⟨w.heap.size + 1 + 1, 0, none⟩), u7, u8, u9, u10, u11, u12, u13, u14, u15, u16, u17, u18, u19, u20, u21, u22, u23, u24, u25, u26, u27, u28, u29, u30, u31, u32, u33, u34, u35, u36, u37, u38, u39, u40, u41, u42, u43, u44, u45, u46, u47, u48, u49, u50, u51, u52, u53, u54, u55, u56, u57, u58, u59, u60, u61, u62, u63, u64, u65, u66, u67, u68, u69, u70, u71, u72, u73, u74, u75, u76, u77, u78, u79, u80, u81, u82, u83, u84, u85, u86, u87, u88, u89, u90, u91, u92, u93, u94, u95, u96, u97, u98, u99, u100, u101, u102, u103, u104, u105, u106, u107, u108, u109, u110, u111, u112, u113, u114, u115, u116, u117, u118, u119, u120, u121, u122, u123, u124, u125, u126, u127, u128, u129, u130, u131, u132, u133, u134, u135, u136, u137, u138, u139, u140, u141], []⟩ (((w.alloc (.cells (pkCells zeroP) 36)).alloc (.cells (pkCells zeroP) 36)).alloc (.cells (pkCells p) 36)) := by
  have _ := h0
  have HR := hide hR
  clear hR
  have hs1 : ((s.size : Int) == 1) = false := beq_eq_false_iff_ne.2 (by omega)
  have hyl := y.toNat_lt
  have hs2 : ((s.size : Int) == 2) = false := beq_eq_false_iff_ne.2 (by omega)
  have hzl := z.toNat_lt
  obtain ⟨kind, clean, will, keep, client, present, code, dup, qos, retain, topic, payload, id, fv, cv⟩ := p
  obtain rfl := hfv
  obtain rfl := hcv
  simp only [pkCells, zeroP]
  conv => arg 2; whnf
  go_wp2_with fail
  refine bodyPost_ret (results_dd_zero _ _ w.heap.size rfl (heap_three _ _ _ _)) rfl ?_
  rw [HR.out]
  refine ⟨?_, rfl⟩
  exact (((Below.refl _ _).alloc (Nat.le_refl _) _).alloc (by simp) _).alloc (by simp; omega) _

set_option maxHeartbeats 3200000 in
set_option maxRecDepth 100000 in
theorem mid_short2 (s : ByteArray) (w : World) (p : Pkt) (hfv : p.fv = .slice none 0 0) (hcv : p.cv = .slice none 0 0) (h0 : 0 < s.size) (y : UInt8) (h1 : 1 < s.size) (hy : s[1]'h1 = y) (z : UInt8) (h2 : 2 < s.size) (hz : s[2]'h2 = z) (M : Nat) (hM : (y.toNat : Int) - 128 + 128 * (z.toNat : Int) = (M : Int)) (hn : (127 : Int) < (y.toNat : Int)) (hz0 : ((z.toNat : Int) == 0) = false) (hz1 : ¬ (127 : Int) < (z.toNat : Int)) (hM3 : ¬ (300 : Int) < (M : Int)) (hsh : (s.size : Int) < 3 + (M : Int)) (R : Bool ⊕ ((Pkt × List (List UInt8 × Int) × List Int) × Nat)) (hR : R = .inl true) (u1 u3 u4 u7 u8 u9 u10 u11 u12 u13 u14 u15 u16 u17 u18 u19 u20 u21 u22 u23 u24 u25 u26 u27 u28 u29 u30 u31 u32 u33 u34 u35 u36 u37 u38 u39 u40 u41 u42 u43 u44 u45 u46 u47 u48 u49 u50 u51 u52 u53 u54 u55 u56 u57 u58 u59 u60 u61 u62 u63 u64 u65 u66 u67 u68 u69 u70 u71 u72 u73 u74 u75 u76 u77 u78 u79 u80 u81 u82 u83 u84 u85 u86 u87 u88 u89 u90 u91 u92 u93 u94 u95 u96 u97 u98 u99 u100 u101 u102 u103 u104 u105 u106 u107 u108 u109 u110 u111 u112 u113 u114 u115 u116 u117 u118 u119 u120 u121 u122 u123 u124 u125 u126 u127 u128 u129 u130 u131 u132 u133 u134 u135 u136 u137 u138 u139 u140 u141 : Value) :
    Code.wp Tryz.prog (dropSeq 9 (Tryz.f33.body.getD .skip)) (bodyPost Tryz.prog Tryz.f33 (CdPost w R)) ⟨#[.string s, u1, .pointer (some ⟨w.heap.size, 0, none⟩), u3, u4, .pointer (some ⟨w.heap.size + 1, 0, none⟩), .pointer (some ⟨w.heap.size + 1 + 1, 0, none⟩), u7, u8, u9, u10, u11, u12, u13, u14, u15, u16, u17, u18, u19, u20, u21, u22, u23, u24, u25, u26, u27, u28, u29, u30, u31, u32, u33, u34, u35, u36, u37, u38, u39, u40, u41, u42, u43, u44, u45, u46, u47, u48, u49, u50, u51, u52, u53, u54, u55, u56, u57, u58, u59, u60, u61, u62, u63, u64, u65, u66, u67, u68, u69, u70, u71, u72, u73, u74, u75, u76, u77, u78, u79, u80, u81, u82, u83, u84, u85, u86, u87, u88, u89, u90, u91, u92, u93, u94, u95, u96, u97, u98, u99, u100, u101, u102, u103, u104, u105, u106, u107, u108, u109, u110, u111, u112, u113, u114, u115, u116, u117, u118, u119, u120, u121, u122, u123, u124, u125, u126, u127, u128, u129, u130, u131, u132, u133, u134, u135, u136, u137, u138, u139, u140, u141], []⟩ (((w.alloc (.cells (pkCells zeroP) 36)).alloc (.cells (pkCells zeroP) 36)).alloc (.cells (pkCells p) 36)) := by
  have _ := h0
  have HR := hide hR
  clear hR
  have hs1 : ((s.size : Int) == 1) = false := beq_eq_false_iff_ne.2 (by omega)
  have hyl := y.toNat_lt
  have hs2 : ((s.size : Int) == 2) = false := beq_eq_false_iff_ne.2 (by omega)
  have hzl := z.toNat_lt
  obtain ⟨kind, clean, will, keep, client, present, code, dup, qos, retain, topic, payload, id, fv, cv⟩ := p
  obtain rfl := hfv
  obtain rfl := hcv
  simp only [pkCells, zeroP]
  conv => arg 2; whnf
  go_wp2_with fail
  refine bodyPost_ret (results_dd_zero _ _ w.heap.size rfl (heap_three _ _ _ _)) rfl ?_
  rw [HR.out]
  refine ⟨?_, rfl⟩
  exact (((Below.refl _ _).alloc (Nat.le_refl _) _).alloc (by simp) _).alloc (by simp; omega) _
end Go.Proofs.YtnmfmoimjkoieaaGreatDoor.rf
