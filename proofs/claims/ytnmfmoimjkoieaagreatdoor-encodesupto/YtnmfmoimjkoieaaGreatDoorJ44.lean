import Derived.Test.YtnmfmoimjkoieaaGreatDoorJ40
/- courantref.Decode, a first byte of kind 3f. -/
namespace Go.Proofs.YtnmfmoimjkoieaaGreatDoor.rf
open Go.RowKit Go.Proofs.YtnmfmoimjkoieaaGreatDoor.topPlain Go.Proofs.YtnmfmoimjkoieaaGreatDoor.topWalks Go.Proofs.YtnmfmoimjkoieaaGreatDoor.decPlain Go.Proofs.YtnmfmoimjkoieaaGreatDoor.rd

set_option maxHeartbeats 3200000 in
set_option maxRecDepth 100000 in
theorem ddp3f_bada (s : ByteArray) (w : World) (x : UInt8) (h0 : 0 < s.size) (hx : s[0]'h0 = x) (F Q : Nat) (bR : Bool) (hKi : (x.toNat : Int) / 16 = 3) (hFi : (x.toNat : Int) % 16 = (F : Int)) (hF : F < 16) (e8 : ((F : Int) / 8 == 1) = false) (e2 : (F : Int) / 2 % 4 = (Q : Int)) (e1 : ((F : Int) % 2 == 1) = bR) (b3 : ((Q : Int) == 3) = true) (R : Bool ⊕ ((Pkt × List (List UInt8 × Int) × List Int) × Nat)) (hR : R = .inl false) :
    Calls Tryz.prog 33 #[.string s] w (CdPost w R) := by
  have _ := hF
  have hxl := x.toNat_lt
  have hs0 : ((s.size : Int) == 0) = false := beq_eq_false_iff_ne.2 (by omega)
  have HR := hide hR
  clear hR
  go_enter Tryz.func33, Tryz.ntmps33
  go_wp2_with fail
  refine bodyPost_ret (results_dd_zero _ _ w.heap.size rfl (heap_three _ _ _ _)) rfl ?_
  rw [HR.out]
  refine ⟨?_, rfl⟩
  exact (((Below.refl _ _).alloc (Nat.le_refl _) _).alloc (by simp) _).alloc (by simp; omega) _

set_option maxHeartbeats 3200000 in
set_option maxRecDepth 100000 in
theorem ddp3f (s : ByteArray) (w : World) (x : UInt8) (h0 : 0 < s.size) (hx : s[0]'h0 = x) (F Q : Nat) (bR : Bool) (hKi : (x.toNat : Int) / 16 = 3) (hFi : (x.toNat : Int) % 16 = (F : Int)) (hF : F < 16) (e8 : ((F : Int) / 8 == 1) = false) (e2 : (F : Int) / 2 % 4 = (Q : Int)) (e1 : ((F : Int) % 2 == 1) = bR) (b3 : ((Q : Int) == 3) = false) (R : Bool ⊕ ((Pkt × List (List UInt8 × Int) × List Int) × Nat)) (hmid : ∀ (u1 u3 u4 u7 u8 u9 u10 u11 u12 u13 u14 u15 u16 u17 u18 u19 u20 u21 u22 u23 u24 u25 u26 u27 u28 u29 u30 u31 u32 u33 u34 u35 u36 u37 u38 u39 u40 u41 u42 u43 u44 u45 u46 u47 u48 u49 u50 u51 u52 u53 u54 u55 u56 u57 u58 u59 u60 u61 u62 u63 u64 u65 u66 u67 u68 u69 u70 u71 u72 u73 u74 u75 u76 u77 u78 u79 u80 u81 u82 u83 u84 u85 u86 u87 u88 u89 u90 u91 u92 u93 u94 u95 u96 u97 u98 u99 u100 u101 u102 u103 u104 u105 u106 u107 u108 u109 u110 u111 u112 u113 u114 u115 u116 u117 u118 u119 u120 u121 u122 u123 u124 u125 u126 u127 u128 u129 u130 u131 u132 u133 u134 u135 u136 u137 u138 u139 u140 u141 : Value), Code.wp Tryz.prog (dropSeq 9 (Tryz.f33.body.getD .skip)) (bodyPost Tryz.prog Tryz.f33 (CdPost w R)) ⟨#[.string s, u1, .pointer (some ⟨w.heap.size, 0, none⟩), u3, u4, .pointer (some ⟨w.heap.size + 1, 0, none⟩), .pointer (some ⟨w.heap.size + 1 + 1, 0, none⟩), u7, u8, u9, u10, u11, u12, u13, u14, u15, u16, u17, u18, u19, u20, u21, u22, u23, u24, u25, u26, u27, u28, u29, u30, u31, u32, u33, u34, u35, u36, u37, u38, u39, u40, u41, u42, u43, u44, u45, u46, u47, u48, u49, u50, u51, u52, u53, u54, u55, u56, u57, u58, u59, u60, u61, u62, u63, u64, u65, u66, u67, u68, u69, u70, u71, u72, u73, u74, u75, u76, u77, u78, u79, u80, u81, u82, u83, u84, u85, u86, u87, u88, u89, u90, u91, u92, u93, u94, u95, u96, u97, u98, u99, u100, u101, u102, u103, u104, u105, u106, u107, u108, u109, u110, u111, u112, u113, u114, u115, u116, u117, u118, u119, u120, u121, u122, u123, u124, u125, u126, u127, u128, u129, u130, u131, u132, u133, u134, u135, u136, u137, u138, u139, u140, u141], []⟩ (((w.alloc (.cells (pkCells zeroP) 36)).alloc (.cells (pkCells zeroP) 36)).alloc (.cells (pkCells ⟨3, false, false, 0, [], false, 0, false, (Q : Int), bR, [], [], 0, .slice none 0 0, .slice none 0 0⟩) 36))) :
    Calls Tryz.prog 33 #[.string s] w (CdPost w R) := by
  have _ := hF
  have hxl := x.toNat_lt
  have hs0 : ((s.size : Int) == 0) = false := beq_eq_false_iff_ne.2 (by omega)
  have HM := hide hmid
  clear hmid
  go_enter Tryz.func33, Tryz.ntmps33
  refine cut_body 9 (Tryz.f33.body.getD .skip) ?_
  conv => arg 2; whnf; arg 2; whnf; arg 2; whnf; arg 2; whnf; arg 2; whnf; arg 2; whnf; arg 2; whnf; arg 2; whnf; arg 2; whnf
  go_wp2_with fail
  exact HM.out _ _ _ _ _ _ _ _ _ _ _ _ _ _ _ _ _ _ _ _ _ _ _ _ _ _ _ _ _ _ _ _ _ _ _ _ _ _ _ _ _ _ _ _ _ _ _ _ _ _ _ _ _ _ _ _ _ _ _ _ _ _ _ _ _ _ _ _ _ _ _ _ _ _ _ _ _ _ _ _ _ _ _ _ _ _ _ _ _ _ _ _ _ _ _ _ _ _ _ _ _ _ _ _ _ _ _ _ _ _ _ _ _ _ _ _ _ _ _ _ _ _ _ _ _ _ _ _ _ _ _ _ _ _ _ _ _ _
end Go.Proofs.YtnmfmoimjkoieaaGreatDoor.rf

/- courantref.Decode, a first byte of kind 3t. -/
namespace Go.Proofs.YtnmfmoimjkoieaaGreatDoor.rf
open Go.RowKit Go.Proofs.YtnmfmoimjkoieaaGreatDoor.topPlain Go.Proofs.YtnmfmoimjkoieaaGreatDoor.topWalks Go.Proofs.YtnmfmoimjkoieaaGreatDoor.decPlain Go.Proofs.YtnmfmoimjkoieaaGreatDoor.rd

set_option maxHeartbeats 3200000 in
set_option maxRecDepth 100000 in
theorem ddp3t_bada (s : ByteArray) (w : World) (x : UInt8) (h0 : 0 < s.size) (hx : s[0]'h0 = x) (F Q : Nat) (bR : Bool) (hKi : (x.toNat : Int) / 16 = 3) (hFi : (x.toNat : Int) % 16 = (F : Int)) (hF : F < 16) (e8 : ((F : Int) / 8 == 1) = true) (e2 : (F : Int) / 2 % 4 = (Q : Int)) (e1 : ((F : Int) % 2 == 1) = bR) (b3 : ((Q : Int) == 3) = true) (R : Bool ⊕ ((Pkt × List (List UInt8 × Int) × List Int) × Nat)) (hR : R = .inl false) :
    Calls Tryz.prog 33 #[.string s] w (CdPost w R) := by
  have _ := hF
  have hxl := x.toNat_lt
  have hs0 : ((s.size : Int) == 0) = false := beq_eq_false_iff_ne.2 (by omega)
  have HR := hide hR
  clear hR
  go_enter Tryz.func33, Tryz.ntmps33
  go_wp2_with fail
  refine bodyPost_ret (results_dd_zero _ _ w.heap.size rfl (heap_three _ _ _ _)) rfl ?_
  rw [HR.out]
  refine ⟨?_, rfl⟩
  exact (((Below.refl _ _).alloc (Nat.le_refl _) _).alloc (by simp) _).alloc (by simp; omega) _

set_option maxHeartbeats 3200000 in
set_option maxRecDepth 100000 in
theorem ddp3t_badb (s : ByteArray) (w : World) (x : UInt8) (h0 : 0 < s.size) (hx : s[0]'h0 = x) (F Q : Nat) (bR : Bool) (hKi : (x.toNat : Int) / 16 = 3) (hFi : (x.toNat : Int) % 16 = (F : Int)) (hF : F < 16) (e8 : ((F : Int) / 8 == 1) = true) (e2 : (F : Int) / 2 % 4 = (Q : Int)) (e1 : ((F : Int) % 2 == 1) = bR) (b3 : ((Q : Int) == 3) = false) (b0 : ((Q : Int) == 0) = true) (R : Bool ⊕ ((Pkt × List (List UInt8 × Int) × List Int) × Nat)) (hR : R = .inl false) :
    Calls Tryz.prog 33 #[.string s] w (CdPost w R) := by
  have _ := hF
  have hxl := x.toNat_lt
  have hs0 : ((s.size : Int) == 0) = false := beq_eq_false_iff_ne.2 (by omega)
  have HR := hide hR
  clear hR
  go_enter Tryz.func33, Tryz.ntmps33
  go_wp2_with fail
  refine bodyPost_ret (results_dd_zero _ _ w.heap.size rfl (heap_three _ _ _ _)) rfl ?_
  rw [HR.out]
  refine ⟨?_, rfl⟩
  exact (((Below.refl _ _).alloc (Nat.le_refl _) _).alloc (by simp) _).alloc (by simp; omega) _

set_option maxHeartbeats 3200000 in
set_option maxRecDepth 100000 in
theorem ddp3t (s : ByteArray) (w : World) (x : UInt8) (h0 : 0 < s.size) (hx : s[0]'h0 = x) (F Q : Nat) (bR : Bool) (hKi : (x.toNat : Int) / 16 = 3) (hFi : (x.toNat : Int) % 16 = (F : Int)) (hF : F < 16) (e8 : ((F : Int) / 8 == 1) = true) (e2 : (F : Int) / 2 % 4 = (Q : Int)) (e1 : ((F : Int) % 2 == 1) = bR) (b3 : ((Q : Int) == 3) = false) (b0 : ((Q : Int) == 0) = false) (R : Bool ⊕ ((Pkt × List (List UInt8 × Int) × List Int) × Nat)) (hmid : ∀ (u1 u3 u4 u7 u8 u9 u10 u11 u12 u13 u14 u15 u16 u17 u18 u19 u20 u21 u22 u23 u24 u25 u26 u27 u28 u29 u30 u31 u32 u33 u34 u35 u36 u37 u38 u39 u40 u41 u42 u43 u44 u45 u46 u47 u48 u49 u50 u51 u52 u53 u54 u55 u56 u57 u58 u59 u60 u61 u62 u63 u64 u65 u66 u67 u68 u69 u70 u71 u72 u73 u74 u75 u76 u77 u78 u79 u80 u81 u82 u83 u84 u85 u86 u87 u88 u89 u90 u91 u92 u93 u94 u95 u96 u97 u98 u99 u100 u101 u102 u103 u104 u105 u106 u107 u108 u109 u110 u111 u112 u113 u114 u115 u116 u117 u118 u119 u120 u121 u122 u123 u124 u125 u126 u127 u128 u129 u130 u131 u132 u133 u134 u135 u136 u137 u138 u139 u140 u141 : Value), Code.wp Tryz.prog (dropSeq 9 (Tryz.f33.body.getD .skip)) (bodyPost Tryz.prog Tryz.f33 (CdPost w R)) ⟨#[.string s, u1, .pointer (some ⟨w.heap.size, 0, none⟩), u3, u4, .pointer (some ⟨w.heap.size + 1, 0, none⟩), .pointer (some ⟨w.heap.size + 1 + 1, 0, none⟩), u7, u8, u9, u10, u11, u12, u13, u14, u15, u16, u17, u18, u19, u20, u21, u22, u23, u24, u25, u26, u27, u28, u29, u30, u31, u32, u33, u34, u35, u36, u37, u38, u39, u40, u41, u42, u43, u44, u45, u46, u47, u48, u49, u50, u51, u52, u53, u54, u55, u56, u57, u58, u59, u60, u61, u62, u63, u64, u65, u66, u67, u68, u69, u70, u71, u72, u73, u74, u75, u76, u77, u78, u79, u80, u81, u82, u83, u84, u85, u86, u87, u88, u89, u90, u91, u92, u93, u94, u95, u96, u97, u98, u99, u100, u101, u102, u103, u104, u105, u106, u107, u108, u109, u110, u111, u112, u113, u114, u115, u116, u117, u118, u119, u120, u121, u122, u123, u124, u125, u126, u127, u128, u129, u130, u131, u132, u133, u134, u135, u136, u137, u138, u139, u140, u141], []⟩ (((w.alloc (.cells (pkCells zeroP) 36)).alloc (.cells (pkCells zeroP) 36)).alloc (.cells (pkCells ⟨3, false, false, 0, [], false, 0, true, (Q : Int), bR, [], [], 0, .slice none 0 0, .slice none 0 0⟩) 36))) :
    Calls Tryz.prog 33 #[.string s] w (CdPost w R) := by
  have _ := hF
  have hxl := x.toNat_lt
  have hs0 : ((s.size : Int) == 0) = false := beq_eq_false_iff_ne.2 (by omega)
  have HM := hide hmid
  clear hmid
  go_enter Tryz.func33, Tryz.ntmps33
  refine cut_body 9 (Tryz.f33.body.getD .skip) ?_
  conv => arg 2; whnf; arg 2; whnf; arg 2; whnf; arg 2; whnf; arg 2; whnf; arg 2; whnf; arg 2; whnf; arg 2; whnf; arg 2; whnf
  go_wp2_with fail
  exact HM.out _ _ _ _ _ _ _ _ _ _ _ _ _ _ _ _ _ _ _ _ _ _ _ _ _ _ _ _ _ _ _ _ _ _ _ _ _ _ _ _ _ _ _ _ _ _ _ _ _ _ _ _ _ _ _ _ _ _ _ _ _ _ _ _ _ _ _ _ _ _ _ _ _ _ _ _ _ _ _ _ _ _ _ _ _ _ _ _ _ _ _ _ _ _ _ _ _ _ _ _ _ _ _ _ _ _ _ _ _ _ _ _ _ _ _ _ _ _ _ _ _ _ _ _ _ _ _ _ _ _ _ _ _ _ _ _ _ _
end Go.Proofs.YtnmfmoimjkoieaaGreatDoor.rf

/- courantref.Decode, a first byte of kind 6. -/
namespace Go.Proofs.YtnmfmoimjkoieaaGreatDoor.rf
open Go.RowKit Go.Proofs.YtnmfmoimjkoieaaGreatDoor.topPlain Go.Proofs.YtnmfmoimjkoieaaGreatDoor.topWalks Go.Proofs.YtnmfmoimjkoieaaGreatDoor.decPlain Go.Proofs.YtnmfmoimjkoieaaGreatDoor.rd

set_option maxHeartbeats 3200000 in
set_option maxRecDepth 100000 in
theorem ddp6_bada (s : ByteArray) (w : World) (x : UInt8) (h0 : 0 < s.size) (hx : s[0]'h0 = x) (F : Nat) (hKi : (x.toNat : Int) / 16 = 6) (hFi : (x.toNat : Int) % 16 = (F : Int)) (hF : F < 16) (gF : ((F : Int) != 2) = true) (R : Bool ⊕ ((Pkt × List (List UInt8 × Int) × List Int) × Nat)) (hR : R = .inl false) :
    Calls Tryz.prog 33 #[.string s] w (CdPost w R) := by
  have _ := hF
  have hxl := x.toNat_lt
  have hs0 : ((s.size : Int) == 0) = false := beq_eq_false_iff_ne.2 (by omega)
  have HR := hide hR
  clear hR
  go_enter Tryz.func33, Tryz.ntmps33
  go_wp2_with fail
  refine bodyPost_ret (results_dd_zero _ _ w.heap.size rfl (heap_three _ _ _ _)) rfl ?_
  rw [HR.out]
  refine ⟨?_, rfl⟩
  exact (((Below.refl _ _).alloc (Nat.le_refl _) _).alloc (by simp) _).alloc (by simp; omega) _

set_option maxHeartbeats 3200000 in
set_option maxRecDepth 100000 in
theorem ddp6 (s : ByteArray) (w : World) (x : UInt8) (h0 : 0 < s.size) (hx : s[0]'h0 = x) (F : Nat) (hKi : (x.toNat : Int) / 16 = 6) (hFi : (x.toNat : Int) % 16 = (F : Int)) (hF : F < 16) (gF : ((F : Int) != 2) = false) (R : Bool ⊕ ((Pkt × List (List UInt8 × Int) × List Int) × Nat)) (hmid : ∀ (u1 u3 u4 u7 u8 u9 u10 u11 u12 u13 u14 u15 u16 u17 u18 u19 u20 u21 u22 u23 u24 u25 u26 u27 u28 u29 u30 u31 u32 u33 u34 u35 u36 u37 u38 u39 u40 u41 u42 u43 u44 u45 u46 u47 u48 u49 u50 u51 u52 u53 u54 u55 u56 u57 u58 u59 u60 u61 u62 u63 u64 u65 u66 u67 u68 u69 u70 u71 u72 u73 u74 u75 u76 u77 u78 u79 u80 u81 u82 u83 u84 u85 u86 u87 u88 u89 u90 u91 u92 u93 u94 u95 u96 u97 u98 u99 u100 u101 u102 u103 u104 u105 u106 u107 u108 u109 u110 u111 u112 u113 u114 u115 u116 u117 u118 u119 u120 u121 u122 u123 u124 u125 u126 u127 u128 u129 u130 u131 u132 u133 u134 u135 u136 u137 u138 u139 u140 u141 : Value), Code.wp Tryz.prog (dropSeq 9 (Tryz.f33.body.getD .skip)) (bodyPost Tryz.prog Tryz.f33 (CdPost w R)) ⟨#[.string s, u1, .pointer (some ⟨w.heap.size, 0, none⟩), u3, u4, .pointer (some ⟨w.heap.size + 1, 0, none⟩), .pointer (some ⟨w.heap.size + 1 + 1, 0, none⟩), u7, u8, u9, u10, u11, u12, u13, u14, u15, u16, u17, u18, u19, u20, u21, u22, u23, u24, u25, u26, u27, u28, u29, u30, u31, u32, u33, u34, u35, u36, u37, u38, u39, u40, u41, u42, u43, u44, u45, u46, u47, u48, u49, u50, u51, u52, u53, u54, u55, u56, u57, u58, u59, u60, u61, u62, u63, u64, u65, u66, u67, u68, u69, u70, u71, u72, u73, u74, u75, u76, u77, u78, u79, u80, u81, u82, u83, u84, u85, u86, u87, u88, u89, u90, u91, u92, u93, u94, u95, u96, u97, u98, u99, u100, u101, u102, u103, u104, u105, u106, u107, u108, u109, u110, u111, u112, u113, u114, u115, u116, u117, u118, u119, u120, u121, u122, u123, u124, u125, u126, u127, u128, u129, u130, u131, u132, u133, u134, u135, u136, u137, u138, u139, u140, u141], []⟩ (((w.alloc (.cells (pkCells zeroP) 36)).alloc (.cells (pkCells zeroP) 36)).alloc (.cells (pkCells ⟨6, false, false, 0, [], false, 0, false, 0, false, [], [], 0, .slice none 0 0, .slice none 0 0⟩) 36))) :
    Calls Tryz.prog 33 #[.string s] w (CdPost w R) := by
  have _ := hF
  have hxl := x.toNat_lt
  have hs0 : ((s.size : Int) == 0) = false := beq_eq_false_iff_ne.2 (by omega)
  have HM := hide hmid
  clear hmid
  go_enter Tryz.func33, Tryz.ntmps33
  refine cut_body 9 (Tryz.f33.body.getD .skip) ?_
  conv => arg 2; whnf; arg 2; whnf; arg 2; whnf; arg 2; whnf; arg 2; whnf; arg 2; whnf; arg 2; whnf; arg 2; whnf; arg 2; whnf
  go_wp2_with fail
  exact HM.out _ _ _ _ _ _ _ _ _ _ _ _ _ _ _ _ _ _ _ _ _ _ _ _ _ _ _ _ _ _ _ _ _ _ _ _ _ _ _ _ _ _ _ _ _ _ _ _ _ _ _ _ _ _ _ _ _ _ _ _ _ _ _ _ _ _ _ _ _ _ _ _ _ _ _ _ _ _ _ _ _ _ _ _ _ _ _ _ _ _ _ _ _ _ _ _ _ _ _ _ _ _ _ _ _ _ _ _ _ _ _ _ _ _ _ _ _ _ _ _ _ _ _ _ _ _ _ _ _ _ _ _ _ _ _ _ _ _
end Go.Proofs.YtnmfmoimjkoieaaGreatDoor.rf

/- courantref.Decode, a first byte of kind 8. -/
namespace Go.Proofs.YtnmfmoimjkoieaaGreatDoor.rf
open Go.RowKit Go.Proofs.YtnmfmoimjkoieaaGreatDoor.topPlain Go.Proofs.YtnmfmoimjkoieaaGreatDoor.topWalks Go.Proofs.YtnmfmoimjkoieaaGreatDoor.decPlain Go.Proofs.YtnmfmoimjkoieaaGreatDoor.rd

set_option maxHeartbeats 3200000 in
set_option maxRecDepth 100000 in
theorem ddp8_bada (s : ByteArray) (w : World) (x : UInt8) (h0 : 0 < s.size) (hx : s[0]'h0 = x) (F : Nat) (hKi : (x.toNat : Int) / 16 = 8) (hFi : (x.toNat : Int) % 16 = (F : Int)) (hF : F < 16) (gF : ((F : Int) != 2) = true) (R : Bool ⊕ ((Pkt × List (List UInt8 × Int) × List Int) × Nat)) (hR : R = .inl false) :
    Calls Tryz.prog 33 #[.string s] w (CdPost w R) := by
  have _ := hF
  have hxl := x.toNat_lt
  have hs0 : ((s.size : Int) == 0) = false := beq_eq_false_iff_ne.2 (by omega)
  have HR := hide hR
  clear hR
  go_enter Tryz.func33, Tryz.ntmps33
  go_wp2_with fail
  refine bodyPost_ret (results_dd_zero _ _ w.heap.size rfl (heap_three _ _ _ _)) rfl ?_
  rw [HR.out]
  refine ⟨?_, rfl⟩
  exact (((Below.refl _ _).alloc (Nat.le_refl _) _).alloc (by simp) _).alloc (by simp; omega) _

set_option maxHeartbeats 3200000 in
set_option maxRecDepth 100000 in
theorem ddp8 (s : ByteArray) (w : World) (x : UInt8) (h0 : 0 < s.size) (hx : s[0]'h0 = x) (F : Nat) (hKi : (x.toNat : Int) / 16 = 8) (hFi : (x.toNat : Int) % 16 = (F : Int)) (hF : F < 16) (gF : ((F : Int) != 2) = false) (R : Bool ⊕ ((Pkt × List (List UInt8 × Int) × List Int) × Nat)) (hmid : ∀ (u1 u3 u4 u7 u8 u9 u10 u11 u12 u13 u14 u15 u16 u17 u18 u19 u20 u21 u22 u23 u24 u25 u26 u27 u28 u29 u30 u31 u32 u33 u34 u35 u36 u37 u38 u39 u40 u41 u42 u43 u44 u45 u46 u47 u48 u49 u50 u51 u52 u53 u54 u55 u56 u57 u58 u59 u60 u61 u62 u63 u64 u65 u66 u67 u68 u69 u70 u71 u72 u73 u74 u75 u76 u77 u78 u79 u80 u81 u82 u83 u84 u85 u86 u87 u88 u89 u90 u91 u92 u93 u94 u95 u96 u97 u98 u99 u100 u101 u102 u103 u104 u105 u106 u107 u108 u109 u110 u111 u112 u113 u114 u115 u116 u117 u118 u119 u120 u121 u122 u123 u124 u125 u126 u127 u128 u129 u130 u131 u132 u133 u134 u135 u136 u137 u138 u139 u140 u141 : Value), Code.wp Tryz.prog (dropSeq 9 (Tryz.f33.body.getD .skip)) (bodyPost Tryz.prog Tryz.f33 (CdPost w R)) ⟨#[.string s, u1, .pointer (some ⟨w.heap.size, 0, none⟩), u3, u4, .pointer (some ⟨w.heap.size + 1, 0, none⟩), .pointer (some ⟨w.heap.size + 1 + 1, 0, none⟩), u7, u8, u9, u10, u11, u12, u13, u14, u15, u16, u17, u18, u19, u20, u21, u22, u23, u24, u25, u26, u27, u28, u29, u30, u31, u32, u33, u34, u35, u36, u37, u38, u39, u40, u41, u42, u43, u44, u45, u46, u47, u48, u49, u50, u51, u52, u53, u54, u55, u56, u57, u58, u59, u60, u61, u62, u63, u64, u65, u66, u67, u68, u69, u70, u71, u72, u73, u74, u75, u76, u77, u78, u79, u80, u81, u82, u83, u84, u85, u86, u87, u88, u89, u90, u91, u92, u93, u94, u95, u96, u97, u98, u99, u100, u101, u102, u103, u104, u105, u106, u107, u108, u109, u110, u111, u112, u113, u114, u115, u116, u117, u118, u119, u120, u121, u122, u123, u124, u125, u126, u127, u128, u129, u130, u131, u132, u133, u134, u135, u136, u137, u138, u139, u140, u141], []⟩ (((w.alloc (.cells (pkCells zeroP) 36)).alloc (.cells (pkCells zeroP) 36)).alloc (.cells (pkCells ⟨8, false, false, 0, [], false, 0, false, 0, false, [], [], 0, .slice none 0 0, .slice none 0 0⟩) 36))) :
    Calls Tryz.prog 33 #[.string s] w (CdPost w R) := by
  have _ := hF
  have hxl := x.toNat_lt
  have hs0 : ((s.size : Int) == 0) = false := beq_eq_false_iff_ne.2 (by omega)
  have HM := hide hmid
  clear hmid
  go_enter Tryz.func33, Tryz.ntmps33
  refine cut_body 9 (Tryz.f33.body.getD .skip) ?_
  conv => arg 2; whnf; arg 2; whnf; arg 2; whnf; arg 2; whnf; arg 2; whnf; arg 2; whnf; arg 2; whnf; arg 2; whnf; arg 2; whnf
  go_wp2_with fail
  exact HM.out _ _ _ _ _ _ _ _ _ _ _ _ _ _ _ _ _ _ _ _ _ _ _ _ _ _ _ _ _ _ _ _ _ _ _ _ _ _ _ _ _ _ _ _ _ _ _ _ _ _ _ _ _ _ _ _ _ _ _ _ _ _ _ _ _ _ _ _ _ _ _ _ _ _ _ _ _ _ _ _ _ _ _ _ _ _ _ _ _ _ _ _ _ _ _ _ _ _ _ _ _ _ _ _ _ _ _ _ _ _ _ _ _ _ _ _ _ _ _ _ _ _ _ _ _ _ _ _ _ _ _ _ _ _ _ _ _ _
end Go.Proofs.YtnmfmoimjkoieaaGreatDoor.rf

/- courantref.Decode, a first byte of kind 10. -/
namespace Go.Proofs.YtnmfmoimjkoieaaGreatDoor.rf
open Go.RowKit Go.Proofs.YtnmfmoimjkoieaaGreatDoor.topPlain Go.Proofs.YtnmfmoimjkoieaaGreatDoor.topWalks Go.Proofs.YtnmfmoimjkoieaaGreatDoor.decPlain Go.Proofs.YtnmfmoimjkoieaaGreatDoor.rd

set_option maxHeartbeats 3200000 in
set_option maxRecDepth 100000 in
theorem ddp10_bada (s : ByteArray) (w : World) (x : UInt8) (h0 : 0 < s.size) (hx : s[0]'h0 = x) (F : Nat) (hKi : (x.toNat : Int) / 16 = 10) (hFi : (x.toNat : Int) % 16 = (F : Int)) (hF : F < 16) (gF : ((F : Int) != 2) = true) (R : Bool ⊕ ((Pkt × List (List UInt8 × Int) × List Int) × Nat)) (hR : R = .inl false) :
    Calls Tryz.prog 33 #[.string s] w (CdPost w R) := by
  have _ := hF
  have hxl := x.toNat_lt
  have hs0 : ((s.size : Int) == 0) = false := beq_eq_false_iff_ne.2 (by omega)
  have HR := hide hR
  clear hR
  go_enter Tryz.func33, Tryz.ntmps33
  go_wp2_with fail
  refine bodyPost_ret (results_dd_zero _ _ w.heap.size rfl (heap_three _ _ _ _)) rfl ?_
  rw [HR.out]
  refine ⟨?_, rfl⟩
  exact (((Below.refl _ _).alloc (Nat.le_refl _) _).alloc (by simp) _).alloc (by simp; omega) _

set_option maxHeartbeats 3200000 in
set_option maxRecDepth 100000 in
theorem ddp10 (s : ByteArray) (w : World) (x : UInt8) (h0 : 0 < s.size) (hx : s[0]'h0 = x) (F : Nat) (hKi : (x.toNat : Int) / 16 = 10) (hFi : (x.toNat : Int) % 16 = (F : Int)) (hF : F < 16) (gF : ((F : Int) != 2) = false) (R : Bool ⊕ ((Pkt × List (List UInt8 × Int) × List Int) × Nat)) (hmid : ∀ (u1 u3 u4 u7 u8 u9 u10 u11 u12 u13 u14 u15 u16 u17 u18 u19 u20 u21 u22 u23 u24 u25 u26 u27 u28 u29 u30 u31 u32 u33 u34 u35 u36 u37 u38 u39 u40 u41 u42 u43 u44 u45 u46 u47 u48 u49 u50 u51 u52 u53 u54 u55 u56 u57 u58 u59 u60 u61 u62 u63 u64 u65 u66 u67 u68 u69 u70 u71 u72 u73 u74 u75 u76 u77 u78 u79 u80 u81 u82 u83 u84 u85 u86 u87 u88 u89 u90 u91 u92 u93 u94 u95 u96 u97 u98 u99 u100 u101 u102 u103 u104 u105 u106 u107 u108 u109 u110 u111 u112 u113 u114 u115 u116 u117 u118 u119 u120 u121 u122 u123 u124 u125 u126 u127 u128 u129 u130 u131 u132 u133 u134 u135 u136 u137 u138 u139 u140 u141 : Value), Code.wp Tryz.prog (dropSeq 9 (Tryz.f33.body.getD .skip)) (bodyPost Tryz.prog Tryz.f33 (CdPost w R)) ⟨#[.string s, u1, .pointer (some ⟨w.heap.size, 0, none⟩), u3, u4, .pointer (some ⟨w.heap.size + 1, 0, none⟩), .pointer (some ⟨w.heap.size + 1 + 1, 0, none⟩), u7, u8, u9, u10, u11, u12, u13, u14, u15, u16, u17, u18, u19, u20, u21, u22, u23, u24, u25, u26, u27, u28, u29, u30, u31, u32, u33, u34, u35, u36, u37, u38, u39, u40, u41, u42, u43, u44, u45, u46, u47, u48, u49, u50, u51, u52, u53, u54, u55, u56, u57, u58, u59, u60, u61, u62, u63, u64, u65, u66, u67, u68, u69, u70, u71, u72, u73, u74, u75, u76, u77, u78, u79, u80, u81, u82, u83, u84, u85, u86, u87, u88, u89, u90, u91, u92, u93, u94, u95, u96, u97, u98, u99, u100, u101, u102, u103, u104, u105, u106, u107, u108, u109, u110, u111, u112, u113, u114, u115, u116, u117, u118, u119, u120, u121, u122, u123, u124, u125, u126, u127, u128, u129, u130, u131, u132, u133, u134, u135, u136, u137, u138, u139, u140, u141], []⟩ (((w.alloc (.cells (pkCells zeroP) 36)).alloc (.cells (pkCells zeroP) 36)).alloc (.cells (pkCells ⟨10, false, false, 0, [], false, 0, false, 0, false, [], [], 0, .slice none 0 0, .slice none 0 0⟩) 36))) :
    Calls Tryz.prog 33 #[.string s] w (CdPost w R) := by
  have _ := hF
  have hxl := x.toNat_lt
  have hs0 : ((s.size : Int) == 0) = false := beq_eq_false_iff_ne.2 (by omega)
  have HM := hide hmid
  clear hmid
  go_enter Tryz.func33, Tryz.ntmps33
  refine cut_body 9 (Tryz.f33.body.getD .skip) ?_
  conv => arg 2; whnf; arg 2; whnf; arg 2; whnf; arg 2; whnf; arg 2; whnf; arg 2; whnf; arg 2; whnf; arg 2; whnf; arg 2; whnf
  go_wp2_with fail
  exact HM.out _ _ _ _ _ _ _ _ _ _ _ _ _ _ _ _ _ _ _ _ _ _ _ _ _ _ _ _ _ _ _ _ _ _ _ _ _ _ _ _ _ _ _ _ _ _ _ _ _ _ _ _ _ _ _ _ _ _ _ _ _ _ _ _ _ _ _ _ _ _ _ _ _ _ _ _ _ _ _ _ _ _ _ _ _ _ _ _ _ _ _ _ _ _ _ _ _ _ _ _ _ _ _ _ _ _ _ _ _ _ _ _ _ _ _ _ _ _ _ _ _ _ _ _ _ _ _ _ _ _ _ _ _ _ _ _ _ _
end Go.Proofs.YtnmfmoimjkoieaaGreatDoor.rf
