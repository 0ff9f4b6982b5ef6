import Derived.Test.YtnmfmoimjkoieaaGreatDoorJ41
import Derived.Test.YtnmfmoimjkoieaaGreatDoorJ42
import Derived.Test.YtnmfmoimjkoieaaGreatDoorJ43
import Derived.Test.YtnmfmoimjkoieaaGreatDoorJ44
/- courantref.Decode: what the document answers of any bytes. -/
namespace Go.Proofs.YtnmfmoimjkoieaaGreatDoor.rf
open Go.RowKit Go.Proofs.YtnmfmoimjkoieaaGreatDoor.topPlain Go.Proofs.YtnmfmoimjkoieaaGreatDoor.topWalks Go.Proofs.YtnmfmoimjkoieaaGreatDoor.decPlain Go.Proofs.YtnmfmoimjkoieaaGreatDoor.rd

/-- the second half, whatever it is -/
theorem mid_any (s : ByteArray) (w : World) (p : Pkt) (hfv : p.fv = .slice none 0 0) (hcv : p.cv = .slice none 0 0) (h0 : 0 < s.size) (hI : topWalks.Inv w) (hN : 5 ≤ w.heap.size) (hk1 : 1 ≤ p.kind) (hk2 : p.kind ≤ 14) (R : Bool ⊕ ((Pkt × List (List UInt8 × Int) × List Int) × Nat)) (hR : R = decR p (s.data.toList.drop 1)) (u1 u3 u4 u7 u8 u9 u10 u11 u12 u13 u14 u15 u16 u17 u18 u19 u20 u21 u22 u23 u24 u25 u26 u27 u28 u29 u30 u31 u32 u33 u34 u35 u36 u37 u38 u39 u40 u41 u42 u43 u44 u45 u46 u47 u48 u49 u50 u51 u52 u53 u54 u55 u56 u57 u58 u59 u60 u61 u62 u63 u64 u65 u66 u67 u68 u69 u70 u71 u72 u73 u74 u75 u76 u77 u78 u79 u80 u81 u82 u83 u84 u85 u86 u87 u88 u89 u90 u91 u92 u93 u94 u95 u96 u97 u98 u99 u100 u101 u102 u103 u104 u105 u106 u107 u108 u109 u110 u111 u112 u113 u114 u115 u116 u117 u118 u119 u120 u121 u122 u123 u124 u125 u126 u127 u128 u129 u130 u131 u132 u133 u134 u135 u136 u137 u138 u139 u140 u141 : Value) :
    Code.wp Tryz.prog (dropSeq 9 (Tryz.f33.body.getD .skip)) (bodyPost Tryz.prog Tryz.f33 (CdPost w R)) ⟨#[.string s, u1, .pointer (some ⟨w.heap.size, 0, none⟩), u3, u4, .pointer (some ⟨w.heap.size + 1, 0, none⟩), .pointer (some ⟨w.heap.size + 1 + 1, 0, none⟩), u7, u8, u9, u10, u11, u12, u13, u14, u15, u16, u17, u18, u19, u20, u21, u22, u23, u24, u25, u26, u27, u28, u29, u30, u31, u32, u33, u34, u35, u36, u37, u38, u39, u40, u41, u42, u43, u44, u45, u46, u47, u48, u49, u50, u51, u52, u53, u54, u55, u56, u57, u58, u59, u60, u61, u62, u63, u64, u65, u66, u67, u68, u69, u70, u71, u72, u73, u74, u75, u76, u77, u78, u79, u80, u81, u82, u83, u84, u85, u86, u87, u88, u89, u90, u91, u92, u93, u94, u95, u96, u97, u98, u99, u100, u101, u102, u103, u104, u105, u106, u107, u108, u109, u110, u111, u112, u113, u114, u115, u116, u117, u118, u119, u120, u121, u122, u123, u124, u125, u126, u127, u128, u129, u130, u131, u132, u133, u134, u135, u136, u137, u138, u139, u140, u141], []⟩ (((w.alloc (.cells (pkCells zeroP) 36)).alloc (.cells (pkCells zeroP) 36)).alloc (.cells (pkCells p) 36)) := by
  have hsz := Lib.size_eq s
  by_cases h1 : s.size = 1
  · refine mid_one s w p hfv hcv h0 (beq_iff_eq.2 (by omega)) R ?_ u1 u3 u4 u7 u8 u9 u10 u11 u12 u13 u14 u15 u16 u17 u18 u19 u20 u21 u22 u23 u24 u25 u26 u27 u28 u29 u30 u31 u32 u33 u34 u35 u36 u37 u38 u39 u40 u41 u42 u43 u44 u45 u46 u47 u48 u49 u50 u51 u52 u53 u54 u55 u56 u57 u58 u59 u60 u61 u62 u63 u64 u65 u66 u67 u68 u69 u70 u71 u72 u73 u74 u75 u76 u77 u78 u79 u80 u81 u82 u83 u84 u85 u86 u87 u88 u89 u90 u91 u92 u93 u94 u95 u96 u97 u98 u99 u100 u101 u102 u103 u104 u105 u106 u107 u108 u109 u110 u111 u112 u113 u114 u115 u116 u117 u118 u119 u120 u121 u122 u123 u124 u125 u126 u127 u128 u129 u130 u131 u132 u133 u134 u135 u136 u137 u138 u139 u140 u141
    rw [hR, List.drop_eq_nil_of_le (by omega)]
    rfl
  · have h1' : 1 < s.size := by omega
    obtain ⟨y, hy⟩ : ∃ y : UInt8, s[1]'h1' = y := ⟨_, rfl⟩
    have hd1 : s.data.toList.drop 1 = y :: s.data.toList.drop 2 := by rw [← hy]; exact list_at s 1 h1'
    have hyl := y.toNat_lt
    by_cases hn : y.toNat < 128
    · rw [hd1, decR_1 p y _ hn] at hR
      have hl2 : (s.data.toList.drop 2).length = s.size - 2 := by rw [List.length_drop, ← hsz]
      by_cases hsh : s.size < 2 + y.toNat
      · refine mid_short1 s w p hfv hcv h0 y h1' hy (by omega) (by omega) R ?_ u1 u3 u4 u7 u8 u9 u10 u11 u12 u13 u14 u15 u16 u17 u18 u19 u20 u21 u22 u23 u24 u25 u26 u27 u28 u29 u30 u31 u32 u33 u34 u35 u36 u37 u38 u39 u40 u41 u42 u43 u44 u45 u46 u47 u48 u49 u50 u51 u52 u53 u54 u55 u56 u57 u58 u59 u60 u61 u62 u63 u64 u65 u66 u67 u68 u69 u70 u71 u72 u73 u74 u75 u76 u77 u78 u79 u80 u81 u82 u83 u84 u85 u86 u87 u88 u89 u90 u91 u92 u93 u94 u95 u96 u97 u98 u99 u100 u101 u102 u103 u104 u105 u106 u107 u108 u109 u110 u111 u112 u113 u114 u115 u116 u117 u118 u119 u120 u121 u122 u123 u124 u125 u126 u127 u128 u129 u130 u131 u132 u133 u134 u135 u136 u137 u138 u139 u140 u141
        rw [hR, if_pos (by omega)]
      · rw [if_neg (by omega)] at hR
        have hu := ext_bs s 2 (2 + y.toNat)
        rw [show 2 + y.toNat - 2 = y.toNat by omega] at hu
        have hud : (s.extract 2 (2 + y.toNat)).data.toList = (s.data.toList.drop 2).take y.toNat := by rw [hu, data_bs]
        have hus : (s.extract 2 (2 + y.toNat)).size ≤ 300 := by rw [Lib.size_eq, hud, List.length_take]; omega
        rw [← hud] at hR
        cases hBD : bodyS p (s.extract 2 (2 + y.toNat)).data.toList with
        | none =>
          rw [hBD] at hR
          exact mid_n1 s w p hfv hcv h0 y h1' hy (by omega) (by omega) _ rfl hus hI hN hk1 hk2 hBD R hR u1 u3 u4 u7 u8 u9 u10 u11 u12 u13 u14 u15 u16 u17 u18 u19 u20 u21 u22 u23 u24 u25 u26 u27 u28 u29 u30 u31 u32 u33 u34 u35 u36 u37 u38 u39 u40 u41 u42 u43 u44 u45 u46 u47 u48 u49 u50 u51 u52 u53 u54 u55 u56 u57 u58 u59 u60 u61 u62 u63 u64 u65 u66 u67 u68 u69 u70 u71 u72 u73 u74 u75 u76 u77 u78 u79 u80 u81 u82 u83 u84 u85 u86 u87 u88 u89 u90 u91 u92 u93 u94 u95 u96 u97 u98 u99 u100 u101 u102 u103 u104 u105 u106 u107 u108 u109 u110 u111 u112 u113 u114 u115 u116 u117 u118 u119 u120 u121 u122 u123 u124 u125 u126 u127 u128 u129 u130 u131 u132 u133 u134 u135 u136 u137 u138 u139 u140 u141
        | some q =>
          rw [hBD] at hR
          obtain ⟨⟨kq, clq, wq, keq, ciq, prq, coq, duq, qoq, req, toq, paq, idq, fq, cq⟩, fs, cs⟩ := q
          exact mid_s1 s w p hfv hcv h0 y h1' hy (by omega) (by omega) _ rfl hus hI hN hk1 hk2 kq clq wq keq ciq prq coq duq qoq req toq paq idq fq cq fs cs hBD R hR u1 u3 u4 u7 u8 u9 u10 u11 u12 u13 u14 u15 u16 u17 u18 u19 u20 u21 u22 u23 u24 u25 u26 u27 u28 u29 u30 u31 u32 u33 u34 u35 u36 u37 u38 u39 u40 u41 u42 u43 u44 u45 u46 u47 u48 u49 u50 u51 u52 u53 u54 u55 u56 u57 u58 u59 u60 u61 u62 u63 u64 u65 u66 u67 u68 u69 u70 u71 u72 u73 u74 u75 u76 u77 u78 u79 u80 u81 u82 u83 u84 u85 u86 u87 u88 u89 u90 u91 u92 u93 u94 u95 u96 u97 u98 u99 u100 u101 u102 u103 u104 u105 u106 u107 u108 u109 u110 u111 u112 u113 u114 u115 u116 u117 u118 u119 u120 u121 u122 u123 u124 u125 u126 u127 u128 u129 u130 u131 u132 u133 u134 u135 u136 u137 u138 u139 u140 u141
    · by_cases h2 : s.size = 2
      · refine mid_two s w p hfv hcv h0 y h1' hy (by omega) (beq_iff_eq.2 (by omega)) R ?_ u1 u3 u4 u7 u8 u9 u10 u11 u12 u13 u14 u15 u16 u17 u18 u19 u20 u21 u22 u23 u24 u25 u26 u27 u28 u29 u30 u31 u32 u33 u34 u35 u36 u37 u38 u39 u40 u41 u42 u43 u44 u45 u46 u47 u48 u49 u50 u51 u52 u53 u54 u55 u56 u57 u58 u59 u60 u61 u62 u63 u64 u65 u66 u67 u68 u69 u70 u71 u72 u73 u74 u75 u76 u77 u78 u79 u80 u81 u82 u83 u84 u85 u86 u87 u88 u89 u90 u91 u92 u93 u94 u95 u96 u97 u98 u99 u100 u101 u102 u103 u104 u105 u106 u107 u108 u109 u110 u111 u112 u113 u114 u115 u116 u117 u118 u119 u120 u121 u122 u123 u124 u125 u126 u127 u128 u129 u130 u131 u132 u133 u134 u135 u136 u137 u138 u139 u140 u141
        rw [hR, hd1, List.drop_eq_nil_of_le (show s.data.toList.length ≤ 2 by omega), decR_half p y hn]
      · have h2' : 2 < s.size := by omega
        obtain ⟨z, hz⟩ : ∃ z : UInt8, s[2]'h2' = z := ⟨_, rfl⟩
        have hd2 : s.data.toList.drop 2 = z :: s.data.toList.drop 3 := by rw [← hz]; exact list_at s 2 h2'
        have hzl := z.toNat_lt
        have hM : (y.toNat : Int) - 128 + 128 * (z.toNat : Int) = ((y.toNat - 128 + 128 * z.toNat : Nat) : Int) := by omega
        rw [hd1, hd2] at hR
        by_cases hz0 : z.toNat = 0
        · refine mid_len0 s w p hfv hcv h0 y h1' hy z h2' hz _ hM (by omega) (beq_iff_eq.2 (by omega)) R ?_ u1 u3 u4 u7 u8 u9 u10 u11 u12 u13 u14 u15 u16 u17 u18 u19 u20 u21 u22 u23 u24 u25 u26 u27 u28 u29 u30 u31 u32 u33 u34 u35 u36 u37 u38 u39 u40 u41 u42 u43 u44 u45 u46 u47 u48 u49 u50 u51 u52 u53 u54 u55 u56 u57 u58 u59 u60 u61 u62 u63 u64 u65 u66 u67 u68 u69 u70 u71 u72 u73 u74 u75 u76 u77 u78 u79 u80 u81 u82 u83 u84 u85 u86 u87 u88 u89 u90 u91 u92 u93 u94 u95 u96 u97 u98 u99 u100 u101 u102 u103 u104 u105 u106 u107 u108 u109 u110 u111 u112 u113 u114 u115 u116 u117 u118 u119 u120 u121 u122 u123 u124 u125 u126 u127 u128 u129 u130 u131 u132 u133 u134 u135 u136 u137 u138 u139 u140 u141
          rw [hR, decR_long p y z _ hn (Or.inl hz0)]
        · have hz0' : ((z.toNat : Int) == 0) = false := beq_eq_false_iff_ne.2 (by omega)
          by_cases hz1 : 127 < z.toNat
          · refine mid_len1 s w p hfv hcv h0 y h1' hy z h2' hz _ hM (by omega) hz0' (by omega) R ?_ u1 u3 u4 u7 u8 u9 u10 u11 u12 u13 u14 u15 u16 u17 u18 u19 u20 u21 u22 u23 u24 u25 u26 u27 u28 u29 u30 u31 u32 u33 u34 u35 u36 u37 u38 u39 u40 u41 u42 u43 u44 u45 u46 u47 u48 u49 u50 u51 u52 u53 u54 u55 u56 u57 u58 u59 u60 u61 u62 u63 u64 u65 u66 u67 u68 u69 u70 u71 u72 u73 u74 u75 u76 u77 u78 u79 u80 u81 u82 u83 u84 u85 u86 u87 u88 u89 u90 u91 u92 u93 u94 u95 u96 u97 u98 u99 u100 u101 u102 u103 u104 u105 u106 u107 u108 u109 u110 u111 u112 u113 u114 u115 u116 u117 u118 u119 u120 u121 u122 u123 u124 u125 u126 u127 u128 u129 u130 u131 u132 u133 u134 u135 u136 u137 u138 u139 u140 u141
            rw [hR, decR_long p y z _ hn (Or.inr (Or.inl hz1))]
          · by_cases hM3 : 300 < y.toNat - 128 + 128 * z.toNat
            · refine mid_len2 s w p hfv hcv h0 y h1' hy z h2' hz _ hM (by omega) hz0' (by omega) (by omega) R ?_ u1 u3 u4 u7 u8 u9 u10 u11 u12 u13 u14 u15 u16 u17 u18 u19 u20 u21 u22 u23 u24 u25 u26 u27 u28 u29 u30 u31 u32 u33 u34 u35 u36 u37 u38 u39 u40 u41 u42 u43 u44 u45 u46 u47 u48 u49 u50 u51 u52 u53 u54 u55 u56 u57 u58 u59 u60 u61 u62 u63 u64 u65 u66 u67 u68 u69 u70 u71 u72 u73 u74 u75 u76 u77 u78 u79 u80 u81 u82 u83 u84 u85 u86 u87 u88 u89 u90 u91 u92 u93 u94 u95 u96 u97 u98 u99 u100 u101 u102 u103 u104 u105 u106 u107 u108 u109 u110 u111 u112 u113 u114 u115 u116 u117 u118 u119 u120 u121 u122 u123 u124 u125 u126 u127 u128 u129 u130 u131 u132 u133 u134 u135 u136 u137 u138 u139 u140 u141
              rw [hR, decR_long p y z _ hn (Or.inr (Or.inr hM3))]
            · rw [decR_2 p y z _ hn (by omega)] at hR
              generalize hMM : y.toNat - 128 + 128 * z.toNat = M at *
              have hl3 : (s.data.toList.drop 3).length = s.size - 3 := by rw [List.length_drop, ← hsz]
              by_cases hsh : s.size < 3 + M
              · refine mid_short2 s w p hfv hcv h0 y h1' hy z h2' hz M hM (by omega) hz0' (by omega) (by omega) (by omega) R ?_ u1 u3 u4 u7 u8 u9 u10 u11 u12 u13 u14 u15 u16 u17 u18 u19 u20 u21 u22 u23 u24 u25 u26 u27 u28 u29 u30 u31 u32 u33 u34 u35 u36 u37 u38 u39 u40 u41 u42 u43 u44 u45 u46 u47 u48 u49 u50 u51 u52 u53 u54 u55 u56 u57 u58 u59 u60 u61 u62 u63 u64 u65 u66 u67 u68 u69 u70 u71 u72 u73 u74 u75 u76 u77 u78 u79 u80 u81 u82 u83 u84 u85 u86 u87 u88 u89 u90 u91 u92 u93 u94 u95 u96 u97 u98 u99 u100 u101 u102 u103 u104 u105 u106 u107 u108 u109 u110 u111 u112 u113 u114 u115 u116 u117 u118 u119 u120 u121 u122 u123 u124 u125 u126 u127 u128 u129 u130 u131 u132 u133 u134 u135 u136 u137 u138 u139 u140 u141
                rw [hR, if_pos (by omega)]
              · rw [if_neg (by omega)] at hR
                have hu := ext_bs s 3 (3 + M)
                rw [show 3 + M - 3 = M by omega] at hu
                have hud : (s.extract 3 (3 + M)).data.toList = (s.data.toList.drop 3).take M := by rw [hu, data_bs]
                have hus : (s.extract 3 (3 + M)).size ≤ 300 := by rw [Lib.size_eq, hud, List.length_take]; omega
                rw [← hud] at hR
                cases hBD : bodyS p (s.extract 3 (3 + M)).data.toList with
                | none =>
                  rw [hBD] at hR
                  exact mid_n2 s w p hfv hcv h0 y h1' hy z h2' hz M hM (by omega) hz0' (by omega) (by omega) (by omega) _ rfl hus hI hN hk1 hk2 hBD R hR u1 u3 u4 u7 u8 u9 u10 u11 u12 u13 u14 u15 u16 u17 u18 u19 u20 u21 u22 u23 u24 u25 u26 u27 u28 u29 u30 u31 u32 u33 u34 u35 u36 u37 u38 u39 u40 u41 u42 u43 u44 u45 u46 u47 u48 u49 u50 u51 u52 u53 u54 u55 u56 u57 u58 u59 u60 u61 u62 u63 u64 u65 u66 u67 u68 u69 u70 u71 u72 u73 u74 u75 u76 u77 u78 u79 u80 u81 u82 u83 u84 u85 u86 u87 u88 u89 u90 u91 u92 u93 u94 u95 u96 u97 u98 u99 u100 u101 u102 u103 u104 u105 u106 u107 u108 u109 u110 u111 u112 u113 u114 u115 u116 u117 u118 u119 u120 u121 u122 u123 u124 u125 u126 u127 u128 u129 u130 u131 u132 u133 u134 u135 u136 u137 u138 u139 u140 u141
                | some q =>
                  rw [hBD] at hR
                  obtain ⟨⟨kq, clq, wq, keq, ciq, prq, coq, duq, qoq, req, toq, paq, idq, fq, cq⟩, fs, cs⟩ := q
                  exact mid_s2 s w p hfv hcv h0 y h1' hy z h2' hz M hM (by omega) hz0' (by omega) (by omega) (by omega) _ rfl hus hI hN hk1 hk2 kq clq wq keq ciq prq coq duq qoq req toq paq idq fq cq fs cs hBD R hR u1 u3 u4 u7 u8 u9 u10 u11 u12 u13 u14 u15 u16 u17 u18 u19 u20 u21 u22 u23 u24 u25 u26 u27 u28 u29 u30 u31 u32 u33 u34 u35 u36 u37 u38 u39 u40 u41 u42 u43 u44 u45 u46 u47 u48 u49 u50 u51 u52 u53 u54 u55 u56 u57 u58 u59 u60 u61 u62 u63 u64 u65 u66 u67 u68 u69 u70 u71 u72 u73 u74 u75 u76 u77 u78 u79 u80 u81 u82 u83 u84 u85 u86 u87 u88 u89 u90 u91 u92 u93 u94 u95 u96 u97 u98 u99 u100 u101 u102 u103 u104 u105 u106 u107 u108 u109 u110 u111 u112 u113 u114 u115 u116 u117 u118 u119 u120 u121 u122 u123 u124 u125 u126 u127 u128 u129 u130 u131 u132 u133 u134 u135 u136 u137 u138 u139 u140 u141

theorem dDecode_any (s : ByteArray) (w : World) (hI : topWalks.Inv w) (hN : 5 ≤ w.heap.size) : Calls Tryz.prog 33 #[.string s] w (CdPost w (decL s.data.toList)) := by
  by_cases h0 : s.size = 0
  · exact dd_nil s w h0
  · have h0' : 0 < s.size := by omega
    obtain ⟨x, hx⟩ : ∃ x : UInt8, s[0]'h0' = x := ⟨_, rfl⟩
    have hl := list_cons s h0'
    rw [hx] at hl
    have hxl := x.toNat_lt
    have hFi : (x.toNat : Int) % 16 = ((x.toNat % 16 : Nat) : Int) := by omega
    have hF : x.toNat % 16 < 16 := Nat.mod_lt _ (by decide)
    have hKi : (x.toNat : Int) / 16 = ((x.toNat / 16 : Nat) : Int) := by omega
    have hbadR : docBad (x.toNat / 16) (x.toNat % 16) = true → decL s.data.toList = .inl false := fun h => by rw [hl]; exact decL_bad x _ h
    have hgoodR : docBad (x.toNat / 16) (x.toNat % 16) = false → decL s.data.toList = decR (docP (x.toNat / 16) (x.toNat % 16)) (s.data.toList.drop 1) := fun h => by
      rw [show decL s.data.toList = decL (x :: s.data.toList.drop 1) from congrArg decL hl]
      exact decL_cons x _ h
    generalize hFF : x.toNat % 16 = F at *
    generalize hKK : x.toNat / 16 = K at *
    have hK16 : K < 16 := by omega
    rcases (by omega : K = 3 ∨ K = 6 ∨ K = 8 ∨ K = 10 ∨ (K ≠ 3 ∧ K ≠ 6 ∧ K ≠ 8 ∧ K ≠ 10)) with rfl | rfl | rfl | rfl | ⟨k3, k6, k8, k10⟩
    · have e2 : (F : Int) / 2 % 4 = ((F / 2 % 4 : Nat) : Int) := by omega
      have e1 : ((F : Int) % 2 == 1) = decide (F % 2 = 1) := by
        by_cases h : F % 2 = 1
        · rw [decide_eq_true h]; exact beq_iff_eq.2 (by omega)
        · rw [decide_eq_false h]; exact beq_eq_false_iff_ne.2 (by omega)
      have hwant : wantF 3 F = F := rfl
      by_cases h8 : F / 8 = 1
      · have e8 : ((F : Int) / 8 == 1) = true := beq_iff_eq.2 (by omega)
        by_cases h3 : F / 2 % 4 = 3
        · exact ddp3t_bada s w x h0' hx F _ _ (by omega) hFi hF e8 e2 e1 (beq_iff_eq.2 (by omega)) _ (hbadR (by unfold docBad; rw [hwant]; simp [h3]))
        · by_cases hq0 : F / 2 % 4 = 0
          · exact ddp3t_badb s w x h0' hx F _ _ (by omega) hFi hF e8 e2 e1 (beq_eq_false_iff_ne.2 (by omega)) (beq_iff_eq.2 (by omega)) _ (hbadR (by unfold docBad; rw [hwant]; simp [h8, hq0]))
          · have hR := hgoodR (by unfold docBad; rw [hwant]; simp [h3, hq0])
            have hp : docP 3 F = ⟨3, false, false, 0, [], false, 0, true, ((F / 2 % 4 : Nat) : Int), decide (F % 2 = 1), [], [], 0, .slice none 0 0, .slice none 0 0⟩ := by unfold docP; rw [if_pos rfl, decide_eq_true h8]; rfl
            rw [hp] at hR
            exact ddp3t s w x h0' hx F _ _ (by omega) hFi hF e8 e2 e1 (beq_eq_false_iff_ne.2 (by omega)) (beq_eq_false_iff_ne.2 (by omega)) _ (fun u1 u3 u4 u7 u8 u9 u10 u11 u12 u13 u14 u15 u16 u17 u18 u19 u20 u21 u22 u23 u24 u25 u26 u27 u28 u29 u30 u31 u32 u33 u34 u35 u36 u37 u38 u39 u40 u41 u42 u43 u44 u45 u46 u47 u48 u49 u50 u51 u52 u53 u54 u55 u56 u57 u58 u59 u60 u61 u62 u63 u64 u65 u66 u67 u68 u69 u70 u71 u72 u73 u74 u75 u76 u77 u78 u79 u80 u81 u82 u83 u84 u85 u86 u87 u88 u89 u90 u91 u92 u93 u94 u95 u96 u97 u98 u99 u100 u101 u102 u103 u104 u105 u106 u107 u108 u109 u110 u111 u112 u113 u114 u115 u116 u117 u118 u119 u120 u121 u122 u123 u124 u125 u126 u127 u128 u129 u130 u131 u132 u133 u134 u135 u136 u137 u138 u139 u140 u141 => mid_any s w ⟨3, false, false, 0, [], false, 0, true, ((F / 2 % 4 : Nat) : Int), decide (F % 2 = 1), [], [], 0, .slice none 0 0, .slice none 0 0⟩ rfl rfl h0' hI hN (by show (1 : Int) ≤ 3; decide) (by show (3 : Int) ≤ 14; decide) _ hR u1 u3 u4 u7 u8 u9 u10 u11 u12 u13 u14 u15 u16 u17 u18 u19 u20 u21 u22 u23 u24 u25 u26 u27 u28 u29 u30 u31 u32 u33 u34 u35 u36 u37 u38 u39 u40 u41 u42 u43 u44 u45 u46 u47 u48 u49 u50 u51 u52 u53 u54 u55 u56 u57 u58 u59 u60 u61 u62 u63 u64 u65 u66 u67 u68 u69 u70 u71 u72 u73 u74 u75 u76 u77 u78 u79 u80 u81 u82 u83 u84 u85 u86 u87 u88 u89 u90 u91 u92 u93 u94 u95 u96 u97 u98 u99 u100 u101 u102 u103 u104 u105 u106 u107 u108 u109 u110 u111 u112 u113 u114 u115 u116 u117 u118 u119 u120 u121 u122 u123 u124 u125 u126 u127 u128 u129 u130 u131 u132 u133 u134 u135 u136 u137 u138 u139 u140 u141)
      · have e8 : ((F : Int) / 8 == 1) = false := beq_eq_false_iff_ne.2 (by omega)
        by_cases h3 : F / 2 % 4 = 3
        · exact ddp3f_bada s w x h0' hx F _ _ (by omega) hFi hF e8 e2 e1 (beq_iff_eq.2 (by omega)) _ (hbadR (by unfold docBad; rw [hwant]; simp [h3]))
        · have hR := hgoodR (by unfold docBad; rw [hwant]; simp [h3, h8])
          have hp : docP 3 F = ⟨3, false, false, 0, [], false, 0, false, ((F / 2 % 4 : Nat) : Int), decide (F % 2 = 1), [], [], 0, .slice none 0 0, .slice none 0 0⟩ := by unfold docP; rw [if_pos rfl, decide_eq_false h8]; rfl
          rw [hp] at hR
          exact ddp3f s w x h0' hx F _ _ (by omega) hFi hF e8 e2 e1 (beq_eq_false_iff_ne.2 (by omega)) _ (fun u1 u3 u4 u7 u8 u9 u10 u11 u12 u13 u14 u15 u16 u17 u18 u19 u20 u21 u22 u23 u24 u25 u26 u27 u28 u29 u30 u31 u32 u33 u34 u35 u36 u37 u38 u39 u40 u41 u42 u43 u44 u45 u46 u47 u48 u49 u50 u51 u52 u53 u54 u55 u56 u57 u58 u59 u60 u61 u62 u63 u64 u65 u66 u67 u68 u69 u70 u71 u72 u73 u74 u75 u76 u77 u78 u79 u80 u81 u82 u83 u84 u85 u86 u87 u88 u89 u90 u91 u92 u93 u94 u95 u96 u97 u98 u99 u100 u101 u102 u103 u104 u105 u106 u107 u108 u109 u110 u111 u112 u113 u114 u115 u116 u117 u118 u119 u120 u121 u122 u123 u124 u125 u126 u127 u128 u129 u130 u131 u132 u133 u134 u135 u136 u137 u138 u139 u140 u141 => mid_any s w ⟨3, false, false, 0, [], false, 0, false, ((F / 2 % 4 : Nat) : Int), decide (F % 2 = 1), [], [], 0, .slice none 0 0, .slice none 0 0⟩ rfl rfl h0' hI hN (by show (1 : Int) ≤ 3; decide) (by show (3 : Int) ≤ 14; decide) _ hR u1 u3 u4 u7 u8 u9 u10 u11 u12 u13 u14 u15 u16 u17 u18 u19 u20 u21 u22 u23 u24 u25 u26 u27 u28 u29 u30 u31 u32 u33 u34 u35 u36 u37 u38 u39 u40 u41 u42 u43 u44 u45 u46 u47 u48 u49 u50 u51 u52 u53 u54 u55 u56 u57 u58 u59 u60 u61 u62 u63 u64 u65 u66 u67 u68 u69 u70 u71 u72 u73 u74 u75 u76 u77 u78 u79 u80 u81 u82 u83 u84 u85 u86 u87 u88 u89 u90 u91 u92 u93 u94 u95 u96 u97 u98 u99 u100 u101 u102 u103 u104 u105 u106 u107 u108 u109 u110 u111 u112 u113 u114 u115 u116 u117 u118 u119 u120 u121 u122 u123 u124 u125 u126 u127 u128 u129 u130 u131 u132 u133 u134 u135 u136 u137 u138 u139 u140 u141)
    · by_cases h2 : F = 2
      · have hR := hgoodR (by rw [h2]; rfl)
        have hp : docP 6 F = ⟨6, false, false, 0, [], false, 0, false, 0, false, [], [], 0, .slice none 0 0, .slice none 0 0⟩ := rfl
        rw [hp] at hR
        exact ddp6 s w x h0' hx F (by omega) hFi hF (by rw [h2]; rfl) _ (fun u1 u3 u4 u7 u8 u9 u10 u11 u12 u13 u14 u15 u16 u17 u18 u19 u20 u21 u22 u23 u24 u25 u26 u27 u28 u29 u30 u31 u32 u33 u34 u35 u36 u37 u38 u39 u40 u41 u42 u43 u44 u45 u46 u47 u48 u49 u50 u51 u52 u53 u54 u55 u56 u57 u58 u59 u60 u61 u62 u63 u64 u65 u66 u67 u68 u69 u70 u71 u72 u73 u74 u75 u76 u77 u78 u79 u80 u81 u82 u83 u84 u85 u86 u87 u88 u89 u90 u91 u92 u93 u94 u95 u96 u97 u98 u99 u100 u101 u102 u103 u104 u105 u106 u107 u108 u109 u110 u111 u112 u113 u114 u115 u116 u117 u118 u119 u120 u121 u122 u123 u124 u125 u126 u127 u128 u129 u130 u131 u132 u133 u134 u135 u136 u137 u138 u139 u140 u141 => mid_any s w ⟨6, false, false, 0, [], false, 0, false, 0, false, [], [], 0, .slice none 0 0, .slice none 0 0⟩ rfl rfl h0' hI hN (by decide) (by decide) _ hR u1 u3 u4 u7 u8 u9 u10 u11 u12 u13 u14 u15 u16 u17 u18 u19 u20 u21 u22 u23 u24 u25 u26 u27 u28 u29 u30 u31 u32 u33 u34 u35 u36 u37 u38 u39 u40 u41 u42 u43 u44 u45 u46 u47 u48 u49 u50 u51 u52 u53 u54 u55 u56 u57 u58 u59 u60 u61 u62 u63 u64 u65 u66 u67 u68 u69 u70 u71 u72 u73 u74 u75 u76 u77 u78 u79 u80 u81 u82 u83 u84 u85 u86 u87 u88 u89 u90 u91 u92 u93 u94 u95 u96 u97 u98 u99 u100 u101 u102 u103 u104 u105 u106 u107 u108 u109 u110 u111 u112 u113 u114 u115 u116 u117 u118 u119 u120 u121 u122 u123 u124 u125 u126 u127 u128 u129 u130 u131 u132 u133 u134 u135 u136 u137 u138 u139 u140 u141)
      · exact ddp6_bada s w x h0' hx F (by omega) hFi hF (by rw [bne, show ((F : Int) == 2) = false from beq_eq_false_iff_ne.2 (by omega)]; rfl) _ (hbadR (by unfold docBad wantF; simp [h2]))
    · by_cases h2 : F = 2
      · have hR := hgoodR (by rw [h2]; rfl)
        have hp : docP 8 F = ⟨8, false, false, 0, [], false, 0, false, 0, false, [], [], 0, .slice none 0 0, .slice none 0 0⟩ := rfl
        rw [hp] at hR
        exact ddp8 s w x h0' hx F (by omega) hFi hF (by rw [h2]; rfl) _ (fun u1 u3 u4 u7 u8 u9 u10 u11 u12 u13 u14 u15 u16 u17 u18 u19 u20 u21 u22 u23 u24 u25 u26 u27 u28 u29 u30 u31 u32 u33 u34 u35 u36 u37 u38 u39 u40 u41 u42 u43 u44 u45 u46 u47 u48 u49 u50 u51 u52 u53 u54 u55 u56 u57 u58 u59 u60 u61 u62 u63 u64 u65 u66 u67 u68 u69 u70 u71 u72 u73 u74 u75 u76 u77 u78 u79 u80 u81 u82 u83 u84 u85 u86 u87 u88 u89 u90 u91 u92 u93 u94 u95 u96 u97 u98 u99 u100 u101 u102 u103 u104 u105 u106 u107 u108 u109 u110 u111 u112 u113 u114 u115 u116 u117 u118 u119 u120 u121 u122 u123 u124 u125 u126 u127 u128 u129 u130 u131 u132 u133 u134 u135 u136 u137 u138 u139 u140 u141 => mid_any s w ⟨8, false, false, 0, [], false, 0, false, 0, false, [], [], 0, .slice none 0 0, .slice none 0 0⟩ rfl rfl h0' hI hN (by decide) (by decide) _ hR u1 u3 u4 u7 u8 u9 u10 u11 u12 u13 u14 u15 u16 u17 u18 u19 u20 u21 u22 u23 u24 u25 u26 u27 u28 u29 u30 u31 u32 u33 u34 u35 u36 u37 u38 u39 u40 u41 u42 u43 u44 u45 u46 u47 u48 u49 u50 u51 u52 u53 u54 u55 u56 u57 u58 u59 u60 u61 u62 u63 u64 u65 u66 u67 u68 u69 u70 u71 u72 u73 u74 u75 u76 u77 u78 u79 u80 u81 u82 u83 u84 u85 u86 u87 u88 u89 u90 u91 u92 u93 u94 u95 u96 u97 u98 u99 u100 u101 u102 u103 u104 u105 u106 u107 u108 u109 u110 u111 u112 u113 u114 u115 u116 u117 u118 u119 u120 u121 u122 u123 u124 u125 u126 u127 u128 u129 u130 u131 u132 u133 u134 u135 u136 u137 u138 u139 u140 u141)
      · exact ddp8_bada s w x h0' hx F (by omega) hFi hF (by rw [bne, show ((F : Int) == 2) = false from beq_eq_false_iff_ne.2 (by omega)]; rfl) _ (hbadR (by unfold docBad wantF; simp [h2]))
    · by_cases h2 : F = 2
      · have hR := hgoodR (by rw [h2]; rfl)
        have hp : docP 10 F = ⟨10, false, false, 0, [], false, 0, false, 0, false, [], [], 0, .slice none 0 0, .slice none 0 0⟩ := rfl
        rw [hp] at hR
        exact ddp10 s w x h0' hx F (by omega) hFi hF (by rw [h2]; rfl) _ (fun u1 u3 u4 u7 u8 u9 u10 u11 u12 u13 u14 u15 u16 u17 u18 u19 u20 u21 u22 u23 u24 u25 u26 u27 u28 u29 u30 u31 u32 u33 u34 u35 u36 u37 u38 u39 u40 u41 u42 u43 u44 u45 u46 u47 u48 u49 u50 u51 u52 u53 u54 u55 u56 u57 u58 u59 u60 u61 u62 u63 u64 u65 u66 u67 u68 u69 u70 u71 u72 u73 u74 u75 u76 u77 u78 u79 u80 u81 u82 u83 u84 u85 u86 u87 u88 u89 u90 u91 u92 u93 u94 u95 u96 u97 u98 u99 u100 u101 u102 u103 u104 u105 u106 u107 u108 u109 u110 u111 u112 u113 u114 u115 u116 u117 u118 u119 u120 u121 u122 u123 u124 u125 u126 u127 u128 u129 u130 u131 u132 u133 u134 u135 u136 u137 u138 u139 u140 u141 => mid_any s w ⟨10, false, false, 0, [], false, 0, false, 0, false, [], [], 0, .slice none 0 0, .slice none 0 0⟩ rfl rfl h0' hI hN (by decide) (by decide) _ hR u1 u3 u4 u7 u8 u9 u10 u11 u12 u13 u14 u15 u16 u17 u18 u19 u20 u21 u22 u23 u24 u25 u26 u27 u28 u29 u30 u31 u32 u33 u34 u35 u36 u37 u38 u39 u40 u41 u42 u43 u44 u45 u46 u47 u48 u49 u50 u51 u52 u53 u54 u55 u56 u57 u58 u59 u60 u61 u62 u63 u64 u65 u66 u67 u68 u69 u70 u71 u72 u73 u74 u75 u76 u77 u78 u79 u80 u81 u82 u83 u84 u85 u86 u87 u88 u89 u90 u91 u92 u93 u94 u95 u96 u97 u98 u99 u100 u101 u102 u103 u104 u105 u106 u107 u108 u109 u110 u111 u112 u113 u114 u115 u116 u117 u118 u119 u120 u121 u122 u123 u124 u125 u126 u127 u128 u129 u130 u131 u132 u133 u134 u135 u136 u137 u138 u139 u140 u141)
      · exact ddp10_bada s w x h0' hx F (by omega) hFi hF (by rw [bne, show ((F : Int) == 2) = false from beq_eq_false_iff_ne.2 (by omega)]; rfl) _ (hbadR (by unfold docBad wantF; simp [h2]))
    · have q3 : ((K : Int) == 3) = false := beq_eq_false_iff_ne.2 (by omega)
      have q6 : ((K : Int) == 6) = false := beq_eq_false_iff_ne.2 (by omega)
      have q8 : ((K : Int) == 8) = false := beq_eq_false_iff_ne.2 (by omega)
      have q10 : ((K : Int) == 10) = false := beq_eq_false_iff_ne.2 (by omega)
      have hwant : wantF K F = 0 := by unfold wantF; rw [if_neg k3, if_neg (by omega)]
      by_cases g1 : K < 1
      · exact ddpo_bada s w x h0' hx K F hKi hFi hK16 hF q3 q6 q8 q10 (by omega) _ (hbadR (by unfold docBad; rw [hwant]; simp [show K = 0 by omega]))
      · by_cases g14 : 14 < K
        · exact ddpo_badb s w x h0' hx K F hKi hFi hK16 hF q3 q6 q8 q10 (by omega) (by omega) _ (hbadR (by unfold docBad; rw [hwant]; simp [g14]))
        · by_cases hF0 : F = 0
          · have hR := hgoodR (by unfold docBad; rw [hwant]; simp [hF0, g14, k3]; omega)
            have hp : docP K F = ⟨(K : Int), false, false, 0, [], false, 0, false, 0, false, [], [], 0, .slice none 0 0, .slice none 0 0⟩ := by unfold docP; rw [if_neg k3]; rfl
            rw [hp] at hR
            exact ddpo s w x h0' hx K F hKi hFi hK16 hF q3 q6 q8 q10 (by omega) (by omega) (by rw [hF0]; rfl) _ (fun u1 u3 u4 u7 u8 u9 u10 u11 u12 u13 u14 u15 u16 u17 u18 u19 u20 u21 u22 u23 u24 u25 u26 u27 u28 u29 u30 u31 u32 u33 u34 u35 u36 u37 u38 u39 u40 u41 u42 u43 u44 u45 u46 u47 u48 u49 u50 u51 u52 u53 u54 u55 u56 u57 u58 u59 u60 u61 u62 u63 u64 u65 u66 u67 u68 u69 u70 u71 u72 u73 u74 u75 u76 u77 u78 u79 u80 u81 u82 u83 u84 u85 u86 u87 u88 u89 u90 u91 u92 u93 u94 u95 u96 u97 u98 u99 u100 u101 u102 u103 u104 u105 u106 u107 u108 u109 u110 u111 u112 u113 u114 u115 u116 u117 u118 u119 u120 u121 u122 u123 u124 u125 u126 u127 u128 u129 u130 u131 u132 u133 u134 u135 u136 u137 u138 u139 u140 u141 => mid_any s w ⟨(K : Int), false, false, 0, [], false, 0, false, 0, false, [], [], 0, .slice none 0 0, .slice none 0 0⟩ rfl rfl h0' hI hN (by simp only; omega) (by simp only; omega) _ hR u1 u3 u4 u7 u8 u9 u10 u11 u12 u13 u14 u15 u16 u17 u18 u19 u20 u21 u22 u23 u24 u25 u26 u27 u28 u29 u30 u31 u32 u33 u34 u35 u36 u37 u38 u39 u40 u41 u42 u43 u44 u45 u46 u47 u48 u49 u50 u51 u52 u53 u54 u55 u56 u57 u58 u59 u60 u61 u62 u63 u64 u65 u66 u67 u68 u69 u70 u71 u72 u73 u74 u75 u76 u77 u78 u79 u80 u81 u82 u83 u84 u85 u86 u87 u88 u89 u90 u91 u92 u93 u94 u95 u96 u97 u98 u99 u100 u101 u102 u103 u104 u105 u106 u107 u108 u109 u110 u111 u112 u113 u114 u115 u116 u117 u118 u119 u120 u121 u122 u123 u124 u125 u126 u127 u128 u129 u130 u131 u132 u133 u134 u135 u136 u137 u138 u139 u140 u141)
          · exact ddpo_badc s w x h0' hx K F hKi hFi hK16 hF q3 q6 q8 q10 (by omega) (by omega) (by rw [bne, show ((F : Int) == 0) = false from beq_eq_false_iff_ne.2 (by omega)]; rfl) _ (hbadR (by unfold docBad; rw [hwant]; simp [hF0]))
end Go.Proofs.YtnmfmoimjkoieaaGreatDoor.rf
