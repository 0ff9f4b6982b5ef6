import Derived.Test.YtnmfmoimjkoieaaGreatDoorCards
import Derived.Test.YtnmfmoimjkoieaaGreatDoorK31
import Derived.Test.YtnmfmoimjkoieaaGreatDoorK32
import Derived.Deep.SlicePairs
import Derived.ChangeSlices
import Derived.ChangeArms
import Derived.ChangeReads
import Derived.DataShut
/- A packet as an argument reads: its cells, its two lists in memory. -/
namespace Go.Proofs.YtnmfmoimjkoieaaGreatDoor.reread
open Go.RowKit Go.Proofs.YtnmfmoimjkoieaaGreatDoor.topPlain Go.Proofs.YtnmfmoimjkoieaaGreatDoor.topWalks Go.Proofs.YtnmfmoimjkoieaaGreatDoor.decPlain Go.Proofs.YtnmfmoimjkoieaaGreatDoor.rd
open Go.Proofs.YtnmfmoimjkoieaaGreatDoor.ew (FilW IntW)
open Go.ChangeShapes Go.WideShapes

section
variable {H : Type}
def strL : Value → List UInt8
  | .string s => s.data.toList
  | _ => []
def numL : Value → Int
  | .int _ n => n
  | _ => 0
theorem i64_wf {n : Int} (h : (Lit.int .i64 n).wf = true) : -9223372036854775808 ≤ n ∧ n ≤ 9223372036854775807 := by
  have := (Lit.wf_int_iff .i64 n).1 h
  simpa [IntKind.min, IntKind.max, IntKind.signed, IntKind.bits] using this
theorem adr (g o j : Nat) : (⟨g, o, none⟩ : Addr).add j = ⟨g, o + j, none⟩ := by simp [Addr.add]
variable {enc : TypeId × Value → H} {W : World}
theorem open_fil {fuel : Nat} {v : Value} {x : DataW H × List MemPlace} (h : DataW.trod enc Tryz.prog W 0 (fun _ => true) true fuel 33 [v] = some x) :
    ∃ fs, FilW W v fs := by
  rcases Deep.open_slice_pairs Tryz.underlying33 Tryz.underlying95 (by kernel_rfl) rfl rfl (by kernel_rfl) (by kernel_rfl) h with ⟨h0, _⟩ | ⟨a, len, cap, m, n, V0, V1, D0, D1, P0, P1, h0, _, hl, hm, hmm, hx, hat⟩
  · injection h0 with h0 _
    subst h0
    exact ⟨[], none, 0, rfl, Nat.zero_le _, fun j f hj => by simp at hj⟩
  · injection h0 with h0 _
    subst h0
    simp only [if_true] at hmm
    subst hmm
    have key : ∀ i, i < len → ∃ s z, V0 i = .string s ∧ V1 i = .int .i64 z ∧ D0 i = .lit (.string s.data.toList) := fun i hi => by
      obtain ⟨_, _, g0, g1⟩ := hat i (by omega)
      obtain ⟨s, e0, e1, _⟩ := DataW.trod_string Tryz.underlying9 g0
      obtain ⟨z, e2, e3, _⟩ := DataW.trod_int Tryz.underlying3 g1
      injection e0 with e0 _
      injection e2 with e2 _
      injection e1 with e1 _
      exact ⟨s, z, e0, e2, e1⟩
    refine ⟨(List.range len).map fun i => (strL (V0 i), numL (V1 i)), some a, _, by rw [List.length_map, List.length_range], by simp; omega, fun j f hj => ?_⟩
    · have hjl : j < len := by have := (List.getElem?_eq_some_iff.1 hj).1; simpa using this
      obtain ⟨s, z, e0, e1, _⟩ := key j hjl
      have hfe : f = (s.data.toList, z) := by
        simp [hjl, e0, e1, strL, numL] at hj
        exact hj.symm
      subst hfe
      obtain ⟨c0, c1, _, _⟩ := hat j (by omega)
      obtain ⟨g, o, spot⟩ := a
      have hspot : spot = none := by simpa [Addr.add] using World.cell?_spot (hat 0 (by omega)).1
      subst hspot
      rw [e0, adr] at c0
      rw [e1, adr] at c1
      exact ⟨g, o, rfl, topWalks.cell_lt c0, by rw [bs_data]; exact c0, by rw [Nat.add_assoc]; exact c1⟩
theorem open_int {fuel : Nat} {v : Value} {x : DataW H × List MemPlace} (h : DataW.trod enc Tryz.prog W 0 (fun _ => true) true fuel 34 [v] = some x) :
    ∃ cs, IntW W v cs := by
  rcases open_ints Tryz.underlying34 Tryz.underlying3 (by kernel_rfl) h with ⟨h0, _⟩ | ⟨a, len, cap, zs, h0, _, hl, hm, hz, hx, hat, _⟩
  · injection h0 with h0 _
    subst h0
    exact ⟨[], none, 0, rfl, Nat.zero_le _, fun j f hj => by simp at hj⟩
  · injection h0 with h0 _
    subst h0
    simp only [if_true] at hz
    have hlz : (zs.take len).length = len := by rw [List.length_take]; omega
    refine ⟨zs.take len, some a, cap, by rw [hlz], by omega, fun j f hj => ?_⟩
    · have hjl : j < len := by have := (List.getElem?_eq_some_iff.1 hj).1; omega
      have c0 := hat j (by omega)
      have hfe : zs.getD j 0 = f := by
        rw [List.getElem?_take_of_lt hjl] at hj
        rw [List.getD_eq_getElem?_getD, hj]
        rfl
      rw [hfe] at c0
      obtain ⟨g, o, spot⟩ := a
      have hspot : spot = none := by simpa [Addr.add] using World.cell?_spot (hat 0 (by omega))
      subst hspot
      rw [adr] at c0
      exact ⟨g, o, rfl, topWalks.cell_lt c0, c0⟩
theorem c3 : Tryz.prog.cellsOf 3 = 1 := by kernel_rfl
theorem c4 : Tryz.prog.cellsOf 4 = 1 := by kernel_rfl
theorem c9 : Tryz.prog.cellsOf 9 = 1 := by kernel_rfl
theorem cF : Tryz.prog.cellsOf 33 = 1 := by kernel_rfl
theorem cI : Tryz.prog.cellsOf 34 = 1 := by kernel_rfl
theorem cP : Tryz.prog.cellsOf 36 = 15 := by kernel_rfl
set_option maxHeartbeats 1600000 in
set_option maxRecDepth 100000 in
theorem open_pkt {fuel : Nat} {vs : List Value} {x : DataW H × List MemPlace} (h : DataW.trod enc Tryz.prog W 0 (fun _ => true) true fuel 36 vs = some x) :
    ∃ p fs cs, vs = (pkCells p).toList ∧ FilW W p.fv fs ∧ IntW W p.cv cs := by
  obtain ⟨xs, n, _, rfl, hlen, hxl, hf⟩ := DataW.trod_struct Tryz.underlying36 h
  rw [cP] at hlen
  match xs, hxl, vs, hlen with
    | [y0, y1, y2, y3, y4, y5, y6, y7, y8, y9, y10, y11, y12, y13, y14], _, [v0, v1, v2, v3, v4, v5, v6, v7, v8, v9, v10, v11, v12, v13, v14], _ =>
      have g0 := hf 0 _ rfl
      have g1 := hf 1 _ rfl
      have g2 := hf 2 _ rfl
      have g3 := hf 3 _ rfl
      have g4 := hf 4 _ rfl
      have g5 := hf 5 _ rfl
      have g6 := hf 6 _ rfl
      have g7 := hf 7 _ rfl
      have g8 := hf 8 _ rfl
      have g9 := hf 9 _ rfl
      have g10 := hf 10 _ rfl
      have g11 := hf 11 _ rfl
      have g12 := hf 12 _ rfl
      have g13 := hf 13 _ rfl
      have g14 := hf 14 _ rfl
      simp [c3, c4, c9, cF, cI] at g0 g1 g2 g3 g4 g5 g6 g7 g8 g9 g10 g11 g12 g13 g14
      obtain ⟨n0, e0, d0, w0⟩ := DataW.trod_int Tryz.underlying3 g0
      injection e0 with e0 _
      subst e0 d0
      obtain ⟨n1, e1, d1⟩ := DataW.trod_bool Tryz.underlying4 g1
      injection e1 with e1 _
      subst e1 d1
      obtain ⟨n2, e2, d2⟩ := DataW.trod_bool Tryz.underlying4 g2
      injection e2 with e2 _
      subst e2 d2
      obtain ⟨n3, e3, d3, w3⟩ := DataW.trod_int Tryz.underlying3 g3
      injection e3 with e3 _
      subst e3 d3
      obtain ⟨n4, e4, d4, w4⟩ := DataW.trod_string Tryz.underlying9 g4
      injection e4 with e4 _
      subst e4 d4
      obtain ⟨n5, e5, d5⟩ := DataW.trod_bool Tryz.underlying4 g5
      injection e5 with e5 _
      subst e5 d5
      obtain ⟨n6, e6, d6, w6⟩ := DataW.trod_int Tryz.underlying3 g6
      injection e6 with e6 _
      subst e6 d6
      obtain ⟨n7, e7, d7⟩ := DataW.trod_bool Tryz.underlying4 g7
      injection e7 with e7 _
      subst e7 d7
      obtain ⟨n8, e8, d8, w8⟩ := DataW.trod_int Tryz.underlying3 g8
      injection e8 with e8 _
      subst e8 d8
      obtain ⟨n9, e9, d9⟩ := DataW.trod_bool Tryz.underlying4 g9
      injection e9 with e9 _
      subst e9 d9
      obtain ⟨n10, e10, d10, w10⟩ := DataW.trod_string Tryz.underlying9 g10
      injection e10 with e10 _
      subst e10 d10
      obtain ⟨n11, e11, d11, w11⟩ := DataW.trod_string Tryz.underlying9 g11
      injection e11 with e11 _
      subst e11 d11
      obtain ⟨n12, e12, d12, w12⟩ := DataW.trod_int Tryz.underlying3 g12
      injection e12 with e12 _
      subst e12 d12
      obtain ⟨fs, hfs⟩ := open_fil g13
      obtain ⟨cs, hcs⟩ := open_int g14
      exact ⟨⟨n0, n1, n2, n3, n4.data.toList, n5, n6, n7, n8, n9, n10.data.toList, n11.data.toList, n12, v13, v14⟩, fs, cs, by simp [pkCells, bs_data], hfs, hcs⟩
end
end Go.Proofs.YtnmfmoimjkoieaaGreatDoor.reread
