import Derived.Test.YtnmfmoimjkoieaaGreatDoorCards
import Derived.Test.YtnmfmoimjkoieaaGreatDoorTie
import Derived.Test.YtnmfmoimjkoieaaGreatDoorF51
import Derived.ChangeSlices
import Derived.ChangeArms
import Derived.ChangeReads
import Derived.DataShut
import Derived.Stop.LaidTwo
import Derived.Stop.LaidErr
import Derived.ChangeBears2
import Derived.ChangeOld
import Derived.Carry
import Derived.Lib.LaidIn
import Derived.Lib.LaidU8T
import Derived.Deep.DeepHandedRow
import Derived.Deep.DeepWitnessRowRef
import Derived.ProofKit
import Derived.SizedLaws
namespace Go.Proofs.YtnmfmoimjkoieaaGreatDoor.whole
open Go.Shelf Go.ChangeShapes Go.WideShapes Go.ChangeAt Go.RowKit Go.Lib Go.Proofs.YtnmfmoimjkoieaaGreatDoor.topPlain Go.Proofs.YtnmfmoimjkoieaaGreatDoor.topWalks
open Go.Proofs.YtnmfmoimjkoieaaGreatDoor.br (Gd)
theorem own : ownKnob Tryz.prog.godebug = none := by kernel_rfl
abbrev shortS : ByteArray := { data := #[110, 111, 116, 32, 97, 32, 119, 104, 111, 108, 101, 32, 112, 97, 99, 107, 101, 116] }
abbrev wrongS : ByteArray := { data := #[110, 111, 32, 112, 97, 99, 107, 101, 116] }
noncomputable def low : Nat := (World.holding Tryz.prog default ⟨#[], #[], []⟩).heap.size
theorem gS : Tryz.prog.globalNamed "courant/packets.ErrShort" = some 1 := by kernel_rfl
theorem gW : Tryz.prog.globalNamed "courant/packets.ErrWrong" = some 0 := by kernel_rfl
theorem gSType : (Tryz.prog.globals[1]?).map (·.type) = some 118 := by kernel_rfl
theorem gWType : (Tryz.prog.globals[0]?).map (·.type) = some 118 := by kernel_rfl
theorem cellsE : Tryz.prog.cellsOf 354 = 1 := by kernel_rfl
theorem cellsS : Tryz.prog.cellsOf 9 = 1 := by kernel_rfl
theorem star : "*" ++ "errors.errorString" = "*errors.errorString" := by decide
theorem rowE (u : TypeId) (h : Tryz.prog.typeName? 3 u = some "*errors.errorString") : u = 331 :=
  typeName_ptr_named (nm := "errors.errorString") (by rw [star]; kernel_rfl) (by kernel_rfl) (by decide) u (by rw [star]; exact h)
noncomputable def laidIn (os : Os) : World :=
  let w0 := World.holding Tryz.prog os ⟨#[.cells #[.string shortS] 354, .cells #[.string wrongS] 354], #[], []⟩
  let put (h : Array Obj) (g : Nat) (cs : Array Value) : Array Obj := h.modify g fun
    | .cells _ t frozen => .cells cs t frozen
    | o => o
  let h1 := put w0.heap (Tryz.lays196_ren.g 3) (Lib.firstTab.map fun z => Value.int .u8 z).toArray
  let h2 := put h1 (Tryz.lays196_ren.g 4) ((List.range 16).flatMap fun i => [Value.int .u8 (Lib.accLo i), Value.int .u8 (Lib.accHi i)]).toArray
  let h3 := put h2 1 #[.iface 331 (.pointer (some ⟨low, 0, none⟩))]
  let h4 := put h3 0 #[.iface 331 (.pointer (some ⟨low + 1, 0, none⟩))]
  { w0 with heap := h4 }
theorem laid_is : Rows.wholeRow.laid = [("unicode/utf8.acceptRanges", Lib.acceptData), ("courant/packets.ErrShort", Rows.laid_courant_packets_ErrShort), ("courant/packets.ErrWrong", Rows.laid_courant_packets_ErrWrong), ("unicode/utf8.first", Lib.firstData)] := by kernel_rfl
theorem laid_met (os : Os) (args : Array Value) : laidMet Tryz.prog Rows.wholeRow.laid ((laidIn os).forCall (fun _ _ => 0) ⟨#[], args, []⟩).memory := by
  rw [laid_is]
  exact (LaidIn.of_run (l := [("unicode/utf8.acceptRanges", Lib.acceptData), ("courant/packets.ErrShort", Rows.laid_courant_packets_ErrShort), ("courant/packets.ErrWrong", Rows.laid_courant_packets_ErrWrong), ("unicode/utf8.first", Lib.firstData)]) [Tryz.lays196_ren.g 4, Tryz.lays196_ren.g 3, 1, 0, low, low + 1] 8 (by kernel_rfl) (by kernel_rfl) (by kernel_rfl) (by kernel_rfl)).met
abbrev zeroI : Value := .int .i64 0
theorem witness_row (os : Os) {H : Type} (enc : TypeId × Value → H) :
    (OpenSpec.ofChange Rows.wholeSpec).preRow enc Tryz.prog Tryz.f9 Rows.wholeRow.domain false Rows.wholeRow.laid ((laidIn os).forCall (fun _ _ => 0) ⟨#[], #[zeroI, zeroI, zeroI, zeroI], []⟩).memory #[zeroI, zeroI, zeroI, zeroI] := by
  have hw : (DataW.whole enc Tryz.prog ((laidIn os).forCall (fun _ _ => 0) ⟨#[], #[zeroI, zeroI, zeroI, zeroI], []⟩).memory Tryz.f9.params.toList (OpenSpec.ofChange Rows.wholeSpec).vars false #[zeroI, zeroI, zeroI, zeroI].toList 8).map (fun x => (x.1, x.2.1)) =
      some ([.lit (.int .i64 0), .lit (.int .i64 0), .lit (.int .i64 0), .lit (.int .i64 0)], []) := by kernel_rfl
  obtain ⟨⟨x1, x2, x3⟩, hx, hx1⟩ := Option.map_eq_some_iff.1 hw
  simp only [Prod.mk.injEq] at hx1
  obtain ⟨rfl, rfl⟩ := hx1
  exact OpenSpec.preRow_of_cond 8 hx (by kernel_rfl) (fun k hk => by cases hk) (by kernel_rfl) (laid_met os _)
theorem reads {W : World} (hL : laidMetH Tryz.prog Rows.wholeRow.laid W) : laidMet Tryz.prog [("unicode/utf8.acceptRanges", Lib.acceptData), ("courant/packets.ErrShort", Rows.laid_courant_packets_ErrShort), ("courant/packets.ErrWrong", Rows.laid_courant_packets_ErrWrong), ("unicode/utf8.first", Lib.firstData)] W := by
  rw [laid_is] at hL
  exact hL
theorem i64_wf {n : Int} (h : (Lit.int .i64 n).wf = true) : -9223372036854775808 ≤ n ∧ n ≤ 9223372036854775807 := by
  have := (Lit.wf_int_iff .i64 n).1 h
  simpa [IntKind.min, IntKind.max, IntKind.signed, IntKind.bits] using this
set_option maxRecDepth 100000 in
set_option maxHeartbeats 2000000 in
theorem lifted (os : Os) (started : os.Started) (H : Type) (enc : TypeId × Value → H) (F : Stop.Interp) :
    ReturnsInHanded {} Tryz.checked os 9 .any ((OpenSpec.ofChange Rows.wholeSpec).preRow enc Tryz.prog Tryz.f9 Rows.wholeRow.domain false Rows.wholeRow.laid) (((OpenSpec.ofChange Rows.wholeSpec).at F).post enc Tryz.prog Tryz.f9 false true false false) := by
  refine returnsInHanded_of_row (C := Tryz.checked) (s := OpenSpec.ofChange Rows.wholeSpec) own started (by kernel_rfl) Tryz.func9
    (witness_row_atRef (enc := enc) (C := Tryz.checked) false (laidIn os) #[zeroI, zeroI, zeroI, zeroI] rfl (by kernel_rfl) (by kernel_rfl) (by kernel_rfl) (witness_row os enc)) ?_
  intro W base args ds gs before hval0 hW _ _ _ hL hsh _
  have hval : ∀ (j : Nat) t v, Tryz.f9.params[j]? = some t → args[j]? = some v → Value.okWide Tryz.prog W .any base t v := hval0
  have hW' := hW
  obtain ⟨p, q, hA0, hV0, rfl, _, _⟩ := hW
  have hA : DataW.TrodAll enc Tryz.prog W 0 (fun _ => true) true Tryz.f9.params.toList args.toList ds p := hA0
  rw [Tryz.params9] at hA hval
  obtain ⟨v0, v1, v2, v3, d0, d1, d2, d3, p0, p1, p2, p3, rfl, rfl, rfl, h0, h1, h2, h3⟩ := trodAll_four hA
  obtain ⟨rfl, rfl⟩ := trodVars_none hV0
  obtain ⟨z0, rfl, rfl, rfl, wz0⟩ := Go.ChangeShapes.open_int Tryz.underlying3 (hval 0 3 v0 rfl rfl) h0
  obtain ⟨z1, rfl, rfl, rfl, wz1⟩ := Go.ChangeShapes.open_int Tryz.underlying3 (hval 1 3 v1 rfl rfl) h1
  obtain ⟨z2, rfl, rfl, rfl, wz2⟩ := Go.ChangeShapes.open_int Tryz.underlying3 (hval 2 3 v2 rfl rfl) h2
  obtain ⟨z3, rfl, rfl, rfl, wz3⟩ := Go.ChangeShapes.open_int Tryz.underlying3 (hval 3 3 v3 rfl rfl) h3
  clear hA0 hV0 hval0
  have hI : topWalks.Inv W :=
    ⟨utf8Tabs_of_readsT (U8Types.of196 Tryz.lays196) ⟨by kernel_rfl, by kernel_rfl, by kernel_rfl, by kernel_rfl, by kernel_rfl, by kernel_rfl, by kernel_rfl⟩ (Lib.laidMet.reads (reads hL) (.tail _ (.tail _ (.tail _ (.head _))))) (Lib.laidMet.reads (reads hL) (.head _)),
      Tryz.laysM144.s1_3 W hsh⟩
  obtain ⟨a0, a1, s0, s1, c0, c1, t0, t1, hv0, hv1, hc0, hs0, hz0, hc1, hs1, hz1, hne, hb0, hb1⟩ := laid_sentinels2 (laidMet.tail (reads hL)) gS gSType gW gWType Tryz.underlying118 rowE Tryz.underlying331 Tryz.underlying354 rfl rfl Tryz.underlying9 cellsE cellsS
  have hE : rd.Errs a0 a1 W := ⟨var?_cell gS hv0 0, var?_cell gW hv1 0, hne, ⟨c0, t0, hb0⟩, ⟨c1, t1, hb1⟩⟩
  have hG : Gd W.heap.size a0 a1 W := by
    refine ⟨hE, ⟨?_, Nat.le_refl _, hE.wrong, hI⟩, (Array.getElem?_eq_some_iff.1 hb0).1, (Array.getElem?_eq_some_iff.1 hb1).1⟩
    obtain ⟨m, hm⟩ := hI.2
    have h1 : Tryz.laysM144_ren.g 1 < W.heap.size := topWalks.cell_lt hm
    have e : Tryz.laysM144_ren.g 1 + 1 = 5 := rfl
    omega
  refine (kw.whole_st z0 z1 z2 z3 (i64_wf wz0).1 (i64_wf wz0).2 (i64_wf wz1).1 (i64_wf wz1).2 (i64_wf wz2).1 (i64_wf wz2).2 (i64_wf wz3).1 (i64_wf wz3).2 W a0 a1 hG).mono ?_
  rintro e W' ⟨rfl, bel⟩
  refine ⟨_, rfl, _, _, _, [], [] ++ ([] ++ ([] ++ [])), [], hW', ?_, ?_, ?_, bel.frame _, fun h => by cases h⟩
  · exact trodAll_mk1 (shut_bool Tryz.underlying4 _)
  · exact trodAll_mk4 (shut_int Tryz.underlying3 wz0) (shut_int Tryz.underlying3 wz1) (shut_int Tryz.underlying3 wz2) (shut_int Tryz.underlying3 wz3)
  · rfl
end Go.Proofs.YtnmfmoimjkoieaaGreatDoor.whole
