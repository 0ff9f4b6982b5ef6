/- For every two strings whose bytes are together at most about a million: the program's Decode answers as the document's does, again behind others, and leaves what goes in and what came out alone; the arguments read as they did. -/
import Derived.Test.YtnmfmoimjkoieaaGreatDoorCards
import Derived.Test.YtnmfmoimjkoieaaGreatDoorTie
import Derived.Test.YtnmfmoimjkoieaaGreatDoorMLwE
import Derived.Stop.LaidTwo
import Derived.Stop.LaidErr
import Derived.ChangeBears2
import Derived.Lib.LaidIn
import Derived.Lib.LaidU8T
import Derived.Deep.DeepHandedRow
import Derived.Deep.DeepWitnessRowRef
import Derived.ProofKit
import Derived.SizedLaws
namespace Go.Proofs.YtnmfmoimjkoieaaGreatDoor.decodes
open Go.Shelf Go.ChangeShapes Go.WideShapes Go.ChangeAt Go.RowKit Go.Lib Go.Proofs.YtnmfmoimjkoieaaGreatDoor.topPlain Go.Proofs.YtnmfmoimjkoieaaGreatDoor.topWalks
open Go.ChangeMaps (open_string shut_string)

theorem own : ownKnob Tryz.prog.godebug = none := by kernel_rfl

abbrev shortS : ByteArray := { data := #[110, 111, 116, 32, 97, 32, 119, 104, 111, 108, 101, 32, 112, 97, 99, 107, 101, 116] }
abbrev wrongS : ByteArray := { data := #[110, 111, 32, 112, 97, 99, 107, 101, 116] }
noncomputable def low : Nat := (World.holding Tryz.prog default ⟨#[], #[], []⟩).heap.size
theorem gS : Tryz.prog.globalNamed "courant/packets.ErrShort" = some 1 := by kernel_rfl
theorem gW : Tryz.prog.globalNamed "courant/packets.ErrWrong" = some 0 := by kernel_rfl
theorem gSType : (Tryz.prog.globals[1]?).map (·.type) = some 118 := by kernel_rfl
theorem gWType : (Tryz.prog.globals[0]?).map (·.type) = some 118 := by kernel_rfl
theorem cellsE : Tryz.prog.cellsOf 354 = 1 := by kernel_rfl
theorem cellsS : Tryz.prog.cellsOf 9 = 1 := by kernel_rfl
theorem star : "*" ++ "errors.errorString" = "*errors.errorString" := by decide
theorem rowE (u : TypeId) (h : Tryz.prog.typeName? 3 u = some "*errors.errorString") : u = 331 :=
  typeName_ptr_named (nm := "errors.errorString") (by rw [star]; kernel_rfl) (by kernel_rfl) (by decide) u (by rw [star]; exact h)
/-- the witness: the settled world, the two tables holding what their text lays, the two errors in their variables -/
noncomputable def laidIn (os : Os) : World :=
  let w0 := World.holding Tryz.prog os ⟨#[.cells #[.string shortS] 354, .cells #[.string wrongS] 354], #[], []⟩
  let put (h : Array Obj) (g : Nat) (cs : Array Value) : Array Obj := h.modify g fun
    | .cells _ t frozen => .cells cs t frozen
    | o => o
  let h1 := put w0.heap (Tryz.lays196_ren.g 3) (Lib.firstTab.map fun z => Value.int .u8 z).toArray
  let h2 := put h1 (Tryz.lays196_ren.g 4) ((List.range 16).flatMap fun i => [Value.int .u8 (Lib.accLo i), Value.int .u8 (Lib.accHi i)]).toArray
  let h3 := put h2 1 #[.iface 331 (.pointer (some ⟨low, 0, none⟩))]
  let h4 := put h3 0 #[.iface 331 (.pointer (some ⟨low + 1, 0, none⟩))]
  { w0 with heap := h4 }
theorem laid_is : Rows.decodesUptoRow.laid = [("unicode/utf8.acceptRanges", Lib.acceptData), ("courant/packets.ErrShort", Rows.laid_courant_packets_ErrShort), ("courant/packets.ErrWrong", Rows.laid_courant_packets_ErrWrong), ("unicode/utf8.first", Lib.firstData)] := by kernel_rfl
theorem laid_met (os : Os) (args : Array Value) : laidMet Tryz.prog Rows.decodesUptoRow.laid ((laidIn os).forCall (fun _ _ => 0) ⟨#[], args, []⟩).memory := by
  rw [laid_is]
  exact (LaidIn.of_run (l := [("unicode/utf8.acceptRanges", Lib.acceptData), ("courant/packets.ErrShort", Rows.laid_courant_packets_ErrShort), ("courant/packets.ErrWrong", Rows.laid_courant_packets_ErrWrong), ("unicode/utf8.first", Lib.firstData)]) [Tryz.lays196_ren.g 4, Tryz.lays196_ren.g 3, 1, 0, low, low + 1] 8 (by kernel_rfl) (by kernel_rfl) (by kernel_rfl) (by kernel_rfl)).met

theorem witness_row (os : Os) {H : Type} (enc : TypeId × Value → H) :
    (Rows.OpenSpec.upto Rows.decodesSpec).preRow enc Tryz.prog Tryz.f3 Rows.decodesUptoRow.domain false Rows.decodesUptoRow.laid ((laidIn os).forCall (fun _ _ => 0) ⟨#[], #[.string ⟨#[]⟩, .string ⟨#[]⟩], []⟩).memory #[.string ⟨#[]⟩, .string ⟨#[]⟩] := by
  have hw : (DataW.whole enc Tryz.prog ((laidIn os).forCall (fun _ _ => 0) ⟨#[], #[.string ⟨#[]⟩, .string ⟨#[]⟩], []⟩).memory Tryz.f3.params.toList (Rows.OpenSpec.upto Rows.decodesSpec).vars false #[Value.string ⟨#[]⟩, Value.string ⟨#[]⟩].toList 8).map (fun x => (x.1, x.2.1)) =
      some ([.lit (.string []), .lit (.string [])], []) := by kernel_rfl
  obtain ⟨⟨x1, x2, x3⟩, hx, hx1⟩ := Option.map_eq_some_iff.1 hw
  simp only [Prod.mk.injEq] at hx1
  obtain ⟨rfl, rfl⟩ := hx1
  exact OpenSpec.preRow_of_cond 8 hx (by kernel_rfl) (fun k hk => by cases hk; kernel_rfl) (by kernel_rfl) (laid_met os _)

theorem reads {W : World} (hL : laidMetH Tryz.prog Rows.decodesUptoRow.laid W) : laidMet Tryz.prog [("unicode/utf8.acceptRanges", Lib.acceptData), ("courant/packets.ErrShort", Rows.laid_courant_packets_ErrShort), ("courant/packets.ErrWrong", Rows.laid_courant_packets_ErrWrong), ("unicode/utf8.first", Lib.firstData)] W := by
  rw [laid_is] at hL
  exact hL

set_option maxRecDepth 100000 in
set_option maxHeartbeats 2000000 in
theorem lifted (os : Os) (started : os.Started) (H : Type) (enc : TypeId × Value → H) (F : Stop.Interp) :
    ReturnsInHanded {} Tryz.checked os 3 .any ((Rows.OpenSpec.upto Rows.decodesSpec).preRow enc Tryz.prog Tryz.f3 Rows.decodesUptoRow.domain false Rows.decodesUptoRow.laid) (((Rows.OpenSpec.upto Rows.decodesSpec).at F).post enc Tryz.prog Tryz.f3 false true false false) := by
  refine returnsInHanded_of_row (C := Tryz.checked) (s := Rows.OpenSpec.upto Rows.decodesSpec) own started (by kernel_rfl) Tryz.func3
    (witness_row_atRef (enc := enc) (C := Tryz.checked) false (laidIn os) #[.string ⟨#[]⟩, .string ⟨#[]⟩] rfl (by kernel_rfl) (by kernel_rfl) (by kernel_rfl) (witness_row os enc)) ?_
  intro W base args ds gs before hval0 hW _ hcond0 _ hL hsh _
  have hcond : Rows.uptoSmall H (ds ++ gs) = true := hcond0 _ rfl
  clear hcond0
  have hval : ∀ (j : Nat) t v, Tryz.f3.params[j]? = some t → args[j]? = some v → Value.okWide Tryz.prog W .any base t v := hval0
  have hW' := hW
  obtain ⟨p, q, hA0, hV0, rfl, _, _⟩ := hW
  have hA : DataW.TrodAll enc Tryz.prog W 0 (fun _ => true) true Tryz.f3.params.toList args.toList ds p := hA0
  rw [Tryz.params3] at hA hval
  obtain ⟨v0, v1, d0, d1, p0, p1, rfl, rfl, rfl, h0, h1⟩ := trodAll_two hA
  obtain ⟨rfl, rfl⟩ := trodVars_none hV0
  obtain ⟨f, rfl, rfl, rfl, wf⟩ := open_string Tryz.underlying9 (hval 0 9 v0 rfl rfl) h0
  obtain ⟨t, rfl, rfl, rfl, wt⟩ := open_string Tryz.underlying9 (hval 1 9 v1 rfl rfl) h1
  clear hA0 hV0 hval0
  have hk := of_decide_eq_true hcond
  simp only [List.append_nil, Rows.uptoBulkAll, Rows.uptoBulk] at hk
  have zf := Lib.size_eq f
  have zt := Lib.size_eq t
  have hI : topWalks.Inv W :=
    ⟨utf8Tabs_of_readsT (U8Types.of196 Tryz.lays196) ⟨by kernel_rfl, by kernel_rfl, by kernel_rfl, by kernel_rfl, by kernel_rfl, by kernel_rfl, by kernel_rfl⟩ (Lib.laidMet.reads (reads hL) (.tail _ (.tail _ (.tail _ (.head _))))) (Lib.laidMet.reads (reads hL) (.head _)),
      Tryz.laysM144.s1_3 W hsh⟩
  obtain ⟨a0, a1, s0, s1, c0, c1, t0, t1, hv0, hv1, hc0, hs0, hz0, hc1, hs1, hz1, hne, hb0, hb1⟩ := laid_sentinels2 (laidMet.tail (reads hL)) gS gSType gW gWType Tryz.underlying118 rowE Tryz.underlying331 Tryz.underlying354 rfl rfl Tryz.underlying9 cellsE cellsS
  have hE : rd.Errs a0 a1 W := ⟨var?_cell gS hv0 0, var?_cell gW hv1 0, hne, ⟨c0, t0, hb0⟩, ⟨c1, t1, hb1⟩⟩
  refine (lw.lawDecodes_any a0 a1 W f t (by omega) (by omega) hE ⟨?_, Nat.le_refl _, hE.wrong, hI⟩).mono ?_
  · obtain ⟨m, hm⟩ := hI.2
    have h1 : Tryz.laysM144_ren.g 1 < W.heap.size := topWalks.cell_lt hm
    have e : Tryz.laysM144_ren.g 1 + 1 = 5 := rfl
    omega
  rintro e W' ⟨rfl, bel⟩
  have e1 : ((Rows.OpenSpec.upto Rows.decodesSpec).at F).fn H ([.lit (.string f.data.toList), .lit (.string t.data.toList)] ++ []) = { results := [.lit (.bool true)], args := [.lit (.string f.data.toList), .lit (.string t.data.toList)] } := rfl
  refine ⟨_, rfl, _, _, _, [], [], [], hW', ?_, ?_, ?_, bel.frame _, fun h => by cases h⟩
  · rw [e1]; exact trodAll_mk1 (shut_bool Tryz.underlying4 _)
  · rw [e1]; exact trodAll_mk2 (shut_string Tryz.underlying9 wf) (shut_string Tryz.underlying9 wt)
  · rw [e1]; rfl

theorem saidUpto : Rows.DecodesUptoSaid :=
  OpenClaim.holds_of_cond 3 Tryz.f3 rfl rfl rfl rfl rfl rfl rfl ⟨rfl, rfl, rfl, rfl, rfl⟩ rfl rfl rfl rfl rfl (by kernel_rfl) Tryz.func3 (by kernel_rfl)
    (of_decide_eq_true (by kernel_rfl)) (by unfold Func.isWrapper; first | (rw [if_pos (by decide +kernel)]; kernel_rfl) | (rw [if_neg (by decide +kernel)]; exact ⟨rfl, rfl⟩))
    (fun os started H enc _ F => by rw [OpenClaim.pre_eq_preRow]; exact lifted os started H enc F)

/-- No parameter wants a stand-in; the program's own looks are off. -/
theorem plain (g : FuncId) (fn : Func) (hf : Tryz.pinned.checked.prog.funcNamed "courant/courantlaw.Decodes" = some g) (hfn : Tryz.pinned.checked.prog.funcs[g]? = some fn) :
    true = Tryz.pinned.checked.prog.looks [] ∧ ∀ (j : Nat) t, fn.params[j]? = some t → Tryz.pinned.checked.prog.wantsStandIn t = false := by
  obtain rfl : g = 3 := Option.some.inj ((show Tryz.prog.funcNamed "courant/courantlaw.Decodes" = some 3 by kernel_rfl).symm.trans hf) |>.symm
  obtain rfl : fn = Tryz.f3 := (Option.some.inj (Tryz.func3.symm.trans hfn)).symm
  refine ⟨by kernel_rfl, fun j t ht => ?_⟩
  rw [Tryz.params3] at ht
  obtain rfl : t = 9 := by simpa using Array.mem_of_getElem? ht
  exact (show Tryz.prog.wantsStandIn 9 = false by kernel_rfl)

/-- The second form's card. -/
theorem cardUpto : Rows.DecodesUptoCardSaid :=
  Claim7.holds_tied_plain_at .later [] _ _ _ _ saidUpto (fun _ h => by cases h) (by kernel_rfl) (fun _ h => by cases h) decodesUpto_row_tie rfl ⟨rfl, rfl⟩ (by kernel_rfl) rfl plain (by kernel_rfl)
end Go.Proofs.YtnmfmoimjkoieaaGreatDoor.decodes
namespace Go.Proofs.YtnmfmoimjkoieaaGreatDoor
theorem decodes_card_upto : Rows.DecodesUptoCardSaid := decodes.cardUpto
end Go.Proofs.YtnmfmoimjkoieaaGreatDoor
