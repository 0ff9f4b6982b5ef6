import Derived.Test.YtnmfmoimjkoieaaGreatDoorCards
import Derived.Test.YtnmfmoimjkoieaaGreatDoorTie
import Derived.Test.YtnmfmoimjkoieaaGreatDoorK33
import Derived.Stop.LaidTwo
import Derived.Stop.LaidErr
import Derived.ChangeBears2
import Derived.ChangeOld
import Derived.Carry
import Derived.Lib.LaidIn
import Derived.Lib.LaidU8T
import Derived.Deep.DeepHandedRow
import Derived.Deep.DeepWitnessRowRef
import Derived.ProofKit
import Derived.SizedLaws
/- For every packet, every text and every number whose bulk is at most about a million: what Encode makes Decode reads, whatever follows; cut short it is not whole; what Decode reads Encode makes again; and the head (a run of the broker) answers as the document says; the arguments read as they did. -/
namespace Go.Proofs.YtnmfmoimjkoieaaGreatDoor.reread
open Go.Shelf Go.ChangeShapes Go.WideShapes Go.ChangeAt Go.RowKit Go.Lib Go.Proofs.YtnmfmoimjkoieaaGreatDoor.topPlain Go.Proofs.YtnmfmoimjkoieaaGreatDoor.topWalks
open Go.ChangeMaps (open_string shut_string)
open Go.Proofs.YtnmfmoimjkoieaaGreatDoor.br (Gd reread_none reread_some)

theorem own : ownKnob Tryz.prog.godebug = none := by kernel_rfl

abbrev shortS : ByteArray := { data := #[110, 111, 116, 32, 97, 32, 119, 104, 111, 108, 101, 32, 112, 97, 99, 107, 101, 116] }
abbrev wrongS : ByteArray := { data := #[110, 111, 32, 112, 97, 99, 107, 101, 116] }
noncomputable def low : Nat := (World.holding Tryz.prog default ⟨#[], #[], []⟩).heap.size
theorem gS : Tryz.prog.globalNamed "courant/packets.ErrShort" = some 1 := by kernel_rfl
theorem gW : Tryz.prog.globalNamed "courant/packets.ErrWrong" = some 0 := by kernel_rfl
theorem gSType : (Tryz.prog.globals[1]?).map (·.type) = some 118 := by kernel_rfl
theorem gWType : (Tryz.prog.globals[0]?).map (·.type) = some 118 := by kernel_rfl
theorem cellsE : Tryz.prog.cellsOf 354 = 1 := by kernel_rfl
theorem cellsS : Tryz.prog.cellsOf 9 = 1 := by kernel_rfl
theorem star : "*" ++ "errors.errorString" = "*errors.errorString" := by decide
theorem rowE (u : TypeId) (h : Tryz.prog.typeName? 3 u = some "*errors.errorString") : u = 331 :=
  typeName_ptr_named (nm := "errors.errorString") (by rw [star]; kernel_rfl) (by kernel_rfl) (by decide) u (by rw [star]; exact h)
/-- the witness: the settled world, the two tables holding what their text lays, the two errors in their variables -/
noncomputable def laidIn (os : Os) : World :=
  let w0 := World.holding Tryz.prog os ⟨#[.cells #[.string shortS] 354, .cells #[.string wrongS] 354], #[], []⟩
  let put (h : Array Obj) (g : Nat) (cs : Array Value) : Array Obj := h.modify g fun
    | .cells _ t frozen => .cells cs t frozen
    | o => o
  let h1 := put w0.heap (Tryz.lays196_ren.g 3) (Lib.firstTab.map fun z => Value.int .u8 z).toArray
  let h2 := put h1 (Tryz.lays196_ren.g 4) ((List.range 16).flatMap fun i => [Value.int .u8 (Lib.accLo i), Value.int .u8 (Lib.accHi i)]).toArray
  let h3 := put h2 1 #[.iface 331 (.pointer (some ⟨low, 0, none⟩))]
  let h4 := put h3 0 #[.iface 331 (.pointer (some ⟨low + 1, 0, none⟩))]
  { w0 with heap := h4 }
theorem laid_is : Rows.rereadUptoRow.laid = [("unicode/utf8.acceptRanges", Lib.acceptData), ("courant/packets.ErrShort", Rows.laid_courant_packets_ErrShort), ("courant/packets.ErrWrong", Rows.laid_courant_packets_ErrWrong), ("unicode/utf8.first", Lib.firstData)] := by kernel_rfl
theorem laid_met (os : Os) (args : Array Value) : laidMet Tryz.prog Rows.rereadUptoRow.laid ((laidIn os).forCall (fun _ _ => 0) ⟨#[], args, []⟩).memory := by
  rw [laid_is]
  exact (LaidIn.of_run (l := [("unicode/utf8.acceptRanges", Lib.acceptData), ("courant/packets.ErrShort", Rows.laid_courant_packets_ErrShort), ("courant/packets.ErrWrong", Rows.laid_courant_packets_ErrWrong), ("unicode/utf8.first", Lib.firstData)]) [Tryz.lays196_ren.g 4, Tryz.lays196_ren.g 3, 1, 0, low, low + 1] 8 (by kernel_rfl) (by kernel_rfl) (by kernel_rfl) (by kernel_rfl)).met

abbrev zeroS : Value := .string ⟨#[]⟩
abbrev zeroI : Value := .int .i64 0
abbrev zeroP : Value := (.agg #[.int .i64 0, .bool false, .bool false, .int .i64 0, .string ⟨#[]⟩, .bool false, .int .i64 0, .bool false, .int .i64 0, .bool false, .string ⟨#[]⟩, .string ⟨#[]⟩, .int .i64 0, .slice none 0 0, .slice none 0 0])

theorem witness_row (os : Os) {H : Type} (enc : TypeId × Value → H) :
    (Rows.OpenSpec.upto Rows.rereadSpec).preRow enc Tryz.prog Tryz.f6 Rows.rereadUptoRow.domain false Rows.rereadUptoRow.laid ((laidIn os).forCall (fun _ _ => 0) ⟨#[], #[zeroP, zeroS, zeroI], []⟩).memory #[zeroP, zeroS, zeroI] := by
  have hw : (DataW.whole enc Tryz.prog ((laidIn os).forCall (fun _ _ => 0) ⟨#[], #[zeroP, zeroS, zeroI], []⟩).memory Tryz.f6.params.toList (Rows.OpenSpec.upto Rows.rereadSpec).vars false #[zeroP, zeroS, zeroI].toList 8).map (fun x => (x.1, x.2.1)) =
      some ([(.agg [.lit (.int .i64 0), .lit (.bool false), .lit (.bool false), .lit (.int .i64 0), .lit (.string []), .lit (.bool false), .lit (.int .i64 0), .lit (.bool false), .lit (.int .i64 0), .lit (.bool false), .lit (.string []), .lit (.string []), .lit (.int .i64 0), .nil, .nil]), .lit (.string []), .lit (.int .i64 0)], []) := by kernel_rfl
  obtain ⟨⟨x1, x2, x3⟩, hx, hx1⟩ := Option.map_eq_some_iff.1 hw
  simp only [Prod.mk.injEq] at hx1
  obtain ⟨rfl, rfl⟩ := hx1
  exact OpenSpec.preRow_of_cond 8 hx (by kernel_rfl) (fun k hk => by cases hk; kernel_rfl) (by kernel_rfl) (laid_met os _)

theorem reads {W : World} (hL : laidMetH Tryz.prog Rows.rereadUptoRow.laid W) : laidMet Tryz.prog [("unicode/utf8.acceptRanges", Lib.acceptData), ("courant/packets.ErrShort", Rows.laid_courant_packets_ErrShort), ("courant/packets.ErrWrong", Rows.laid_courant_packets_ErrWrong), ("unicode/utf8.first", Lib.firstData)] W := by
  rw [laid_is] at hL
  exact hL

theorem laidOut : laidOutB Tryz.prog = true := by kernel_rfl
theorem readP : Tryz.prog.readableRec 36 = true := by kernel_rfl
theorem rowP : 36 < Tryz.prog.types.size := of_decide_eq_true (by kernel_rfl)
open Go.WideElems in
theorem carry {H : Type} {enc : TypeId × Value → H} {W W' : World} {v : Value} {d : DataW H} {ps : List MemPlace} (hb : Below W.heap.size W W') (h : DataW.Trod enc Tryz.prog W 0 (fun _ => true) true 36 v d ps) : DataW.Trod enc Tryz.prog W' 0 (fun b => decide (b < W.heap.size)) true 36 v d ps := by
  obtain ⟨n, hn⟩ := h
  have hp := DataW.trod_lt n _ _ _ hn
  exact ⟨n, DataW.trod_stays (kids_book laidOut readP) (book_sized readP) (fun h => by cases h) ⟨rowP, book_self 36⟩ hn (fun x hx => hb.same (hp x hx)) (fun x hx => by simpa using hp x hx)⟩

set_option maxRecDepth 100000 in
set_option maxHeartbeats 2000000 in
theorem lifted (os : Os) (started : os.Started) (H : Type) (enc : TypeId × Value → H) (F : Stop.Interp) :
    ReturnsInHanded {} Tryz.checked os 6 .any ((Rows.OpenSpec.upto Rows.rereadSpec).preRow enc Tryz.prog Tryz.f6 Rows.rereadUptoRow.domain false Rows.rereadUptoRow.laid) (((Rows.OpenSpec.upto Rows.rereadSpec).at F).post enc Tryz.prog Tryz.f6 false true false false) := by
  refine returnsInHanded_of_row (C := Tryz.checked) (s := Rows.OpenSpec.upto Rows.rereadSpec) own started (by kernel_rfl) Tryz.func6
    (witness_row_atRef (enc := enc) (C := Tryz.checked) false (laidIn os) #[zeroP, zeroS, zeroI] rfl (by kernel_rfl) (by kernel_rfl) (by kernel_rfl) (witness_row os enc)) ?_
  intro W base args ds gs before hval0 hW _ hcond0 _ hL hsh _
  have hcond : Rows.uptoSmall H (ds ++ gs) = true := hcond0 _ rfl
  clear hcond0
  have hval : ∀ (j : Nat) t v, Tryz.f6.params[j]? = some t → args[j]? = some v → Value.okWide Tryz.prog W .any base t v := hval0
  have hW' := hW
  obtain ⟨p, q, hA0, hV0, rfl, _, _⟩ := hW
  have hA : DataW.TrodAll enc Tryz.prog W 0 (fun _ => true) true Tryz.f6.params.toList args.toList ds p := hA0
  rw [Tryz.params6] at hA hval
  obtain ⟨v0, v1, v2, d0, d1, d2, p0, p1, p2, rfl, rfl, rfl, h0, h1, h2⟩ := trodAll_three hA
  obtain ⟨rfl, rfl⟩ := trodVars_none hV0
  obtain ⟨a0', rfl, hz0'⟩ := okWide_struct Tryz.underlying36 (hval 0 36 v0 rfl rfl)
  obtain ⟨t, rfl, rfl, rfl, wt⟩ := open_string Tryz.underlying9 (hval 1 9 v1 rfl rfl) h1
  obtain ⟨z, rfl, rfl, rfl, wz⟩ := Go.ChangeShapes.open_int Tryz.underlying3 (hval 2 3 v2 rfl rfl) h2
  have k0 := h0
  obtain ⟨m0, g0⟩ := h0
  obtain ⟨P0, fs0, cs0, e0, f0, i0⟩ := open_pkt g0
  clear hA0 hV0 hval0
  have hk := of_decide_eq_true hcond
  simp only [List.append_nil, Rows.uptoBulkAll, Rows.uptoBulk] at hk
  have zt := Lib.size_eq t
  have q0 : (Value.agg a0').cells = rd.pkCells P0 := by rw [← Array.toList_inj]; exact e0
  have q0' : a0' = rd.pkCells P0 := by simpa [Value.cells] using q0
  subst q0'
  have hI : topWalks.Inv W :=
    ⟨utf8Tabs_of_readsT (U8Types.of196 Tryz.lays196) ⟨by kernel_rfl, by kernel_rfl, by kernel_rfl, by kernel_rfl, by kernel_rfl, by kernel_rfl, by kernel_rfl⟩ (Lib.laidMet.reads (reads hL) (.tail _ (.tail _ (.tail _ (.head _))))) (Lib.laidMet.reads (reads hL) (.head _)),
      Tryz.laysM144.s1_3 W hsh⟩
  obtain ⟨a0, a1, s0, s1, c0, c1, t0, t1, hv0, hv1, hc0, hs0, hz0, hc1, hs1, hz1, hne, hb0, hb1⟩ := laid_sentinels2 (laidMet.tail (reads hL)) gS gSType gW gWType Tryz.underlying118 rowE Tryz.underlying331 Tryz.underlying354 rfl rfl Tryz.underlying9 cellsE cellsS
  have hE : rd.Errs a0 a1 W := ⟨var?_cell gS hv0 0, var?_cell gW hv1 0, hne, ⟨c0, t0, hb0⟩, ⟨c1, t1, hb1⟩⟩
  have hG : Gd W.heap.size a0 a1 W := by
    refine ⟨hE, ⟨?_, Nat.le_refl _, hE.wrong, hI⟩, (Array.getElem?_eq_some_iff.1 hb0).1, (Array.getElem?_eq_some_iff.1 hb1).1⟩
    obtain ⟨m, hm⟩ := hI.2
    have h1 : Tryz.laysM144_ren.g 1 < W.heap.size := topWalks.cell_lt hm
    have e : Tryz.laysM144_ren.g 1 + 1 = 5 := rfl
    omega
  have hz := i64_wf wz
  have hcall : Calls Tryz.prog 6 #[.agg (rd.pkCells P0), .string t, .int .i64 z] W fun e w' => e = .returned (.bool true) ∧ Below W.heap.size W w' := by
    cases hR : encPlain.encL (ew.fwW P0) (ew.cbW P0) P0 fs0 cs0 with
    | none => exact reread_none a0 a1 P0 fs0 cs0 t z W hR f0 i0 (by omega) hG
    | some b => exact reread_some a0 a1 P0 fs0 cs0 t z W b hR f0 i0 (by omega) hz.1 hz.2 hG
  refine hcall.mono ?_
  rintro e W' ⟨rfl, bel⟩
  refine ⟨_, rfl, _, _, _, [], p0 ++ ([] ++ []), [], hW', ?_, ?_, ?_, bel.frame _, fun h => by cases h⟩
  · exact trodAll_mk1 (shut_bool Tryz.underlying4 _)
  · exact trodAll_mk3 (carry bel k0) (shut_string Tryz.underlying9 wt) (shut_int Tryz.underlying3 wz)
  · rfl

end Go.Proofs.YtnmfmoimjkoieaaGreatDoor.reread
