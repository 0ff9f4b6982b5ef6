/-
  NARROWER THAN 'FOR EVERY INPUT', by the rows' own cells (each row's printed sentence says how): Decodes: laid · Encodes: laid · Told: laid · Reread: laid · Cut: laid · Once: laid · Whole: laid · Plays: laid · All: laid.
  DERIVED. THE GIVEN ROWS OF THIS SEAT. 9 by the template 'for every input the law returns true; each argument reads behind the call as it read before'; 0 by the template 'total and deterministic' (their statements: YtnmfmoimjkoieaaGreatDoorTotals.lean).
  GIVEN WITH THE SEED: the statements are not yours to turn. If you find one false, say at which input.
  Laid BY PROGRAM, IN A SANDBOX (cutbox-rows.mjs): the forced cells as the released guide's own fill.sh prints them over the translation 34cc608da3429e1f… (all of the seat's roots in one cut). By AI agents, Wed Nov 11 2026. No macro, syntax, notation, axiom, sorry.
-/
import Derived.Test.YtnmfmoimjkoieaaGreatDoorChecked
import GoSem.PinnedTables
import GoSem.Claim
import GoSem.ClaimJoined
import GoSem.ClaimMapViews
import Derived.JoinedTies
import Derived.KernelRfl
namespace Go.Proofs.YtnmfmoimjkoieaaGreatDoor
/- THE CELL 'sum', in the pinned program and in every row, IS THE sha256 OF THE DUMP (.gsa) THAT YtnmfmoimjkoieaaGreatDoorProg.lean LOADS. Nothing in Lean hashes anything: it is a label: what it is worth is what the hold of that sum in a sandbox is worth. -/
noncomputable def Tryz.pinned : Pinned := { name := "ytnmfmoimjkoieaagreatdoor", sum := "34cc608da3429e1f91d610d63c46cc1c65f3eb358ef316ac167ae7ad59e986d9", checked := Tryz.checked }
namespace Rows
def none {H : Type} : Left H := { results := [], args := [] }

/- WHAT THE LISTED PACKAGE-LEVEL VARIABLES READ AS WHEN THE CALL BEGINS. Each datum BY PROGRAM (the guide's laid-datum.mjs) off the statement by which the dump's own 'gosem.cut.vars' lays the variable. In a bare row this is a premise. The card (YtnmfmoimjkoieaaGreatDoorCards.lean) ties it to the program's text. -/
def laid_unicode_utf8_acceptRanges {H : Type} : DataW H := .agg [.agg [.lit (.int .u8 128), .lit (.int .u8 191)], .agg [.lit (.int .u8 160), .lit (.int .u8 191)], .agg [.lit (.int .u8 128), .lit (.int .u8 159)], .agg [.lit (.int .u8 144), .lit (.int .u8 191)], .agg [.lit (.int .u8 128), .lit (.int .u8 143)], .agg [.lit (.int .u8 0), .lit (.int .u8 0)], .agg [.lit (.int .u8 0), .lit (.int .u8 0)], .agg [.lit (.int .u8 0), .lit (.int .u8 0)], .agg [.lit (.int .u8 0), .lit (.int .u8 0)], .agg [.lit (.int .u8 0), .lit (.int .u8 0)], .agg [.lit (.int .u8 0), .lit (.int .u8 0)], .agg [.lit (.int .u8 0), .lit (.int .u8 0)], .agg [.lit (.int .u8 0), .lit (.int .u8 0)], .agg [.lit (.int .u8 0), .lit (.int .u8 0)], .agg [.lit (.int .u8 0), .lit (.int .u8 0)], .agg [.lit (.int .u8 0), .lit (.int .u8 0)]]
def laid_courant_packets_ErrShort {H : Type} : DataW H := .iface "*errors.errorString" (.ptr (.agg [.lit (.string [110, 111, 116, 32, 97, 32, 119, 104, 111, 108, 101, 32, 112, 97, 99, 107, 101, 116])]))
def laid_courant_packets_ErrWrong {H : Type} : DataW H := .iface "*errors.errorString" (.ptr (.agg [.lit (.string [110, 111, 32, 112, 97, 99, 107, 101, 116])]))
/-- One of Go's own tables, pinned by name: the form's constant. -/
def laid_unicode_utf8_first : DataW Unit := Go.Pinned.utf8First

/-- 'courantlaw.Decodes': WHATEVER THE INPUT: true; the input reads as it did. -/
def decodesSpec : ChangeSpec := { name := "decodes", fn := fun _ => fun
  | [d1, d2] => { results := [.lit (.bool true)], args := [d1, d2] }
  | _ => none }
def decodesRow : OpenClaim := { program := "ytnmfmoimjkoieaagreatdoor", sum := "34cc608da3429e1f91d610d63c46cc1c65f3eb358ef316ac167ae7ad59e986d9", func := "courant/courantlaw.Decodes", spec := "decodes", inPlace := ["internal/bytealg.IndexByteString", "internal/bytealg.IndexString", "internal/bytealg.CountString", "internal/reflectlite.TypeOf"], unfollowed := true, recurses := true, named := ["courant/packets.ErrShort", "courant/packets.ErrWrong", "unicode/utf8.first", "unicode/utf8.acceptRanges", "internal/bytealg.MaxLen"], apart := false, laid := [("unicode/utf8.acceptRanges", laid_unicode_utf8_acceptRanges), ("courant/packets.ErrShort", laid_courant_packets_ErrShort), ("courant/packets.ErrWrong", laid_courant_packets_ErrWrong), ("unicode/utf8.first", laid_unicode_utf8_first)] }
def DecodesSaid : Prop := decodesRow.holds Tryz.pinned (OpenSpec.ofChange decodesSpec)

/-- ITS FALSE NEIGHBOUR: 'it returns false'. Refute it at one input. -/
def decodesWrong : ChangeSpec := { name := "decodes", fn := fun _ => fun
  | [d1, d2] => { results := [.lit (.bool false)], args := [d1, d2] }
  | _ => none }
def DecodesWrongFalsely : Prop := decodesRow.holds Tryz.pinned (OpenSpec.ofChange decodesWrong)

/-- 'courantlaw.Encodes': WHATEVER THE INPUT: true; the input reads as it did. -/
def encodesSpec : ChangeSpec := { name := "encodes", fn := fun _ => fun
  | [d1, d2] => { results := [.lit (.bool true)], args := [d1, d2] }
  | _ => none }
def encodesRow : OpenClaim := { program := "ytnmfmoimjkoieaagreatdoor", sum := "34cc608da3429e1f91d610d63c46cc1c65f3eb358ef316ac167ae7ad59e986d9", func := "courant/courantlaw.Encodes", spec := "encodes", inPlace := ["internal/bytealg.IndexByteString", "internal/bytealg.IndexString", "internal/bytealg.CountString", "internal/reflectlite.TypeOf"], unfollowed := true, recurses := true, named := ["courant/packets.ErrWrong", "courant/packets.ErrShort", "unicode/utf8.first", "unicode/utf8.acceptRanges", "internal/bytealg.MaxLen"], apart := false, laid := [("unicode/utf8.acceptRanges", laid_unicode_utf8_acceptRanges), ("courant/packets.ErrShort", laid_courant_packets_ErrShort), ("courant/packets.ErrWrong", laid_courant_packets_ErrWrong), ("unicode/utf8.first", laid_unicode_utf8_first)] }
def EncodesSaid : Prop := encodesRow.holds Tryz.pinned (OpenSpec.ofChange encodesSpec)

/-- ITS FALSE NEIGHBOUR: 'it returns false'. Refute it at one input. -/
def encodesWrong : ChangeSpec := { name := "encodes", fn := fun _ => fun
  | [d1, d2] => { results := [.lit (.bool false)], args := [d1, d2] }
  | _ => none }
def EncodesWrongFalsely : Prop := encodesRow.holds Tryz.pinned (OpenSpec.ofChange encodesWrong)

/-- 'courantlaw.Told': WHATEVER THE INPUT: true; the input reads as it did. -/
def toldSpec : ChangeSpec := { name := "told", fn := fun _ => fun
  | [d1, d2] => { results := [.lit (.bool true)], args := [d1, d2] }
  | _ => none }
def toldRow : OpenClaim := { program := "ytnmfmoimjkoieaagreatdoor", sum := "34cc608da3429e1f91d610d63c46cc1c65f3eb358ef316ac167ae7ad59e986d9", func := "courant/courantlaw.Told", spec := "told", inPlace := ["internal/bytealg.IndexByteString", "internal/bytealg.IndexString", "internal/bytealg.CountString", "internal/reflectlite.TypeOf", "internal/bytealg.abigen_runtime_cmpstring", "slices.overlaps[courant/messages.Message]"], unfollowed := true, recurses := true, named := ["courant/packets.ErrShort", "courant/packets.ErrWrong", "unicode/utf8.first", "unicode/utf8.acceptRanges", "internal/bytealg.MaxLen"], apart := false, laid := [("unicode/utf8.acceptRanges", laid_unicode_utf8_acceptRanges), ("courant/packets.ErrShort", laid_courant_packets_ErrShort), ("courant/packets.ErrWrong", laid_courant_packets_ErrWrong), ("unicode/utf8.first", laid_unicode_utf8_first)] }
def ToldSaid : Prop := toldRow.holds Tryz.pinned (OpenSpec.ofChange toldSpec)

/-- ITS FALSE NEIGHBOUR: 'it returns false'. Refute it at one input. -/
def toldWrong : ChangeSpec := { name := "told", fn := fun _ => fun
  | [d1, d2] => { results := [.lit (.bool false)], args := [d1, d2] }
  | _ => none }
def ToldWrongFalsely : Prop := toldRow.holds Tryz.pinned (OpenSpec.ofChange toldWrong)

/-- 'courantkeep.Reread': WHATEVER THE INPUT: true; the input reads as it did. -/
def rereadSpec : ChangeSpec := { name := "reread", fn := fun _ => fun
  | [d1, d2, d3] => { results := [.lit (.bool true)], args := [d1, d2, d3] }
  | _ => none }
def rereadRow : OpenClaim := { program := "ytnmfmoimjkoieaagreatdoor", sum := "34cc608da3429e1f91d610d63c46cc1c65f3eb358ef316ac167ae7ad59e986d9", func := "courant/courantkeep.Reread", spec := "reread", inPlace := ["internal/bytealg.abigen_runtime_cmpstring", "slices.overlaps[courant/messages.Message]", "internal/bytealg.IndexByteString", "internal/bytealg.CountString", "internal/bytealg.IndexString", "internal/reflectlite.TypeOf"], unfollowed := true, recurses := true, named := ["unicode/utf8.first", "unicode/utf8.acceptRanges", "internal/bytealg.MaxLen", "courant/packets.ErrWrong", "courant/packets.ErrShort"], apart := false, laid := [("unicode/utf8.acceptRanges", laid_unicode_utf8_acceptRanges), ("courant/packets.ErrShort", laid_courant_packets_ErrShort), ("courant/packets.ErrWrong", laid_courant_packets_ErrWrong), ("unicode/utf8.first", laid_unicode_utf8_first)] }
def RereadSaid : Prop := rereadRow.holds Tryz.pinned (OpenSpec.ofChange rereadSpec)

/-- ITS FALSE NEIGHBOUR: 'it returns false'. Refute it at one input. -/
def rereadWrong : ChangeSpec := { name := "reread", fn := fun _ => fun
  | [d1, d2, d3] => { results := [.lit (.bool false)], args := [d1, d2, d3] }
  | _ => none }
def RereadWrongFalsely : Prop := rereadRow.holds Tryz.pinned (OpenSpec.ofChange rereadWrong)

/-- 'courantkeep.Cut': WHATEVER THE INPUT: true; the input reads as it did. -/
def cutSpec : ChangeSpec := { name := "cut", fn := fun _ => fun
  | [d1, d2, d3, d4] => { results := [.lit (.bool true)], args := [d1, d2, d3, d4] }
  | _ => none }
def cutRow : OpenClaim := { program := "ytnmfmoimjkoieaagreatdoor", sum := "34cc608da3429e1f91d610d63c46cc1c65f3eb358ef316ac167ae7ad59e986d9", func := "courant/courantkeep.Cut", spec := "cut", inPlace := ["internal/bytealg.abigen_runtime_cmpstring", "slices.overlaps[courant/messages.Message]", "internal/bytealg.IndexByteString", "internal/bytealg.CountString", "internal/bytealg.IndexString", "internal/reflectlite.TypeOf"], unfollowed := true, recurses := true, named := ["unicode/utf8.first", "unicode/utf8.acceptRanges", "internal/bytealg.MaxLen", "courant/packets.ErrWrong", "courant/packets.ErrShort"], apart := false, laid := [("unicode/utf8.acceptRanges", laid_unicode_utf8_acceptRanges), ("courant/packets.ErrShort", laid_courant_packets_ErrShort), ("courant/packets.ErrWrong", laid_courant_packets_ErrWrong), ("unicode/utf8.first", laid_unicode_utf8_first)] }
def CutSaid : Prop := cutRow.holds Tryz.pinned (OpenSpec.ofChange cutSpec)

/-- ITS FALSE NEIGHBOUR: 'it returns false'. Refute it at one input. -/
def cutWrong : ChangeSpec := { name := "cut", fn := fun _ => fun
  | [d1, d2, d3, d4] => { results := [.lit (.bool false)], args := [d1, d2, d3, d4] }
  | _ => none }
def CutWrongFalsely : Prop := cutRow.holds Tryz.pinned (OpenSpec.ofChange cutWrong)

/-- 'courantkeep.Once': WHATEVER THE INPUT: true; the input reads as it did. -/
def onceSpec : ChangeSpec := { name := "once", fn := fun _ => fun
  | [d1, d2, d3, d4] => { results := [.lit (.bool true)], args := [d1, d2, d3, d4] }
  | _ => none }
def onceRow : OpenClaim := { program := "ytnmfmoimjkoieaagreatdoor", sum := "34cc608da3429e1f91d610d63c46cc1c65f3eb358ef316ac167ae7ad59e986d9", func := "courant/courantkeep.Once", spec := "once", inPlace := ["internal/bytealg.abigen_runtime_cmpstring", "slices.overlaps[courant/messages.Message]", "internal/bytealg.IndexByteString", "internal/bytealg.CountString", "internal/bytealg.IndexString", "internal/reflectlite.TypeOf"], unfollowed := true, recurses := true, named := ["unicode/utf8.first", "unicode/utf8.acceptRanges", "internal/bytealg.MaxLen", "courant/packets.ErrWrong", "courant/packets.ErrShort"], apart := false, laid := [("unicode/utf8.acceptRanges", laid_unicode_utf8_acceptRanges), ("courant/packets.ErrShort", laid_courant_packets_ErrShort), ("courant/packets.ErrWrong", laid_courant_packets_ErrWrong), ("unicode/utf8.first", laid_unicode_utf8_first)] }
def OnceSaid : Prop := onceRow.holds Tryz.pinned (OpenSpec.ofChange onceSpec)

/-- ITS FALSE NEIGHBOUR: 'it returns false'. Refute it at one input. -/
def onceWrong : ChangeSpec := { name := "once", fn := fun _ => fun
  | [d1, d2, d3, d4] => { results := [.lit (.bool false)], args := [d1, d2, d3, d4] }
  | _ => none }
def OnceWrongFalsely : Prop := onceRow.holds Tryz.pinned (OpenSpec.ofChange onceWrong)

/-- 'courantkeep.Whole': WHATEVER THE INPUT: true; the input reads as it did. -/
def wholeSpec : ChangeSpec := { name := "whole", fn := fun _ => fun
  | [d1, d2, d3, d4] => { results := [.lit (.bool true)], args := [d1, d2, d3, d4] }
  | _ => none }
def wholeRow : OpenClaim := { program := "ytnmfmoimjkoieaagreatdoor", sum := "34cc608da3429e1f91d610d63c46cc1c65f3eb358ef316ac167ae7ad59e986d9", func := "courant/courantkeep.Whole", spec := "whole", inPlace := ["internal/bytealg.abigen_runtime_cmpstring", "slices.overlaps[courant/messages.Message]", "internal/bytealg.IndexByteString", "internal/bytealg.CountString", "internal/bytealg.IndexString", "internal/reflectlite.TypeOf"], unfollowed := true, recurses := true, named := ["unicode/utf8.first", "unicode/utf8.acceptRanges", "internal/bytealg.MaxLen", "courant/packets.ErrWrong", "courant/packets.ErrShort"], apart := false, laid := [("unicode/utf8.acceptRanges", laid_unicode_utf8_acceptRanges), ("courant/packets.ErrShort", laid_courant_packets_ErrShort), ("courant/packets.ErrWrong", laid_courant_packets_ErrWrong), ("unicode/utf8.first", laid_unicode_utf8_first)] }
def WholeSaid : Prop := wholeRow.holds Tryz.pinned (OpenSpec.ofChange wholeSpec)

/-- ITS FALSE NEIGHBOUR: 'it returns false'. Refute it at one input. -/
def wholeWrong : ChangeSpec := { name := "whole", fn := fun _ => fun
  | [d1, d2, d3, d4] => { results := [.lit (.bool false)], args := [d1, d2, d3, d4] }
  | _ => none }
def WholeWrongFalsely : Prop := wholeRow.holds Tryz.pinned (OpenSpec.ofChange wholeWrong)

/-- 'courantlaw.Plays': WHATEVER THE INPUT: true; the input reads as it did. -/
def playsSpec : ChangeSpec := { name := "plays", fn := fun _ => fun
  | [d1, d2] => { results := [.lit (.bool true)], args := [d1, d2] }
  | _ => none }
def playsRow : OpenClaim := { program := "ytnmfmoimjkoieaagreatdoor", sum := "34cc608da3429e1f91d610d63c46cc1c65f3eb358ef316ac167ae7ad59e986d9", func := "courant/courantlaw.Plays", spec := "plays", inPlace := ["internal/bytealg.IndexByteString", "internal/bytealg.IndexString", "internal/bytealg.CountString", "internal/reflectlite.TypeOf", "internal/bytealg.abigen_runtime_cmpstring", "slices.overlaps[courant/messages.Message]"], unfollowed := true, recurses := true, named := ["courant/packets.ErrShort", "courant/packets.ErrWrong", "unicode/utf8.first", "unicode/utf8.acceptRanges", "internal/bytealg.MaxLen"], apart := false, laid := [("unicode/utf8.acceptRanges", laid_unicode_utf8_acceptRanges), ("courant/packets.ErrShort", laid_courant_packets_ErrShort), ("courant/packets.ErrWrong", laid_courant_packets_ErrWrong), ("unicode/utf8.first", laid_unicode_utf8_first)] }
def PlaysSaid : Prop := playsRow.holds Tryz.pinned (OpenSpec.ofChange playsSpec)

/-- ITS FALSE NEIGHBOUR: 'it returns false'. Refute it at one input. -/
def playsWrong : ChangeSpec := { name := "plays", fn := fun _ => fun
  | [d1, d2] => { results := [.lit (.bool false)], args := [d1, d2] }
  | _ => none }
def PlaysWrongFalsely : Prop := playsRow.holds Tryz.pinned (OpenSpec.ofChange playsWrong)

/-- 'courantlaw.All': WHATEVER THE INPUT: true; the input reads as it did. -/
def allSpec : ChangeSpec := { name := "all", fn := fun _ => fun
  | [d1, d2, d3] => { results := [.lit (.bool true)], args := [d1, d2, d3] }
  | _ => none }
def allRow : OpenClaim := { program := "ytnmfmoimjkoieaagreatdoor", sum := "34cc608da3429e1f91d610d63c46cc1c65f3eb358ef316ac167ae7ad59e986d9", func := "courant/courantlaw.All", spec := "all", inPlace := ["internal/bytealg.IndexByteString", "internal/bytealg.IndexString", "internal/bytealg.CountString", "internal/reflectlite.TypeOf", "internal/bytealg.abigen_runtime_cmpstring", "slices.overlaps[courant/messages.Message]"], unfollowed := true, recurses := true, named := ["courant/packets.ErrShort", "courant/packets.ErrWrong", "unicode/utf8.first", "unicode/utf8.acceptRanges", "internal/bytealg.MaxLen"], apart := false, laid := [("unicode/utf8.acceptRanges", laid_unicode_utf8_acceptRanges), ("courant/packets.ErrShort", laid_courant_packets_ErrShort), ("courant/packets.ErrWrong", laid_courant_packets_ErrWrong), ("unicode/utf8.first", laid_unicode_utf8_first)] }
def AllSaid : Prop := allRow.holds Tryz.pinned (OpenSpec.ofChange allSpec)

/-- ITS FALSE NEIGHBOUR: 'it returns false'. Refute it at one input. -/
def allWrong : ChangeSpec := { name := "all", fn := fun _ => fun
  | [d1, d2, d3] => { results := [.lit (.bool false)], args := [d1, d2, d3] }
  | _ => none }
def AllWrongFalsely : Prop := allRow.holds Tryz.pinned (OpenSpec.ofChange allWrong)

/- THE SECOND FORM. 'bulk': how many values and letters a reading holds, each counted each time it is reached (what is shared counts as often as it is met; a slice's spare places count too). A statement '..UptoSaid' is the law's where the arguments, and the package variables that the reading takes, are together of bulk at most 1048576: NARROWER than '..Said'. Prove '..Said' where nothing that the law and all that it calls make is longer than what came in: it says more and counts as full. Else prove '..UptoSaid'. A law counts once. -/
mutual
def uptoBulk {H : Type} : DataW H → Nat
  | .lit (.string bytes) => bytes.length + 1
  | .lit _ => 1
  | .nil => 1
  | .ptr d => uptoBulk d + 1
  | .slice elems spare => uptoBulkAll elems + uptoBulkAll spare + 1
  | .agg parts => uptoBulkAll parts + 1
  | .iface _ d => uptoBulk d + 1
  | .map entries => uptoBulkEntries entries + 1
  | .held _ => 1
def uptoBulkAll {H : Type} : List (DataW H) → Nat
  | [] => 0
  | d :: r => uptoBulk d + uptoBulkAll r
def uptoBulkEntries {H : Type} : List (Lit × DataW H) → Nat
  | [] => 0
  | x :: r => uptoBulkEntry x + uptoBulkEntries r
def uptoBulkEntry {H : Type} : Lit × DataW H → Nat
  | (.string bytes, d) => bytes.length + uptoBulk d + 1
  | (_, d) => uptoBulk d + 1
 end
def uptoSmall : (H : Type) → List (DataW H) → Bool := fun _ ds => decide (uptoBulkAll ds ≤ 1048576)
def OpenSpec.upto (s : _root_.Go.ChangeSpec) : _root_.Go.OpenSpec := { _root_.Go.OpenSpec.ofChange s with cond := some uptoSmall }

/-- 'courantlaw.Decodes', WHERE WHAT IT READS IS OF BULK AT MOST 1048576: true; the input reads as it did. -/
def decodesUptoRow : OpenClaim := { program := "ytnmfmoimjkoieaagreatdoor", sum := "34cc608da3429e1f91d610d63c46cc1c65f3eb358ef316ac167ae7ad59e986d9", func := "courant/courantlaw.Decodes", spec := "decodes", inPlace := ["internal/bytealg.IndexByteString", "internal/bytealg.IndexString", "internal/bytealg.CountString", "internal/reflectlite.TypeOf"], unfollowed := true, recurses := true, named := ["courant/packets.ErrShort", "courant/packets.ErrWrong", "unicode/utf8.first", "unicode/utf8.acceptRanges", "internal/bytealg.MaxLen"], apart := false, laid := [("unicode/utf8.acceptRanges", laid_unicode_utf8_acceptRanges), ("courant/packets.ErrShort", laid_courant_packets_ErrShort), ("courant/packets.ErrWrong", laid_courant_packets_ErrWrong), ("unicode/utf8.first", laid_unicode_utf8_first)], narrowed := true }
def DecodesUptoSaid : Prop := decodesUptoRow.holds Tryz.pinned (OpenSpec.upto decodesSpec)

/-- 'courantlaw.Encodes', WHERE WHAT IT READS IS OF BULK AT MOST 1048576: true; the input reads as it did. -/
def encodesUptoRow : OpenClaim := { program := "ytnmfmoimjkoieaagreatdoor", sum := "34cc608da3429e1f91d610d63c46cc1c65f3eb358ef316ac167ae7ad59e986d9", func := "courant/courantlaw.Encodes", spec := "encodes", inPlace := ["internal/bytealg.IndexByteString", "internal/bytealg.IndexString", "internal/bytealg.CountString", "internal/reflectlite.TypeOf"], unfollowed := true, recurses := true, named := ["courant/packets.ErrWrong", "courant/packets.ErrShort", "unicode/utf8.first", "unicode/utf8.acceptRanges", "internal/bytealg.MaxLen"], apart := false, laid := [("unicode/utf8.acceptRanges", laid_unicode_utf8_acceptRanges), ("courant/packets.ErrShort", laid_courant_packets_ErrShort), ("courant/packets.ErrWrong", laid_courant_packets_ErrWrong), ("unicode/utf8.first", laid_unicode_utf8_first)], narrowed := true }
def EncodesUptoSaid : Prop := encodesUptoRow.holds Tryz.pinned (OpenSpec.upto encodesSpec)

/-- 'courantlaw.Told', WHERE WHAT IT READS IS OF BULK AT MOST 1048576: true; the input reads as it did. -/
def toldUptoRow : OpenClaim := { program := "ytnmfmoimjkoieaagreatdoor", sum := "34cc608da3429e1f91d610d63c46cc1c65f3eb358ef316ac167ae7ad59e986d9", func := "courant/courantlaw.Told", spec := "told", inPlace := ["internal/bytealg.IndexByteString", "internal/bytealg.IndexString", "internal/bytealg.CountString", "internal/reflectlite.TypeOf", "internal/bytealg.abigen_runtime_cmpstring", "slices.overlaps[courant/messages.Message]"], unfollowed := true, recurses := true, named := ["courant/packets.ErrShort", "courant/packets.ErrWrong", "unicode/utf8.first", "unicode/utf8.acceptRanges", "internal/bytealg.MaxLen"], apart := false, laid := [("unicode/utf8.acceptRanges", laid_unicode_utf8_acceptRanges), ("courant/packets.ErrShort", laid_courant_packets_ErrShort), ("courant/packets.ErrWrong", laid_courant_packets_ErrWrong), ("unicode/utf8.first", laid_unicode_utf8_first)], narrowed := true }
def ToldUptoSaid : Prop := toldUptoRow.holds Tryz.pinned (OpenSpec.upto toldSpec)

/-- 'courantkeep.Reread', WHERE WHAT IT READS IS OF BULK AT MOST 1048576: true; the input reads as it did. -/
def rereadUptoRow : OpenClaim := { program := "ytnmfmoimjkoieaagreatdoor", sum := "34cc608da3429e1f91d610d63c46cc1c65f3eb358ef316ac167ae7ad59e986d9", func := "courant/courantkeep.Reread", spec := "reread", inPlace := ["internal/bytealg.abigen_runtime_cmpstring", "slices.overlaps[courant/messages.Message]", "internal/bytealg.IndexByteString", "internal/bytealg.CountString", "internal/bytealg.IndexString", "internal/reflectlite.TypeOf"], unfollowed := true, recurses := true, named := ["unicode/utf8.first", "unicode/utf8.acceptRanges", "internal/bytealg.MaxLen", "courant/packets.ErrWrong", "courant/packets.ErrShort"], apart := false, laid := [("unicode/utf8.acceptRanges", laid_unicode_utf8_acceptRanges), ("courant/packets.ErrShort", laid_courant_packets_ErrShort), ("courant/packets.ErrWrong", laid_courant_packets_ErrWrong), ("unicode/utf8.first", laid_unicode_utf8_first)], narrowed := true }
def RereadUptoSaid : Prop := rereadUptoRow.holds Tryz.pinned (OpenSpec.upto rereadSpec)

/-- 'courantkeep.Cut', WHERE WHAT IT READS IS OF BULK AT MOST 1048576: true; the input reads as it did. -/
def cutUptoRow : OpenClaim := { program := "ytnmfmoimjkoieaagreatdoor", sum := "34cc608da3429e1f91d610d63c46cc1c65f3eb358ef316ac167ae7ad59e986d9", func := "courant/courantkeep.Cut", spec := "cut", inPlace := ["internal/bytealg.abigen_runtime_cmpstring", "slices.overlaps[courant/messages.Message]", "internal/bytealg.IndexByteString", "internal/bytealg.CountString", "internal/bytealg.IndexString", "internal/reflectlite.TypeOf"], unfollowed := true, recurses := true, named := ["unicode/utf8.first", "unicode/utf8.acceptRanges", "internal/bytealg.MaxLen", "courant/packets.ErrWrong", "courant/packets.ErrShort"], apart := false, laid := [("unicode/utf8.acceptRanges", laid_unicode_utf8_acceptRanges), ("courant/packets.ErrShort", laid_courant_packets_ErrShort), ("courant/packets.ErrWrong", laid_courant_packets_ErrWrong), ("unicode/utf8.first", laid_unicode_utf8_first)], narrowed := true }
def CutUptoSaid : Prop := cutUptoRow.holds Tryz.pinned (OpenSpec.upto cutSpec)

/-- 'courantkeep.Once', WHERE WHAT IT READS IS OF BULK AT MOST 1048576: true; the input reads as it did. -/
def onceUptoRow : OpenClaim := { program := "ytnmfmoimjkoieaagreatdoor", sum := "34cc608da3429e1f91d610d63c46cc1c65f3eb358ef316ac167ae7ad59e986d9", func := "courant/courantkeep.Once", spec := "once", inPlace := ["internal/bytealg.abigen_runtime_cmpstring", "slices.overlaps[courant/messages.Message]", "internal/bytealg.IndexByteString", "internal/bytealg.CountString", "internal/bytealg.IndexString", "internal/reflectlite.TypeOf"], unfollowed := true, recurses := true, named := ["unicode/utf8.first", "unicode/utf8.acceptRanges", "internal/bytealg.MaxLen", "courant/packets.ErrWrong", "courant/packets.ErrShort"], apart := false, laid := [("unicode/utf8.acceptRanges", laid_unicode_utf8_acceptRanges), ("courant/packets.ErrShort", laid_courant_packets_ErrShort), ("courant/packets.ErrWrong", laid_courant_packets_ErrWrong), ("unicode/utf8.first", laid_unicode_utf8_first)], narrowed := true }
def OnceUptoSaid : Prop := onceUptoRow.holds Tryz.pinned (OpenSpec.upto onceSpec)

/-- 'courantkeep.Whole', WHERE WHAT IT READS IS OF BULK AT MOST 1048576: true; the input reads as it did. -/
def wholeUptoRow : OpenClaim := { program := "ytnmfmoimjkoieaagreatdoor", sum := "34cc608da3429e1f91d610d63c46cc1c65f3eb358ef316ac167ae7ad59e986d9", func := "courant/courantkeep.Whole", spec := "whole", inPlace := ["internal/bytealg.abigen_runtime_cmpstring", "slices.overlaps[courant/messages.Message]", "internal/bytealg.IndexByteString", "internal/bytealg.CountString", "internal/bytealg.IndexString", "internal/reflectlite.TypeOf"], unfollowed := true, recurses := true, named := ["unicode/utf8.first", "unicode/utf8.acceptRanges", "internal/bytealg.MaxLen", "courant/packets.ErrWrong", "courant/packets.ErrShort"], apart := false, laid := [("unicode/utf8.acceptRanges", laid_unicode_utf8_acceptRanges), ("courant/packets.ErrShort", laid_courant_packets_ErrShort), ("courant/packets.ErrWrong", laid_courant_packets_ErrWrong), ("unicode/utf8.first", laid_unicode_utf8_first)], narrowed := true }
def WholeUptoSaid : Prop := wholeUptoRow.holds Tryz.pinned (OpenSpec.upto wholeSpec)

/-- 'courantlaw.Plays', WHERE WHAT IT READS IS OF BULK AT MOST 1048576: true; the input reads as it did. -/
def playsUptoRow : OpenClaim := { program := "ytnmfmoimjkoieaagreatdoor", sum := "34cc608da3429e1f91d610d63c46cc1c65f3eb358ef316ac167ae7ad59e986d9", func := "courant/courantlaw.Plays", spec := "plays", inPlace := ["internal/bytealg.IndexByteString", "internal/bytealg.IndexString", "internal/bytealg.CountString", "internal/reflectlite.TypeOf", "internal/bytealg.abigen_runtime_cmpstring", "slices.overlaps[courant/messages.Message]"], unfollowed := true, recurses := true, named := ["courant/packets.ErrShort", "courant/packets.ErrWrong", "unicode/utf8.first", "unicode/utf8.acceptRanges", "internal/bytealg.MaxLen"], apart := false, laid := [("unicode/utf8.acceptRanges", laid_unicode_utf8_acceptRanges), ("courant/packets.ErrShort", laid_courant_packets_ErrShort), ("courant/packets.ErrWrong", laid_courant_packets_ErrWrong), ("unicode/utf8.first", laid_unicode_utf8_first)], narrowed := true }
def PlaysUptoSaid : Prop := playsUptoRow.holds Tryz.pinned (OpenSpec.upto playsSpec)

/-- 'courantlaw.All', WHERE WHAT IT READS IS OF BULK AT MOST 1048576: true; the input reads as it did. -/
def allUptoRow : OpenClaim := { program := "ytnmfmoimjkoieaagreatdoor", sum := "34cc608da3429e1f91d610d63c46cc1c65f3eb358ef316ac167ae7ad59e986d9", func := "courant/courantlaw.All", spec := "all", inPlace := ["internal/bytealg.IndexByteString", "internal/bytealg.IndexString", "internal/bytealg.CountString", "internal/reflectlite.TypeOf", "internal/bytealg.abigen_runtime_cmpstring", "slices.overlaps[courant/messages.Message]"], unfollowed := true, recurses := true, named := ["courant/packets.ErrShort", "courant/packets.ErrWrong", "unicode/utf8.first", "unicode/utf8.acceptRanges", "internal/bytealg.MaxLen"], apart := false, laid := [("unicode/utf8.acceptRanges", laid_unicode_utf8_acceptRanges), ("courant/packets.ErrShort", laid_courant_packets_ErrShort), ("courant/packets.ErrWrong", laid_courant_packets_ErrWrong), ("unicode/utf8.first", laid_unicode_utf8_first)], narrowed := true }
def AllUptoSaid : Prop := allUptoRow.holds Tryz.pinned (OpenSpec.upto allSpec)

end Rows
end Go.Proofs.YtnmfmoimjkoieaaGreatDoor
