import Derived.Test.YtnmfmoimjkoieaaGreatDoorJ05
import Derived.Test.YtnmfmoimjkoieaaGreatDoorK06
import Derived.Deep.LoopGhost
import Derived.Test.YtnmfmoimjkoieaaGreatDoorK01
import Derived.Conc.LoneSelect
import Derived.Test.YtnmfmoimjkoieaaGreatDoorK02
/- What topics.Match answers, for every two texts (the first half of TopMatches, for a seat without courant.Matches). -/
namespace Go.Proofs.YtnmfmoimjkoieaaGreatDoor.topWalks
open Go.RowKit Go.Proofs.YtnmfmoimjkoieaaGreatDoor.topPlain

theorem head_ext (s : ByteArray) (c : UInt8) (h : 1 ≤ s.size) : ((s.extract 0 1).toList == [c]) = (s.data.toList.head? == some c) := by
  rw [Lib.toList_data, Lib.extract_data]
  have hl := Lib.size_eq s
  cases hd : s.data.toList with
  | nil => rw [hd, List.length_nil] at hl; omega
  | cons a t => simp

set_option maxHeartbeats 400000 in
theorem hasPrefix_any (s : ByteArray) (c : UInt8) (w : World) (hs : s.size ≤ maxLen) :
    Calls Tryz.prog 229 #[.string s, .string ⟨#[c]⟩] w fun e w' => e = .returned (.bool (s.data.toList.head? == some c)) ∧ w' = w := by
  unfold maxLen at hs
  by_cases h : 1 ≤ s.size
  · have he := head_ext s c h
    generalize (s.data.toList.head? == some c) = H at *
    have hz : (1 : Int) ≤ (s.size : Int) := by omega
    go_enter Tryz.func229, Tryz.ntmps229
    go_wp2
    go_ret
    exact ⟨rfl, rfl⟩
  · have hd : s.data.toList = [] := List.length_eq_zero_iff.1 (by rw [← Lib.size_eq]; omega)
    rw [hd]
    have hz : ¬ ((1 : Int) ≤ (s.size : Int)) := by omega
    go_enter Tryz.func229, Tryz.ntmps229
    go_wp2
    go_ret
    exact ⟨rfl, rfl⟩

set_option maxHeartbeats 400000 in
theorem beginsWild_any (s : ByteArray) (w : World) (hs : s.size ≤ maxLen) :
    Calls Tryz.prog 230 #[.string s] w fun e w' => e = .returned (.bool (wild s.data.toList)) ∧ w' = w := by
  have c43 := hide fun w => hasPrefix_any s 43 w hs
  have c35 := hide fun w => hasPrefix_any s 35 w hs
  unfold wild
  generalize (s.data.toList.head? == some 43) = P at *
  generalize (s.data.toList.head? == some 35) = Q at *
  cases P
  · go_enter Tryz.func230, Tryz.ntmps230
    go_wp2_with fail
    refine (unhide c43 _).mono ?_
    rintro e w' ⟨rfl, rfl⟩
    go_wp2_with fail
    refine (unhide c35 _).mono ?_
    rintro e w' ⟨rfl, rfl⟩
    go_wp2
    go_ret
    exact ⟨ret_bool (by simp), rfl⟩
  · go_enter Tryz.func230, Tryz.ntmps230
    go_wp2_with fail
    refine (unhide c43 _).mono ?_
    rintro e w' ⟨rfl, rfl⟩
    go_wp2
    go_ret
    exact ⟨ret_bool (by simp), rfl⟩

theorem dl_bs (L : List (List UInt8)) : dl (L.map bs) = L := by
  unfold dl
  rw [List.map_map]
  conv => rhs; rw [← List.map_id L]
  exact List.map_congr_left fun x _ => data_bs x

theorem matchLevels_lev (bf bt : Nat) (F T : List (List UInt8)) (w : World) (hf : LevIn w bf F) (ht : LevIn w bt T) (lf : F.length ≤ maxLen) (cf ct : Nat) :
    Calls Tryz.prog 231 #[.slice (some ⟨bf, 0, none⟩) F.length cf, .slice (some ⟨bt, 0, none⟩) T.length ct] w fun e w' => e = .returned (.bool (lvl F T)) ∧ w' = w := by
  have := matchLevels_any bf 0 cf bt 0 ct (F.map bs) (T.map bs) w
    (fun j X hX => by
      rw [List.getElem?_map] at hX
      obtain ⟨x, hx, rfl⟩ := Option.map_eq_some_iff.1 hX
      rw [Nat.zero_add]; exact hf j x hx)
    (fun j X hX => by
      rw [List.getElem?_map] at hX
      obtain ⟨x, hx, rfl⟩ := Option.map_eq_some_iff.1 hX
      rw [Nat.zero_add]; exact ht j x hx)
    (by rw [List.length_map]; exact lf)
  rw [List.length_map, List.length_map, dl_bs, dl_bs] at this
  exact this

theorem levIn_alloc (w : World) (L : List (List UInt8)) : LevIn (w.alloc (.cells (strs L).toArray 9)) w.heap.size L := fun j x h => alloc_cell w L j x h

set_option maxHeartbeats 1600000 in
set_option maxRecDepth 100000 in
theorem match_any (f t : ByteArray) (w : World) (hf : f.size ≤ 4294967280) (ht : t.size ≤ 4294967280) (hI : Inv w) :
    Calls Tryz.prog 194 #[.string f, .string t] w fun e w' => e = .returned (.bool (mB f.data.toList t.data.toList)) ∧ Below w.heap.size w w' := by
  have mf : f.size ≤ maxLen := by unfold maxLen; omega
  have mt : t.size ≤ maxLen := by unfold maxLen; omega
  have cF := hide (isFilter_any f w (by omega) hI)
  have cT := hide fun w (h : Inv w) => isTopic_any t w (by omega) h
  have cP := hide fun w => hasPrefix_any t 36 w mt
  have cW := hide fun w => beginsWild_any f w mf
  have cSf := hide fun w (h : Inv w) => split_any f w (by omega) h
  have cSt := hide fun w (h : Inv w) => split_any t w (by omega) h
  have hlf := lev_length_le f.data.toList
  have HI := hide hI
  rw [← Lib.size_eq] at hlf
  have hlfm : (lev f.data.toList).length ≤ maxLen := by unfold maxLen; omega
  have HLF := hide hlfm
  clear hI hf ht mf mt hlf hlfm
  unfold mB
  generalize lev f.data.toList = F at *
  generalize lev t.data.toList = T at *
  generalize filterB f.data.toList = bF at *
  generalize topicB t.data.toList = bT at *
  generalize (t.data.toList.head? == some 36) = bP at *
  generalize wild f.data.toList = bW at *
  cases bF
  · go_enter Tryz.func194, Tryz.ntmps194
    go_wp2_with fail
    refine (unhide cF).mono ?_
    rintro e w1 ⟨rfl, hb1⟩
    go_wp2
    go_ret
    exact ⟨ret_bool (by simp), hb1⟩
  · go_enter Tryz.func194, Tryz.ntmps194
    go_wp2_with fail
    refine (unhide cF).mono ?_
    rintro e w1 ⟨rfl, hb1⟩
    have HB1 := hide hb1
    have HI1 := hide (HI.out.below hb1)
    clear hb1
    go_wp2_with fail
    refine (unhide cT _ HI1.out).mono ?_
    rintro e w2 ⟨rfl, hb2⟩
    have HB2 := hide (HB1.out.trans (hb2.mono HB1.out.size))
    have HI2 := hide (HI1.out.below hb2)
    clear hb2 HB1 HI1
    cases bT
    · go_wp2
      go_ret
      exact ⟨ret_bool (by simp), HB2.out⟩
    · go_wp2_with fail
      refine (unhide cP _).mono ?_
      rintro e w' ⟨rfl, rfl⟩
      cases bP
      · go_wp2_with fail
        refine (unhide cSf _ HI2.out).mono ?_
        rintro e w3 ⟨rfl, hw3⟩
        have hb3 : Below w'.heap.size w' w3 := by rw [hw3]; exact (Below.refl _ _).alloc (Nat.le_refl _) _
        have HL3 : Hid (LevIn w3 w'.heap.size F) := by rw [hw3]; exact levIn_alloc _ _
        have HB3 := hide (HB2.out.trans (hb3.mono HB2.out.size))
        have HI3 := hide (HI2.out.below hb3)
        clear hw3 hb3
        go_wp2_with fail
        refine (unhide cSt _ HI3.out).mono ?_
        rintro e w4 ⟨rfl, hw4⟩
        have hb4 : Below w3.heap.size w3 w4 := by rw [hw4]; exact (Below.refl _ _).alloc (Nat.le_refl _) _
        have HT4 : Hid (LevIn w4 w3.heap.size T) := by rw [hw4]; exact levIn_alloc _ _
        have HL4 := hide (HL3.out.below hb4)
        have HB4 := hide (HB3.out.trans (hb4.mono HB3.out.size))
        clear hw4 hb4
        go_wp2_with fail
        refine (matchLevels_lev _ _ F T _ HL4.out HT4.out HLF.out _ _).mono ?_
        rintro e w' ⟨rfl, rfl⟩
        go_wp2
        go_ret
        exact ⟨ret_bool (by simp), HB4.out⟩
      · go_wp2_with fail
        refine (unhide cW _).mono ?_
        rintro e w'' ⟨rfl, rfl⟩
        cases bW
        · go_wp2_with fail
          refine (unhide cSf _ HI2.out).mono ?_
          rintro e w3 ⟨rfl, hw3⟩
          have hb3 : Below w''.heap.size w'' w3 := by rw [hw3]; exact (Below.refl _ _).alloc (Nat.le_refl _) _
          have HL3 : Hid (LevIn w3 w''.heap.size F) := by rw [hw3]; exact levIn_alloc _ _
          have HB3 := hide (HB2.out.trans (hb3.mono HB2.out.size))
          have HI3 := hide (HI2.out.below hb3)
          clear hw3 hb3
          go_wp2_with fail
          refine (unhide cSt _ HI3.out).mono ?_
          rintro e w4 ⟨rfl, hw4⟩
          have hb4 : Below w3.heap.size w3 w4 := by rw [hw4]; exact (Below.refl _ _).alloc (Nat.le_refl _) _
          have HT4 : Hid (LevIn w4 w3.heap.size T) := by rw [hw4]; exact levIn_alloc _ _
          have HL4 := hide (HL3.out.below hb4)
          have HB4 := hide (HB3.out.trans (hb4.mono HB3.out.size))
          clear hw4 hb4
          go_wp2_with fail
          refine (matchLevels_lev _ _ F T _ HL4.out HT4.out HLF.out _ _).mono ?_
          rintro e w' ⟨rfl, rfl⟩
          go_wp2
          go_ret
          exact ⟨ret_bool (by simp), HB4.out⟩
        · go_wp2
          go_ret
          exact ⟨ret_bool (by simp), HB2.out⟩

end Go.Proofs.YtnmfmoimjkoieaaGreatDoor.topWalks

/- Asks: did the session ask for a topic, and with which QoS. -/
namespace Go.Proofs.YtnmfmoimjkoieaaGreatDoor.br
open Go.RowKit Go.Proofs.YtnmfmoimjkoieaaGreatDoor.topPlain Go.Proofs.YtnmfmoimjkoieaaGreatDoor.topWalks Go.Maps

def asksS (t : List UInt8) : List (List UInt8 × Int) → Int → Bool → Int × Bool
  | [], q, b => (q, b)
  | f :: r, q, b => if mB f.1 t then asksS t r (max q f.2) true else asksS t r q b
set_option maxHeartbeats 800000 in
set_option maxRecDepth 100000 in
theorem asks_any (sb : Nat) (V : SesV) (S : Ses) (t : List UInt8) (w : World) (h : SesAt w sb V S) (hI : topWalks.Inv w) (ht : t.length ≤ 65535) (hf : ∀ f ∈ S.filters, f.1.length ≤ 65535) :
    Calls Tryz.prog 144 #[.pointer (some ⟨sb, 0, none⟩), .string (bs t)] w fun e w' => e = .returned (.tuple #[.int .i64 (asksS t S.filters 0 false).1, .bool (asksS t S.filters 0 false).2]) ∧ Below w.heap.size w w' := by
  have c0 : w.cell? ⟨sb, 0, none⟩ = some V.fv := blk_cell h.blk rfl
  have hv := h.fil
  obtain ⟨q, kap, hq⟩ := own_form hv
  rw [hq] at hv c0
  generalize S.filters = l at *
  have HV := hide hv
  have HI := hide hI
  have HM := hide fun (f : List UInt8) w (h : topWalks.Inv w) (hl : f.length ≤ 65535) => show Calls Tryz.prog 194 #[.string (bs f), .string (bs t)] w fun e w' => e = .returned (.bool (mB f t)) ∧ Below w.heap.size w w' from match_any (bs f) (bs t) w (by simp [bs, ByteArray.size]; omega) (by simp [bs, ByteArray.size]; omega) h
  have HF := hide hf
  have HQ := hide hq
  clear hv h hI hf hq
  go_enter Tryz.func144, Tryz.ntmps144
  go_wp2_with fail
  go_loopw [4, 5, 13] (fun qv bv i wx => ∃ (k : Nat) (x : Int) (b : Bool), k ≤ l.length ∧ qv = .int .i64 x ∧ bv = .bool b ∧ i = .int .i64 k ∧ Below w.heap.size w wx ∧ asksS t (l.drop k) x b = asksS t l 0 false) (fun _ _ i _ => l.length - (intOf i).toNat)
  case atStart => exact ⟨0, 0, false, Nat.zero_le _, rfl, rfl, rfl, Below.refl _ _, rfl⟩
  case round =>
    obtain ⟨k, x, b, hk, rfl, rfl, rfl, hB, hA⟩ := hrel
    have HB := hide hB
    have HA := hide hA
    clear hB hA
    by_cases hlt : k < l.length
    · obtain ⟨u, hu⟩ : ∃ u, l[k]? = some u := ⟨_, List.getElem?_eq_getElem hlt⟩
      obtain ⟨g, rfl, hg, hkc, hcm, _⟩ := own_at HV.out (by omega)
      unfold maxLen at hcm
      obtain ⟨h0, h1⟩ := fil_cells (wr := wr) HV.out hu rfl (HB.out.block _ hg)
      have HU := hide hu
      clear hu
      go_wp2_with fail
      have hA1 : Below w.heap.size w (wr.alloc (.cells #[.string (bs u.1), .int .i64 u.2] 95)) := HB.out.alloc HB.out.size _
      have hal0 : (wr.alloc (.cells #[.string (bs u.1), .int .i64 u.2] 95)).cell? ⟨wr.heap.size, 1, none⟩ = some (.int .i64 u.2) := blk_cell (heap_alloc_new _ _) rfl
      have hls : wr.heap.size < (wr.alloc (.cells #[.string (bs u.1), .int .i64 u.2] 95)).heap.size := blk_lt (heap_alloc_new _ _)
      refine (HM.out u.1 _ (HI.out.below hA1) (HF.out u (List.mem_of_getElem? HU.out))).mono ?_
      rintro e w1 ⟨rfl, hB1⟩
      have hc1 : w1.cell? ⟨wr.heap.size, 1, none⟩ = some (.int .i64 u.2) := by rw [hB1.cell hls]; exact hal0
      have HB1 := hide (hA1.trans (hB1.mono hA1.size))
      clear hB1 hA1 hal0 hls
      have hdr : l.drop k = u :: l.drop (k + 1) := by
        have := (List.getElem?_eq_some_iff.1 HU.out).2
        rw [← this]; exact List.drop_eq_getElem_cons hlt
      have HD := hide hdr
      clear hdr
      by_cases hp : mB u.1 t = true
      · rw [hp]
        have HP := hide hp
        clear hp
        go_wp2_with fail
        refine ⟨⟨k + 1, max x u.2, true, by omega, rfl, rfl, by go_num, HB1.out, ?_⟩, by simp [intOf]; omega⟩
        rw [← HA.out, HD.out, asksS, HP.out]; rfl
      · have hp' : mB u.1 t = false := by simpa using hp
        rw [hp']
        have HP := hide hp'
        clear hp hp'
        go_wp2
        go_roundw
        case rel => exact ⟨k + 1, x, b, by omega, rfl, rfl, by go_num, HB1.out, by rw [← HA.out, HD.out, asksS, HP.out]; rfl⟩
        case measure => simp [intOf]; omega
    · go_wp2
      go_ret2
      have hkl : k = l.length := by omega
      have := HA.out
      rw [hkl, List.drop_length, asksS] at this
      exact ⟨by rw [← this]; rfl, HB.out⟩
end Go.Proofs.YtnmfmoimjkoieaaGreatDoor.br

/- Communication of one goroutine inside a walk: what comes of a code in a frame of an ordinary call; a select of one case with a default. No function of the program is named here. -/
namespace Go.Proofs.YtnmfmoimjkoieaaGreatDoor.br
open Go Go.Conc

/-- what a code comes to, in a frame of an ordinary call -/
def wpN (P : Program) (c : Code) (Q : Exit → Act → World → Prop) (a : Act) (w : World) : Prop :=
  ∀ (b : Frame) (k : List Item) (cs : List Frame), b.kind = .normal → ∃ e a' w', Q e a' w' ∧ Arrives P (lone (b.at a (.code c :: k)) cs w) b k cs e a' w'
section
variable {P : Program} {Q : Exit → Act → World → Prop} {a : Act} {w : World}
theorem wpN_of_wp {c : Code} (h : c.wp P Q a w) : wpN P c Q a w := fun b k cs _ => h b k cs
theorem wpN_seq {x y : Code} (h : wpN P x (Exit.then (wpN P y Q) Q) a w) : wpN P (Code.seq x y) Q a w := by
  intro b k cs hb
  obtain ⟨e, a₁, w₁, hq, harr⟩ := h b (.code y :: k) cs hb
  cases e with
  | normal =>
    obtain ⟨e₂, a₂, w₂, hq₂, harr₂⟩ := hq b k cs hb
    exact ⟨e₂, a₂, w₂, hq₂, .of_steps (.head step_seq harr) harr₂⟩
  | exit id => exact ⟨_, a₁, w₁, hq, .of_steps (.one step_seq) (.pass (x := .code y) rfl (fun _ _ => .inl (by simp)) harr)⟩
  | goto l => exact ⟨_, a₁, w₁, hq, .of_steps (.one step_seq) (.pass (x := .code y) rfl (fun _ _ => .inl (by simp)) harr)⟩
  | ret => exact ⟨_, a₁, w₁, hq, .of_steps (.one step_seq) (.pass (x := .code y) rfl (fun _ _ => .inl (by simp)) harr)⟩
  | panic ch => exact ⟨_, a₁, w₁, hq, .of_steps (.one step_seq) (.pass (x := .code y) rfl (fun _ _ => .inl (by simp)) harr)⟩
  | outgrown => exact ⟨_, a₁, w₁, hq, .of_steps (.one step_seq) (.pass (x := .code y) rfl (fun _ _ => .inl (by simp)) harr)⟩
theorem wpN_seq_k {x y : Code} (h : ∀ K : Act → World → Prop, (∀ a w, wpN P y Q a w → K a w) → wpN P x (Exit.then K Q) a w) : wpN P (Code.seq x y) Q a w := wpN_seq (h _ fun _ _ h => h)
/-- the first part is walked as ever -/
theorem wpN_seq_wp {x y : Code} (h : ∀ K : Act → World → Prop, (∀ a w, wpN P y Q a w → K a w) → x.wp P (Exit.then K Q) a w) : wpN P (Code.seq x y) Q a w :=
  wpN_seq (wpN_of_wp (h _ fun _ _ h => h))
theorem wpN_block {id : Nat} {c : Code} (h : wpN P c (Exit.inBlock id Q) a w) : wpN P (Code.block id c) Q a w := by
  intro b k cs hb
  obtain ⟨e, a₁, w₁, hq, harr⟩ := h b (.inBlock id :: k) cs hb
  cases e with
  | normal => exact ⟨.normal, a₁, w₁, hq, .head step_block (Steps.trans harr (.one step_inBlock))⟩
  | exit id' =>
    by_cases hid : id' = id
    · simp only [Exit.inBlock, hid, if_true] at hq
      exact ⟨.normal, a₁, w₁, hq, .head step_block (harr k (by simp [exitTo, hid]))⟩
    · simp only [Exit.inBlock, hid, if_false] at hq
      refine ⟨.exit id', a₁, w₁, hq, fun k' hk => .head step_block (harr k' ?_)⟩
      have : (id == id') = false := by simp; exact fun h => hid h.symm
      simp [exitTo, this, hk]
  | goto l => exact ⟨_, a₁, w₁, hq, fun k' hk => .head step_block (harr k' (by simp [gotoIn, hk]))⟩
  | ret => exact ⟨_, a₁, w₁, hq, .of_steps (.one step_block) harr⟩
  | panic ch => exact ⟨_, a₁, w₁, hq, .of_steps (.one step_block) harr⟩
  | outgrown => exact ⟨_, a₁, w₁, hq, .of_steps (b := b) (k := k) (cs := cs) (e := .outgrown) (.one step_block) harr⟩
theorem wpN_loop {c : Code} (I : Nat → Act → World → Prop) (n : Nat) (h₀ : I n a w)
    (round : ∀ n a w, I n a w → wpN P c (Exit.then (fun a' w' => ∃ m, m < n ∧ I m a' w') Q) a w) : wpN P (Code.loop c) Q a w := by
  intro b k cs hb
  have key : ∀ n a w, I n a w → ∃ e a' w', Q e a' w' ∧ Arrives P (lone (b.at a (.code c :: .inLoop c :: k)) cs w) b k cs e a' w' := by
    intro n
    induction n using Nat.strongRecOn with
    | _ n ih =>
      intro a w hI
      obtain ⟨e, a₁, w₁, hq, harr⟩ := round n a w hI b (.inLoop c :: k) cs hb
      cases e with
      | normal =>
        obtain ⟨m, hlt, hI₁⟩ := hq
        obtain ⟨e₂, a₂, w₂, hq₂, harr₂⟩ := ih m hlt a₁ w₁ hI₁
        exact ⟨e₂, a₂, w₂, hq₂, .of_steps (Steps.trans harr (.one step_inLoop)) harr₂⟩
      | exit id => exact ⟨_, a₁, w₁, hq, .pass (x := .inLoop c) rfl (fun _ _ => .inl (by simp)) harr⟩
      | goto l => exact ⟨_, a₁, w₁, hq, .pass (x := .inLoop c) rfl (fun _ _ => .inl (by simp)) harr⟩
      | ret => exact ⟨_, a₁, w₁, hq, .pass (x := .inLoop c) rfl (fun _ _ => .inl (by simp)) harr⟩
      | panic ch => exact ⟨_, a₁, w₁, hq, .pass (x := .inLoop c) rfl (fun _ _ => .inl (by simp)) harr⟩
      | outgrown => exact ⟨_, a₁, w₁, hq, .pass (x := .inLoop c) rfl (fun _ _ => .inl (by simp)) harr⟩
  obtain ⟨e, a', w', hq, harr⟩ := key n a w h₀
  exact ⟨e, a', w', hq, .of_steps (.one step_loop) harr⟩
theorem calls_of_wpN {f : FuncId} {fn : Func} {c : Code} {args : Array Value} {R : Ending → World → Prop} (hf : P.funcs[f]? = some fn) (hb : fn.body = some c)
    (h : wpN P c (bodyPost P fn R) { tmps := args ++ Array.replicate (fn.ntmps - args.size) undef, defers := [] } w) : Calls P f args w R := by
  intro cs
  let b : Frame := { (default : Frame) with fn := f, kind := .normal }
  have henter : Frame.enter P f args .normal = b.at { tmps := args ++ Array.replicate (fn.ntmps - args.size) undef, defers := [] } [.code c] := by
    simp [Frame.enter, Frame.at, hf, hb, b]
  obtain ⟨e, a', w', hq, harr⟩ := h b [] cs rfl
  rw [← henter] at harr
  cases e with
  | normal =>
    obtain ⟨hd, v, hr, hR⟩ := hq
    exact ⟨.returned v, w', _, hR, Steps.trans harr (.one step_end), rfl, rfl, hd, rfl, fn, hf, hr⟩
  | ret =>
    obtain ⟨hd, v, hr, hR⟩ := hq
    obtain ⟨todo, hs⟩ := harr
    exact ⟨.returned v, w', _, hR, hs, rfl, rfl, hd, rfl, fn, hf, hr⟩
  | panic chain =>
    obtain ⟨hd, hR⟩ := hq
    obtain ⟨todo, hs⟩ := harr
    exact ⟨.panicked chain, w', _, hR, hs, rfl, rfl, hd, fn, hf⟩
  | exit id => exact hq.elim
  | goto l => exact hq.elim
  | outgrown => exact ⟨.outgrown, w', b, hq, harr.resolve_left (by simp [b]), rfl, trivial⟩

/-- a region whose first operation is a select of one send with a default -/
theorem wpN_sel_send {id c cap s r : Nat} {ops : Array Oper} {o : Oper} {rest : List Nat} {buf : Array Value} {v z : Value} (hr : List.range ops.size = 0 :: rest) (h0 : ops[0]? = some o) (hg : o.guard = none)
    (hx : (execOp a.eval o).run P w = .ok (.comm #[scase c v z] false .select) w) (hc : w.heap[c]? = some (.chan cap buf false s r false))
    (h1 : buf.size < cap → wpOps P ops Q rest (a.put o.dst (.tuple #[goInt 0, .bool false])) (w.setChan c cap (buf.push v) false (s + 1) r false))
    (h2 : cap ≤ buf.size → wpOps P ops Q rest (a.put o.dst (.tuple #[goInt (-1), .bool false])) w) : wpN P (Code.region id ops false) Q a w := by
  intro b k cs hb
  have hwant : Region.wanted o (yielded ops a.tmps) = true := by simp [Region.wanted, hg]
  have hk : b.kind ≠ .early := by rw [hb]; decide
  have hs := stepG_comm (main := true) (b := b) (k := k) (cs := cs) (rest := rest) h0 hwant hk hx
  have hst : step P (lone (b.at a (.code (.region id ops false) :: k)) cs w) = .next (lone (b.at a (.inRegion ops (0 :: rest) :: k)) cs w) := by rw [← hr]; exact step_region
  have hf : ∀ u, (b.at a (.inRegion ops (0 :: rest) :: k)).finish u = b.at (a.put o.dst u) (.inRegion ops rest :: k) := fun u => by rw [Frame.finish_at, h0]; rfl
  by_cases hroom : buf.size < cap
  · obtain ⟨e, a', w', q, r⟩ := wp_ops rest _ _ (h1 hroom) b k cs
    have h3 := step_lone_select_send_room hs hc hroom
    rw [hf, ← lone_eq_solo, ← lone_eq_solo] at h3
    exact ⟨e, a', w', q, .of_steps (.head hst (.one h3)) r⟩
  · obtain ⟨e, a', w', q, r⟩ := wp_ops rest _ _ (h2 (by omega)) b k cs
    have h3 := step_lone_select_send_full hs hc (by omega)
    rw [hf, ← lone_eq_solo, ← lone_eq_solo] at h3
    exact ⟨e, a', w', q, .of_steps (.head hst (.one h3)) r⟩
/-- .. of one receive with a default -/
theorem wpN_sel_recv {id c cap s r : Nat} {ops : Array Oper} {o : Oper} {rest : List Nat} {buf : Array Value} {z : Value} (hr : List.range ops.size = 0 :: rest) (h0 : ops[0]? = some o) (hg : o.guard = none)
    (hx : (execOp a.eval o).run P w = .ok (.comm #[rcase c z] false .select) w) (hc : w.heap[c]? = some (.chan cap buf false s r false))
    (h1 : 0 < buf.size → wpOps P ops Q rest (a.put o.dst (.tuple #[goInt 0, .bool true, buf.getD 0 undef])) (w.setChan c cap (buf.extract 1 buf.size) false s (r + 1) false))
    (h2 : buf = #[] → wpOps P ops Q rest (a.put o.dst (.tuple #[goInt (-1), .bool false, z])) w) : wpN P (Code.region id ops false) Q a w := by
  intro b k cs hb
  have hwant : Region.wanted o (yielded ops a.tmps) = true := by simp [Region.wanted, hg]
  have hk : b.kind ≠ .early := by rw [hb]; decide
  have hs := stepG_comm (main := true) (b := b) (k := k) (cs := cs) (rest := rest) h0 hwant hk hx
  have hst : step P (lone (b.at a (.code (.region id ops false) :: k)) cs w) = .next (lone (b.at a (.inRegion ops (0 :: rest) :: k)) cs w) := by rw [← hr]; exact step_region
  have hf : ∀ u, (b.at a (.inRegion ops (0 :: rest) :: k)).finish u = b.at (a.put o.dst u) (.inRegion ops rest :: k) := fun u => by rw [Frame.finish_at, h0]; rfl
  by_cases hsome : 0 < buf.size
  · obtain ⟨e, a', w', q, r⟩ := wp_ops rest _ _ (h1 hsome) b k cs
    have h3 := step_lone_select_recv_buf hs hc hsome
    rw [hf, ← lone_eq_solo, ← lone_eq_solo] at h3
    exact ⟨e, a', w', q, .of_steps (.head hst (.one h3)) r⟩
  · have he : buf = #[] := Array.size_eq_zero_iff.1 (by omega)
    obtain ⟨e, a', w', q, r⟩ := wp_ops rest _ _ (h2 he) b k cs
    subst he
    have h3 := step_lone_select_default hs hc
    rw [hf, ← lone_eq_solo, ← lone_eq_solo] at h3
    exact ⟨e, a', w', q, .of_steps (.head hst (.one h3)) r⟩
theorem ops_list (o : Oper) (l : List Oper) : wpOps P (o :: l).toArray Q (List.range' 1 l.length) = wpList P (o :: l).toArray Q l :=
  wpOps_eq_wpList l 1 (fun j => by simp [Nat.add_comm])
theorem range_list (o : Oper) (l : List Oper) : List.range ((o :: l).toArray).size = 0 :: List.range' 1 l.length := by
  simp [List.range_succ_eq_map, List.range'_eq_map_range, Nat.add_comm]
/-- the same, for the walk: what follows the select is a list of operations -/
theorem wpN_send {id c cap s r : Nat} {o : Oper} {l : List Oper} {buf : Array Value} {v z : Value} (hg : o.guard = none)
    (hx : (execOp a.eval o).run P w = .ok (.comm #[scase c v z] false .select) w) (hc : w.heap[c]? = some (.chan cap buf false s r false))
    (h1 : buf.size < cap → wpList P (o :: l).toArray Q l (a.put o.dst (.tuple #[goInt 0, .bool false])) (w.setChan c cap (buf.push v) false (s + 1) r false))
    (h2 : cap ≤ buf.size → wpList P (o :: l).toArray Q l (a.put o.dst (.tuple #[goInt (-1), .bool false])) w) : wpN P (Code.region id (o :: l).toArray false) Q a w :=
  wpN_sel_send (range_list o l) rfl hg hx hc (fun h => by rw [ops_list]; exact h1 h) (fun h => by rw [ops_list]; exact h2 h)
theorem wpN_recv {id c cap s r : Nat} {o : Oper} {l : List Oper} {buf : Array Value} {z : Value} (hg : o.guard = none)
    (hx : (execOp a.eval o).run P w = .ok (.comm #[rcase c z] false .select) w) (hc : w.heap[c]? = some (.chan cap buf false s r false))
    (h1 : 0 < buf.size → wpList P (o :: l).toArray Q l (a.put o.dst (.tuple #[goInt 0, .bool true, buf.getD 0 undef])) (w.setChan c cap (buf.extract 1 buf.size) false s (r + 1) false))
    (h2 : buf = #[] → wpList P (o :: l).toArray Q l (a.put o.dst (.tuple #[goInt (-1), .bool false, z])) w) : wpN P (Code.region id (o :: l).toArray false) Q a w :=
  wpN_sel_recv (range_list o l) rfl hg hx hc (fun h => by rw [ops_list]; exact h1 h) (fun h => by rw [ops_list]; exact h2 h)
end
end Go.Proofs.YtnmfmoimjkoieaaGreatDoor.br

/- wait: a message waits, if there is room. -/
namespace Go.Proofs.YtnmfmoimjkoieaaGreatDoor.br
open Go.RowKit Go.Proofs.YtnmfmoimjkoieaaGreatDoor.topPlain Go.Proofs.YtnmfmoimjkoieaaGreatDoor.topWalks Go.Proofs.YtnmfmoimjkoieaaGreatDoor.decPlain Go.Conc

theorem zeroMsg (w : World) : (zeroValue 206).run Tryz.prog w = .ok (.agg #[.string ByteArray.empty, .string ByteArray.empty, .int .i64 0, .bool false]) w := by kernel_rfl
def waitS (S : Ses) (m : Msg) : Ses := if S.waiting.length < S.queue then { S with waiting := S.waiting ++ [m] } else S
theorem SesAt.setChan {w : World} {sb : Nat} {V : SesV} {S : Ses} (h : SesAt w sb V S) (l : List Msg) (s r : Nat) : SesAt (w.setChan V.cb S.queue (l.map msgV).toArray false s r false) sb V { S with waiting := l } := by
  obtain ⟨n1, n2, n3, n4, n5, n6, n7⟩ := h.own_ne
  have hlt : V.cb < w.heap.size := h.lt (Or.inr (Or.inr (Or.inr (Or.inl rfl))))
  have hk : ∀ b, b ≠ V.cb → (w.setChan V.cb S.queue (l.map msgV).toArray false s r false).heap[b]? = w.heap[b]? := fun b hb => by
    simp only [World.setChan]; rw [Array.getElem?_setIfInBounds_ne (fun e => hb e.symm)]
  refine ⟨(hk sb (fun e => n4 e.symm)).trans h.blk, own_keep h.fil (fun b hb => hk b (n6 b hb).2.2), own_keep h.und (fun b hb => hk b (n7 b hb).2), ?_, ⟨s, r, heap_setChan _ _ _ _ _ _ _ _ hlt⟩⟩
  obtain ⟨D, ⟨es, clock, hb, j1, j2, j3⟩, j4⟩ := h.kno
  exact ⟨D, ⟨es, clock, (hk _ n5).trans hb, j1, j2, j3⟩, j4⟩
theorem But.chan {F : Nat → Prop} (w : World) (c cap : Nat) (buf : Array Value) (cl : Bool) (s r : Nat) (tm : Bool) (h : F c) : But F w (w.setChan c cap buf cl s r tm) :=
  ⟨rfl, rfl, rfl, by simp [World.setChan], fun b _ hn => by simp only [World.setChan]; rw [Array.getElem?_setIfInBounds_ne (fun e => hn (by rw [← e]; exact h))]⟩

set_option maxHeartbeats 800000 in
theorem wait_any (sb : Nat) (V : SesV) (S : Ses) (m : Msg) (w : World) (h : SesAt w sb V S) :
    Calls Tryz.prog 198 #[.pointer (some ⟨sb, 0, none⟩), msgV m] w fun e w' => e = .returned (.tuple #[]) ∧ SesAt w' sb V (waitS S m) ∧ But (fun b => b = V.cb) w w' := by
  have H := hide h
  have c4 : w.cell? ⟨sb, 4, none⟩ = some (.chan (some V.cb)) := blk_cell h.blk rfl
  have hlt := blk_lt h.blk
  unfold msgV
  refine calls_of_wpN Tryz.func198 rfl ?_
  simp only [Tryz.ntmps198, List.size_toArray, List.length_cons, List.length_nil, Nat.reduceAdd, Nat.reduceSub, Array.replicate_succ, Array.replicate_zero, List.push_toArray, List.append_toArray, List.nil_append, List.cons_append]
  refine wpN_seq_wp fun K hK => ?_
  go_wp2
  refine wpN_seq_wp fun K hK => ?_
  go_wp2
  obtain ⟨s0, r0, hc⟩ := H.out.chn
  have hne : V.cb < w.heap.size := H.out.lt (Or.inr (Or.inr (Or.inr (Or.inl rfl))))
  have hz := zeroMsg
  have HB := hide ((Below.refl w.heap.size w).alloc (Nat.le_refl _) (.cells #[.string (bs m.topic), .string (bs m.payload), .int .i64 m.qos, .bool m.retain] 206))
  refine wpN_seq_k fun K hK => (wpN_send (c := V.cb) (cap := S.queue) (s := s0) (r := r0) (buf := (S.waiting.map msgV).toArray) (v := msgV m) (z := .agg #[.string ByteArray.empty, .string ByteArray.empty, .int .i64 0, .bool false]) rfl ?hx ?hc ?h1 ?h2)
  case hx => simp [go_sem, execOp, scase, Act.eval, hz, msgV]
  case hc => rw [Below.heap_alloc _ _ _ hne]; exact hc
  case h1 =>
    intro hroom
    have hroom' : S.waiting.length < S.queue := by simpa using hroom
    have hS : SesAt ((w.alloc (.cells #[.string (bs m.topic), .string (bs m.payload), .int .i64 m.qos, .bool m.retain] 206)).setChan V.cb S.queue ((S.waiting.map msgV).toArray.push (msgV m)) false (s0 + 1) r0 false) sb V (waitS S m) := by
      unfold waitS
      rw [if_pos hroom']
      have := (H.out.below HB.out).setChan (S.waiting ++ [m]) (s0 + 1) r0
      simpa using this
    have hW : But (fun b => b = V.cb) w ((w.alloc (.cells #[.string (bs m.topic), .string (bs m.payload), .int .i64 m.qos, .bool m.retain] 206)).setChan V.cb S.queue ((S.waiting.map msgV).toArray.push (msgV m)) false (s0 + 1) r0 false) := (But.of_below HB.out).trans (But.chan (F := fun b => b = V.cb) _ _ _ _ _ _ _ _ rfl) (fun _ _ h => h)
    generalize ((w.alloc (.cells #[.string (bs m.topic), .string (bs m.payload), .int .i64 m.qos, .bool m.retain] 206)).setChan V.cb S.queue ((S.waiting.map msgV).toArray.push (msgV m)) false (s0 + 1) r0 false) = w1 at *
    have HS := hide hS
    have HW := hide hW
    clear hS hW hc hroom hroom'
    simp only [Act.put, goInt]
    go_wp2
    refine wpN_of_wp ?_
    go_wp2
    go_end0
    exact ⟨rfl, HS.out, HW.out⟩
  case h2 =>
    intro hroom
    have hroom' : ¬ S.waiting.length < S.queue := by have : S.queue ≤ S.waiting.length := by simpa using hroom
                                                     omega
    have hS : SesAt (w.alloc (.cells #[.string (bs m.topic), .string (bs m.payload), .int .i64 m.qos, .bool m.retain] 206)) sb V (waitS S m) := by
      unfold waitS
      rw [if_neg hroom']
      exact H.out.below HB.out
    generalize (w.alloc (.cells #[.string (bs m.topic), .string (bs m.payload), .int .i64 m.qos, .bool m.retain] 206)) = w1 at *
    have HS := hide hS
    clear hS hc hroom hroom'
    simp only [Act.put, goInt]
    go_wp2
    refine wpN_of_wp ?_
    go_wp2
    go_end0
    exact ⟨rfl, HS.out, But.of_below HB.out⟩
end Go.Proofs.YtnmfmoimjkoieaaGreatDoor.br
