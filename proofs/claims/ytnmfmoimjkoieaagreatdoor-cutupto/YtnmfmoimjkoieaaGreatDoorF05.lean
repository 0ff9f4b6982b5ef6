import Derived.Test.YtnmfmoimjkoieaaGreatDoorF04
import Derived.Lib.OthersKept
import Derived.Deep.LoopGhost
import Derived.Laws.RangeAny
import Derived.WalkSmall
import Derived.Test.YtnmfmoimjkoieaaGreatDoorF01
namespace Go.Proofs.YtnmfmoimjkoieaaGreatDoor
namespace topWalks
open Go.RowKit topPlain
theorem get_bang (s:ByteArray) (j:Nat) (h:j < s.size):s.get! j=s[j]'h:=by
 simp [ByteArray.get!,getElem!_pos,h]
 rfl
theorem decode_span (s:ByteArray) (i:Nat) (h:i < s.size) (ha:128≤(s.get! i).toNat) :
 ∀ j,i≤j→j < i+(Utf8.decode s i).2→j < s.size∧128≤(s.get! j).toNat:=by
 have hn:¬ (s.get! (i+0)).toNat < 128:=by rw [Nat.add_zero];omega
 intro j hij hj
 obtain ⟨k,rfl⟩:∃ k,j=i+k:=⟨j - i,by omega⟩
 have hk:k < (Utf8.decode s i).2:=by omega
 clear hij hj
 revert hk
 simp only [Utf8.decode,hn,if_false]
 have z:k=0→i+k < s.size∧128≤(s.get! (i+k)).toNat:=fun e=>by subst e;exact ⟨by omega,by rw [Nat.add_zero];exact ha⟩
 have c:∀ m,(decide (i+m < s.size) && (s.get! (i+m)).toNat / 64 == 2)=true→k=m→i+k < s.size∧128≤(s.get! (i+k)).toNat:=by
  intro m hm e
  subst e
  simp only [Bool.and_eq_true,decide_eq_true_eq,beq_iff_eq] at hm
  exact ⟨hm.1,by omega⟩
 split
 · rename_i h1
   rw [Bool.and_eq_true] at h1
   split
   · intro hk
     rcases (by omega:k=0∨k=1) with e | e
     · exact z e
     · exact c 1 h1.2 e
   · intro hk;exact z (by omega)
 · split
   · rename_i h1
     rw [Bool.and_eq_true,Bool.and_eq_true] at h1
     split
     · intro hk
       rcases (by omega:k=0∨k=1∨k=2) with e | e | e
       · exact z e
       · exact c 1 h1.1.2 e
       · exact c 2 h1.2 e
     · intro hk;exact z (by omega)
   · split
     · rename_i h1
       rw [Bool.and_eq_true,Bool.and_eq_true,Bool.and_eq_true] at h1
       split
       · intro hk
         rcases (by omega:k=0∨k=1∨k=2∨k=3) with e | e | e | e
         · exact z e
         · exact c 1 h1.1.1.2 e
         · exact c 2 h1.1.2 e
         · exact c 3 h1.2 e
       · intro hk;exact z (by omega)
     · intro hk;exact z (by omega)
def signs:ByteArray:=⟨#[43,35]⟩
theorem signs_data:signs.data.toList = [43,35]:=rfl
theorem noAny_span {s:ByteArray} {i n:Nat} (h:Lib.NoAny s.data.toList [43,35] i) (hs:∀ j,i≤j→j < i+n→j < s.size∧128≤(s.get! j).toNat):Lib.NoAny s.data.toList [43,35] (i+n):=by
 intro j b hj hb
 by_cases e:j < i
 · exact h j b e hb
 · obtain ⟨h1,h2⟩:=hs j (by omega) hj
   rw [get_list s j h1] at hb
   rw [get_bang s j h1] at h2
   cases hb
   have h43:s[j]≠43:=fun e=>by rw [e] at h2;exact absurd h2 (by decide)
   have h35:s[j]≠35:=fun e=>by rw [e] at h2;exact absurd h2 (by decide)
   simp [h43,h35]
set_option maxHeartbeats 1000000 in
set_option maxRecDepth 100000 in
/-- a rune that is no ASCII: RuneError -/
theorem indexRune_error (w:World) :
 Calls Tryz.prog 279 #[.string signs,.int .i32 65533] w fun e w'=>e=.returned (.int .i64 (-1))∧Below w.heap.size w w':=by
 have hz:signs.size=2:=rfl
 have n0:=fun ty=>run_next_ascii (P:=Tryz.prog) w signs 0 ty (by decide) (by decide)
 have n1:=fun ty=>run_next_ascii (P:=Tryz.prog) w signs 1 ty (by decide) (by decide)
 have n2:=fun ty=>run_next_end (P:=Tryz.prog) w signs 2 ty (by decide)
 rw [show ((signs[0]'(by decide)).toNat:Int)=43 from rfl] at n0
 rw [show ((signs[1]'(by decide)).toNat:Int)=35 from rfl] at n1
 generalize signs=S at *
 go_enter Tryz.func279,Tryz.ntmps279
 go_wp2
 go_loopg [5,6] 2 (fun g _ _ wx=>g≤2∧wx=w.iter S (2 - g))
 case atStart=>exact ⟨by omega,rfl⟩
 case round =>
  obtain ⟨hg,rfl⟩:=hrel
  rcases (by omega:gk=0∨gk=1∨gk=2) with rfl | rfl | rfl
  · simp only [Nat.sub_zero]
    go_wp2
    go_ret
    exact ⟨rfl,(Below.refl _ _).alloc (Nat.le_refl _) _⟩
  · simp only [show 2 - 1=1 from rfl]
    go_wp2
    go_roundg 0
    case measure=>omega
    case rel=>exact ⟨by omega,rfl⟩
  · simp only [Nat.sub_self]
    go_wp2
    go_roundg 1
    case measure=>omega
    case rel=>exact ⟨by omega,rfl⟩
set_option maxHeartbeats 1000000 in
set_option maxRecDepth 100000 in
/-- no rune at all -/
theorem indexRune_bad (r:Int) (w:World) (h:128≤r) (he:r≠65533) (hv:Lib.validRune r=false) :
 Calls Tryz.prog 279 #[.string signs,.int .i32 r] w fun e w'=>e=.returned (.int .i64 (-1))∧Below w.heap.size w w':=by
 have cV:=Tryz.utf8_ValidRune r w
 rw [hv] at cV
 have HV:=hide cV
 have hne:(r == 65533)=false:=beq_eq_false_iff_ne.2 he
 have hlt:¬ r < 128:=by omega
 have h0:(0:Int)≤r:=by omega
 clear cV hv he
 generalize signs=S at *
 go_enter Tryz.func279,Tryz.ntmps279
 go_wp2_with (go_at_call 287;refine (unhide HV).mono ?_;rintro e w' ⟨rfl,rfl⟩)
 go_ret
 exact ⟨rfl,Below.refl _ _⟩
set_option maxHeartbeats 1000000 in
set_option maxRecDepth 100000 in
/-- a rune of two bytes or more -/
theorem indexRune_wide (r:Int) (w:World) (h:128≤r) (he:r≠65533) (hv:Lib.validRune r=true) :
 Calls Tryz.prog 279 #[.string signs,.int .i32 r] w fun e w'=>e=.returned (.int .i64 (-1))∧Below w.heap.size w w':=by
 have cV:=Tryz.utf8_ValidRune r w
 rw [hv] at cV
 have HV:=hide cV
 have hne:(r == 65533)=false:=beq_eq_false_iff_ne.2 he
 have hlt:¬ r < 128:=by omega
 have h0:(0:Int)≤r:=by omega
 obtain ⟨e1,e2,e3⟩:=encode_facts r (by rw [validRune_eq];exact hv) h
 clear cV hv he
 have hz:signs.size=2:=rfl
 have g1:∀ h:1 < signs.size,signs[1]'h=35:=fun _=>rfl
 have ix:∀ c w',Calls Tryz.prog 234 #[.string ByteArray.empty,.int .u8 c] w' fun e w''=>e=.returned (.int .i64 (-1))∧w''=w':=fun c w'=>Tryz.strings_IndexByte ByteArray.empty c w'
 have HX:=hide ix
 clear ix
 generalize signs=S at *
 go_enter Tryz.func279,Tryz.ntmps279
 go_wp2_with (go_at_call 287;refine (unhide HV).mono ?_;rintro e w' ⟨rfl,rfl⟩)
 refine wp_scope_straight ?_
 go_wp2
 go_loopw [9] (fun i wx=>i=.int .i64 (((Utf8.encode r).size:Int) - 1)∧wx=w') (fun _ _=>0)
 case atStart=>exact ⟨by go_num,rfl⟩
 case round =>
  obtain ⟨rfl,rfl⟩:=hrel
  by_cases hE:(Utf8.encode r).size=2
  · have hlast:((Utf8.encode r)[1]'(by omega)).toNat≥128:=by have:=e3 (by omega);simp only [hE] at this;exact this
    have hl0:(128:Int)≤(((Utf8.encode r)[1]'(by omega)).toNat:Int):=by omega
    have hl1:((35:Int) == (((Utf8.encode r)[1]'(by omega)).toNat:Int))=false:=beq_eq_false_iff_ne.2 (by omega)
    have hw2:IntKind.i64.wrap 2=2:=by decide
    clear e3 hlast
    go_wp2
    refine wp_scope_straight ?_
    go_wp2
    go_quiet (fail)
    go_wp2
    go_quiet ((go_at_call 234;exact (unhide HX _ _).mono fun _ _ h=>⟨h.1,_,h.2⟩))
    go_wp2
    simp +zetaDelta only [Exit.noGoto_ret,Exit.inBlock,Exit.then]
    go_ret
    exact ⟨rfl,below_drewN (Below.refl _ _) _⟩
  · have hge:¬ (((Utf8.encode r).size:Int) - 1 < 2):=by omega
    clear e3
    go_wp2
    go_ret
    exact ⟨rfl,Below.refl _ _⟩
theorem indexRune_high (r:Int) (w:World) (h:128≤r) :
 Calls Tryz.prog 279 #[.string signs,.int .i32 r] w fun e w'=>e=.returned (.int .i64 (-1))∧Below w.heap.size w w':=by
 by_cases he:r=65533
 · subst he;exact indexRune_error w
 · cases hv:Lib.validRune r
   · exact indexRune_bad r w h he hv
   · exact indexRune_wide r w h he hv
theorem indexRune_low (x:UInt8) (w:World) (h:x.toNat < 128) :
 Calls Tryz.prog 279 #[.string signs,.int .i32 (x.toNat:Int)] w fun e w'=>e=.returned (.int .i64 (Lib.indexByte [43,35] x))∧w'=w:=by
 have:=Tryz.strings_IndexRune_ascii signs x.toNat w (by omega) (by omega)
 rw [show ((x.toNat:Int)).toNat.toUInt8=x by simp,signs_data] at this
 exact this
set_option maxHeartbeats 1000000 in
set_option maxRecDepth 100000 in
theorem indexAny_short (s:ByteArray) (w:World) (h8:s.size≤8) :
 Calls Tryz.prog 273 #[.string s,.string signs] w fun e w'=>e=.returned (.int .i64 (Lib.indexAny s.data.toList [43,35]))∧Below w.heap.size w w':=by
 have hemp:signs.toList.isEmpty=false:=by rw [Lib.toList_data,signs_data];rfl
 have hz:signs.size=2:=rfl
 have h8z:decide ((8:Int) < (s.size:Int))=false:=decide_eq_false (by omega)
 have cU:=hide fun n w=>Tryz.strings_shouldUseASCIISet n w
 have cL:=hide fun x w h=>indexRune_low x w h
 have cH:=hide fun r w h=>indexRune_high r w h
 generalize signs=S at *
 go_enter Tryz.func273,Tryz.ntmps273
 go_wp2_with (go_at_call 280;refine (unhide cU _ _).mono ?_;rintro e w' ⟨rfl,hw⟩;rw [hw,h8z])
 go_loopg [9,10] s.size (fun g _ _ wx=>∃ i:Nat,i+g=s.size∧wx.heap[w.heap.size]?=some (.stringIter s i)∧Below w.heap.size w wx∧w.heap.size < wx.heap.size∧Lib.NoAny s.data.toList [43,35] i)
 case atStart=>exact ⟨0,by omega,World.iter_heap _ _ _,(Below.refl _ _).alloc (Nat.le_refl _) _,by simp [World.iter],Lib.NoAny.zero _ _⟩
 case round =>
  obtain ⟨i,hig,hit,hbel,hszl,hno⟩:=hrel
  have HN:=hide hno
  have hit':=hit
  have HIT:=hide hit
  clear hno hit
  cases gk with
  | zero =>
    obtain rfl:i=s.size:=by omega
    have hnx:=fun ty=>Lib.run_next_end_at (P:=Tryz.prog) wr w.heap.size s s.size ty hit' (by omega)
    clear hit'
    go_wp2
    go_ret
    exact ⟨by rw [Lib.indexAny_none (by rw [← Lib.size_eq];exact HN.out)];rfl,hbel⟩
  | succ g =>
    have hi:i < s.size:=by omega
    obtain ⟨x,hx⟩:∃ x:UInt8,s[i]'hi=x:=⟨_,rfl⟩
    have Hx:Hid (s.data.toList[i]?=some x):=by rw [← hx];exact get_list s i hi
    by_cases hx128:x.toNat < 128
    · have hnx:=fun ty=>Lib.run_next_ascii_at (P:=Tryz.prog) wr w.heap.size s i ty hit' hi (by rw [hx];exact hx128)
      rw [hx] at hnx
      clear hit' hx
      have hb2:Below w.heap.size w (wr.iterAt w.heap.size s (i+1)):=Lib.below_iterAt hbel (Nat.le_refl _) s (i+1)
      have hit2:Hid ((wr.iterAt w.heap.size s (i+1)).heap[w.heap.size]?=some (.stringIter s (i+1))):=Lib.iterAt_heap wr w.heap.size s i (i+1) HIT.out
      have hsz2:w.heap.size < (wr.iterAt w.heap.size s (i+1)).heap.size:=by rw [Lib.iterAt_size];exact hszl
      have HB2:=hide hb2
      have HS2:=hide hsz2
      clear hb2 hsz2
      generalize wr.iterAt w.heap.size s (i+1)=W2 at *
      have hcon:=Lib.contains_iff_indexByte [43,35] x
      cases hin:([43,35]:List UInt8).contains x
      · rw [hin] at hcon
        have hlt:¬ ((0:Int)≤Lib.indexByte [43,35] x):=of_decide_eq_false hcon.symm
        have HIN:=hide hin
        clear hcon hin
        go_wp2_with (go_at_call 279;refine (unhide cL x _ (by omega)).mono ?_;rintro e w' ⟨rfl,rfl⟩)
        go_roundg g
        case measure=>omega
        case rel=>exact ⟨i+1,by omega,hit2.out,HB2.out,HS2.out,HN.out.succ Hx.out HIN.out⟩
      · rw [hin] at hcon
        have hge:(0:Int)≤Lib.indexByte [43,35] x:=of_decide_eq_true hcon.symm
        have HIN:=hide hin
        clear hcon hin
        go_wp2_with (go_at_call 279;refine (unhide cL x _ (by omega)).mono ?_;rintro e w' ⟨rfl,rfl⟩)
        go_ret
        exact ⟨by rw [Lib.indexAny_hit HN.out Hx.out HIN.out];rfl,HB2.out⟩
    · have hg128:128≤(s.get! i).toNat:=by rw [get_bang s i hi,hx];omega
      have hnx:=fun ty=>Lib.run_next_any_at (P:=Tryz.prog) wr w.heap.size s i ty hit' hi
      obtain ⟨hd1,hd2⟩:=decode_high s i hi (by rw [hx];omega)
      have hsp:=decode_span s i hi hg128
      clear hit' hx hg128
      generalize Utf8.decode s i=D at *
      obtain ⟨c,n⟩:=D
      simp only at hnx hd1 hd2 hsp
      have hend:i+n≤s.size:=by have:=hsp (i+n - 1) (by omega) (by omega);omega
      have HSP:=hide (noAny_span HN.out hsp)
      clear hsp HN
      have hb2:Below w.heap.size w (wr.iterAt w.heap.size s (i+n)):=Lib.below_iterAt hbel (Nat.le_refl _) s (i+n)
      have hit2:Hid ((wr.iterAt w.heap.size s (i+n)).heap[w.heap.size]?=some (.stringIter s (i+n))):=Lib.iterAt_heap wr w.heap.size s i (i+n) HIT.out
      have hsz2:w.heap.size < (wr.iterAt w.heap.size s (i+n)).heap.size:=by rw [Lib.iterAt_size];exact hszl
      have HB2:=hide hb2
      have HS2:=hide hsz2
      clear hb2 hsz2
      generalize wr.iterAt w.heap.size s (i+n)=W2 at *
      go_wp2_with fail
      refine (unhide cH (c:Int) _ (by omega)).mono ?_
      rintro e w3 ⟨rfl,hb0⟩
      have HB3:=hide hb0
      clear hb0
      go_wp2
      have hb:=HB3.out
      have hs3:=hb.size
      have hs2:=HS2.out
      go_roundg (s.size - (i+n))
      case measure=>omega
      case rel=>exact ⟨i+n,by omega,by rw [hb.block _ (by omega)];exact hit2.out,HB2.out.trans (hb.mono (by omega)),by omega,HSP.out⟩
theorem zero119 (w:World):(zeroValue 321).run Tryz.prog w=.ok (.agg (Array.replicate 256 (.bool false))) w:=by kernel_rfl
theorem indexAny_any (s:ByteArray) (w:World) (hs:s.size < 4294967281) :
 Calls Tryz.prog 273 #[.string s,.string signs] w fun e w'=>e=.returned (.int .i64 (Lib.indexAny s.data.toList [43,35]))∧Below w.heap.size w w':=by
 by_cases h8:s.size≤8
 · exact indexAny_short s w h8
 · refine (Tryz.strings_IndexAny_long zero119 s signs w (by decide) (by omega) hs (by decide) ?_).mono ?_
   · intro j b hb
     rw [signs_data] at hb
     match j,hb with
     | 0,hb=>cases hb;decide
     | 1,hb=>cases hb;decide
   · rintro e w' ⟨rfl,rfl⟩
     exact ⟨rfl,((Below.refl _ _).alloc (Nat.le_refl _) _).alloc (by simp) _⟩
set_option maxHeartbeats 400000 in
theorem containsAny_any (s:ByteArray) (w:World) (hs:s.size < 4294967281) :
 Calls Tryz.prog 257 #[.string s,.string signs] w fun e w'=>e=.returned (.bool (hasB s.data.toList 43 || hasB s.data.toList 35))∧Below w.heap.size w w':=by
 have cI:=hide (indexAny_any s w hs)
 rw [← indexAny_pos]
 generalize Lib.indexAny s.data.toList [43,35]=I at *
 generalize signs=S at *
 go_enter Tryz.func257,Tryz.ntmps257
 go_wp2_with (go_at_call 273;refine (unhide cI).mono ?_;rintro e w' ⟨rfl,hb⟩)
 go_ret
 exact ⟨rfl,by assumption⟩
set_option maxHeartbeats 400000 in
theorem isTopic_any (s:ByteArray) (w:World) (hs:s.size < 4294967281) (hI:Inv w) :
 Calls Tryz.prog 228 #[.string s] w fun e w'=>e=.returned (.bool (topicB s.data.toList))∧Below w.heap.size w w':=by
 have cF:=hide (fits_any s w (by unfold maxLen;omega) hI)
 have cC:=hide fun w=>containsAny_any s w hs
 unfold topicB
 clear hI hs
 generalize (hasB s.data.toList 43 || hasB s.data.toList 35)=Q at *
 generalize nameB 1 30 s.data.toList=V at *
 cases V
 · clear cC
   go_enter Tryz.func228,Tryz.ntmps228
   go_wp2_with (go_at_call 235;refine (unhide cF).mono ?_;rintro e w' ⟨rfl,hb⟩)
   go_ret
   exact ⟨rfl,by assumption⟩
 · go_enter Tryz.func228,Tryz.ntmps228
   go_wp2_with fail
   refine (unhide cF).mono ?_
   rintro e w1 ⟨rfl,hb1⟩
   have HB1:=hide hb1
   clear hb1
   go_wp2_with fail
   refine (unhide cC _).mono ?_
   rintro e w2 ⟨rfl,hb2⟩
   have HB2:=hide hb2
   clear hb2
   go_wp2
   go_ret
   exact ⟨ret_bool (by simp),HB1.out.trans (HB2.out.mono HB1.out.size)⟩
theorem split_any (s:ByteArray) (w:World) (hs:s.size < 4294967281) (hI:Inv w) :
 Calls Tryz.prog 232 #[.string s,.string ⟨#[47]⟩] w fun e w'=>e=.returned (.slice (some ⟨w.heap.size,0,none⟩) (lev s.data.toList).length (lev s.data.toList).length)∧w'=w.alloc (.cells (strs (lev s.data.toList)).toArray 9):=by
 obtain ⟨_,m,hm⟩:=hI
 refine (Tryz.strings_Split s (bs [47]) m w hs hm (by decide)).mono ?_
 rintro e w' ⟨rfl,rfl⟩
 have h1:Lib.countB s (bs [47])+1=(lev s.data.toList).length:=count_lev _ _ (Nat.le_refl _)
 rw [h1,splitB_lev,List.map_map]
 exact ⟨rfl,rfl⟩
theorem contains_any (s:ByteArray) (c:UInt8) (w:World) :
 Calls Tryz.prog 262 #[.string s,.string ⟨#[c]⟩] w fun e w'=>e=.returned (.bool (hasB s.data.toList c))∧w'=w:=by
 rw [← indexByte_pos]
 exact Tryz.strings_Contains_one s c w
set_option maxHeartbeats 400000 in
theorem isFilterLevel_any (s:ByteArray) (last:Bool) (w:World) :
 Calls Tryz.prog 236 #[.string s,.bool last] w fun e w'=>e=.returned (.bool (okLev s.data.toList last))∧w'=w:=by
 have c35:=hide fun w=>contains_any s 35 w
 have c43:=hide fun w=>contains_any s 43 w
 have e35:(s.toList == [35])=(s.data.toList == [35]):=by rw [Lib.toList_data]
 have e43:(s.toList == [43])=(s.data.toList == [43]):=by rw [Lib.toList_data]
 unfold okLev
 generalize hasB s.data.toList 35=H at *
 generalize hasB s.data.toList 43=Q at *
 generalize (s.data.toList == [35])=E at *
 generalize (s.data.toList == [43])=F at *
 cases H
 · cases F
   · go_enter Tryz.func236,Tryz.ntmps236
     go_wp2_with fail
     refine (unhide c35 _).mono ?_
     rintro e w' ⟨rfl,rfl⟩
     go_wp2_with fail
     refine (unhide c43 _).mono ?_
     rintro e w' ⟨rfl,rfl⟩
     go_wp2
     go_ret
     exact ⟨ret_bool (by simp),rfl⟩
   · go_enter Tryz.func236,Tryz.ntmps236
     go_wp2_with fail
     refine (unhide c35 _).mono ?_
     rintro e w' ⟨rfl,rfl⟩
     go_wp2
     go_ret
     exact ⟨ret_bool (by simp),rfl⟩
 · cases E<;>cases last
   all_goals
    go_enter Tryz.func236,Tryz.ntmps236
    go_wp2_with fail
    refine (unhide c35 _).mono ?_
    rintro e w' ⟨rfl,rfl⟩
    go_wp2
    go_ret
    exact ⟨ret_bool (by simp),rfl⟩
theorem alloc_cell (w:World) (L:List (List UInt8)) (j:Nat) (x:List UInt8) (h:L[j]?=some x):(w.alloc (.cells (strs L).toArray 9)).cell? ⟨w.heap.size,j,none⟩=some (.string (bs x)):=by
 simp [strs,h]
set_option maxHeartbeats 800000 in
set_option maxRecDepth 100000 in
theorem isFilter_any (s:ByteArray) (w:World) (hs:s.size < 4294967281) (hI:Inv w) :
 Calls Tryz.prog 206 #[.string s] w fun e w'=>e=.returned (.bool (filterB s.data.toList))∧Below w.heap.size w w':=by
 have cF:=hide (fits_any s w (by unfold maxLen;omega) hI)
 have hlen:=lev_length_le s.data.toList
 rw [← Lib.size_eq] at hlen
 unfold filterB
 generalize nameB 1 30 s.data.toList=V at *
 cases V
 · clear hI hlen
   go_enter Tryz.func206,Tryz.ntmps206
   go_wp2_with (go_at_call 235;refine (unhide cF).mono ?_;rintro e w' ⟨rfl,hb⟩)
   go_ret
   exact ⟨rfl,by assumption⟩
 · have HI:=hide hI
   have cS:=hide fun w (h:Inv w)=>split_any s w hs h
   have cL:=hide fun x last w=>isFilterLevel_any (bs x) last w
   clear hI
   rw [Bool.true_and]
   generalize lev s.data.toList=L at *
   go_enter Tryz.func206,Tryz.ntmps206
   go_wp2_with fail
   refine (unhide cF).mono ?_
   rintro e w1 ⟨rfl,hb1⟩
   have HI1:=hide (HI.out.below hb1)
   have HB1:=hide hb1
   clear hb1
   go_wp2_with fail
   refine (unhide cS _ HI1.out).mono ?_
   rintro e w2 ⟨rfl,hw2⟩
   have HC:Hid (∀ (j:Nat) x,L[j]?=some x→w2.cell? ⟨w1.heap.size,j,none⟩=some (.string (bs x))):=fun j x h=>by rw [hw2];exact alloc_cell w1 L j x h
   have HB2:Hid (Below w.heap.size w w2):=by rw [hw2];exact HB1.out.alloc HB1.out.size _
   clear hw2
   go_wp2_with fail
   go_loopw [13] (fun i wx=>∃ k:Nat,k≤L.length∧i=.int .i64 k∧wx=w2∧okLevs (L.drop k)=okLevs L) (fun i _=>L.length - (intOf i).toNat)
   case atStart=>exact ⟨0,Nat.zero_le _,rfl,rfl,by simp⟩
   case round =>
    obtain ⟨k,hk,rfl,rfl,hr⟩:=hrel
    have HR:=hide hr
    clear hr
    by_cases hlt:k < L.length
    · obtain ⟨x,hx⟩:∃ x,L[k]?=some x:=⟨_,List.getElem?_eq_getElem hlt⟩
      have cx:=HC.out k x hx
      have hd:=okLevs_drop L k hlt
      rw [show L[k]=x from (List.getElem?_eq_some_iff.1 hx).2,HR.out] at hd
      have HD:=hide hd
      clear hd hx
      have hlast:((k:Int) == (L.length:Int) - 1)=decide (k+1=L.length):=by
       by_cases e:k+1=L.length
       · rw [decide_eq_true e];exact beq_iff_eq.2 (by omega)
       · rw [decide_eq_false e];exact beq_eq_false_iff_ne.2 (by omega)
      generalize decide (k+1=L.length)=lst at *
      have cLx:=hide fun w=>unhide cL x lst w
      cases hok:okLev x lst
      · have HD2:Hid (okLevs L=false):=by rw [HD.out,hok];rfl
        have cLy:Hid (∀ w,Calls Tryz.prog 236 #[.string (bs x),.bool lst] w fun e w'=>e=.returned (.bool false)∧w'=w):=by rw [← hok];exact cLx
        clear cLx hok HD
        go_wp2_with fail
        refine (unhide cLy _).mono ?_
        rintro e w' ⟨rfl,rfl⟩
        go_wp2
        go_ret
        exact ⟨ret_bool HD2.out.symm,HB2.out⟩
      · have HD2:Hid (okLevs L=okLevs (L.drop (k+1))):=by have:=HD.out;rw [hok,Bool.true_and] at this;exact this
        have cLy:Hid (∀ w,Calls Tryz.prog 236 #[.string (bs x),.bool lst] w fun e w'=>e=.returned (.bool true)∧w'=w):=by rw [← hok];exact cLx
        clear cLx hok HD
        go_wp2_with fail
        refine (unhide cLy _).mono ?_
        rintro e w' ⟨rfl,rfl⟩
        go_wp2
        go_roundw
        case rel=>exact ⟨k+1,by omega,by go_num,by trivial,HD2.out.symm⟩
        case measure=>simp [intOf];omega
    · obtain rfl:k=L.length:=by omega
      have HE:Hid (okLevs L=true):=by rw [← HR.out,List.drop_length];rfl
      go_wp2
      go_ret
      exact ⟨ret_bool HE.out.symm,HB2.out⟩
def LevIn (w:World) (g:Nat) (L:List (List UInt8)):Prop:=∀ (j:Nat) x,L[j]?=some x→w.cell? ⟨g,j,none⟩=some (.string (bs x))
theorem LevIn.below {w w':World} {g:Nat} {L:List (List UInt8)} (h:LevIn w g L) (hb:Below w.heap.size w w'):LevIn w' g L:=fun j x hx=>by
 have:=h j x hx
 rw [hb.cell (cell_lt this)]
 exact this
end topWalks
namespace rd
open Go.RowKit topPlain topWalks decPlain
theorem ret_int {k:IntKind} {a b:Int} (h:a=b):Ending.returned (.int k a)=.returned (.int k b):=by rw [h]
def Nest (a:Addr):Nat→Value→Prop
 | 0,v=>v=.iface 331 (.pointer (some a))
 | n+1,v=>∃ (wh:ByteArray) (c:Value),v=.iface 171 (.agg #[.string wh,c])∧Nest a n c
def BytesV (B:Nat) (w:World) (v:Value) (l:List UInt8):Prop:=
 ∃ b off cap:Nat,v=.slice (some ⟨b,off,none⟩) l.length cap∧l.length≤cap∧cap≤maxLen∧b < B∧∀ (j:Nat) x,l[j]?=some x→w.cell? ⟨b,off+j,none⟩=some (.int .u8 (x.toNat:Int))
def Rd (a:Addr) (B br:Nat) (w:World):Option (List UInt8)→Prop
 | some l=>B≤br∧∃ v,w.cell? ⟨br,0,none⟩=some v∧w.cell? ⟨br,1,none⟩=some .nilIface∧w.frozen? ⟨br,0,none⟩=false∧w.frozen? ⟨br,1,none⟩=false∧BytesV B w v l
 | none=>B≤br∧∃ e,w.cell? ⟨br,0,none⟩=some (.slice none 0 0)∧w.cell? ⟨br,1,none⟩=some e∧w.frozen? ⟨br,0,none⟩=false∧w.frozen? ⟨br,1,none⟩=false∧∃ n,Nest a (n+1) e
def ErrAt (a:Addr) (w:World):Prop:=w.cell? ⟨0,0,none⟩=some (.iface 331 (.pointer (some a)))
theorem BytesV.grown {B br:Nat} {w w':World} {v:Value} {l:List UInt8} (h:BytesV B w v l) (hB:B≤br) (hg:w.grownBy w' (some br)):BytesV B w' v l:=by
 obtain ⟨b,off,cap,h1,h2,h3,h4,h5⟩:=h
 exact ⟨b,off,cap,h1,h2,h3,h4,fun j x hx=>hg.cell (h5 j x hx) (by simp;omega)⟩
theorem grown_refl (w:World) (r:Option Nat):w.grownBy w r:=⟨rfl,rfl,rfl,Nat.le_refl _,fun _ _ _=>rfl⟩
theorem grown_trans {a b c:World} {r:Option Nat} (h:a.grownBy b r) (k:b.grownBy c r):a.grownBy c r:=
 ⟨k.os.trans h.os,k.tape.trans h.tape,k.output.trans h.output,Nat.le_trans h.size k.size,fun i hi hne=>(k.block i (Nat.lt_of_lt_of_le hi h.size) hne).trans (h.block i hi hne)⟩
theorem grown_set (w:World) (br o:Nat) (u:Value):w.grownBy (w.setCell ⟨br,o,none⟩ u) (some br):=
 ⟨rfl,rfl,rfl,by simp [World.setCell],fun k _ hne=>Below.heap_setCell _ _ _ _ (fun e=>hne (by rw [e]))⟩
theorem ErrAt.grown {a:Addr} {br:Nat} {w w':World} (h:ErrAt a w) (hb:5≤br) (hg:w.grownBy w' (some br)):ErrAt a w':=hg.cell h (by simp;omega)
theorem grown_below {w w':World} {r:Option Nat} (h:Below w.heap.size w w'):w.grownBy w' r:=⟨h.os,h.tape,h.output,h.size,fun k hk _=>h.block k hk⟩
theorem below_grown {w w':World} {br B:Nat} (h:w.grownBy w' (some br)) (hB:B≤br) (hs:B≤w.heap.size):Below B w w':=
 ⟨h.os,h.tape,h.output,h.size,fun k hk=>h.block k (by omega) (by simp;omega)⟩
theorem inv_grown {br:Nat} {w w':World} (h:topWalks.Inv w) (hb:5≤br) (hg:w.grownBy w' (some br)):topWalks.Inv w':=by
 obtain ⟨⟨h1,h2⟩,m,hm⟩:=h
 have g3:Tryz.lays196_ren.g 3 < 5:=by decide
 have g4:Tryz.lays196_ren.g 4 < 5:=by decide
 have g1:Tryz.laysM144_ren.g 1 < 5:=by decide
 exact ⟨⟨fun c hc=>hg.cell (h1 c hc) (by simp;omega),fun i hi=>⟨hg.cell (h2 i hi).1 (by simp;omega),hg.cell (h2 i hi).2 (by simp;omega)⟩⟩,m,hg.cell hm (by simp;omega)⟩
theorem sc_same {w:World} {a:Addr} {u v:Value} (h:w.cell? a=some u):(w.setCell a v).cell? a=some v:=by apply World.cell?_setCell_same;exact h
theorem sc_other {w:World} {a b:Addr} {v:Value} (h:a≠b):(w.setCell a v).cell? b=w.cell? b:=by apply World.cell?_setCell_other;exact h
theorem sc_frozen {w:World} {a b:Addr} {v:Value}:(w.setCell a v).frozen? b=w.frozen? b:=by apply World.frozen?_setCell
set_option maxHeartbeats 400000 in
theorem want_any (a:Addr) (B br:Nat) (so:Bool) (wh:ByteArray) (st:Option (List UInt8)) (w:World) (hr:Rd a B br w st) (he:ErrAt a w) :
 Calls Tryz.prog 125 #[.pointer (some ⟨br,0,none⟩),.bool so,.string wh] w fun e w'=>e=.returned (.tuple #[])∧w.grownBy w' (some br)∧Rd a B br w' (wantS so st):=by
 cases so
 · cases st with
   | none =>
     have HR:=hide hr
     obtain ⟨hB,e,h0,h1,f0,f1,n,hn⟩:=hr
     obtain ⟨wh',c,rfl,_⟩:=hn
     go_enter Tryz.func125,Tryz.ntmps125
     go_wp2
     refine bodyPost_ret (results_none rfl _ _ _) rfl ?_
     exact ⟨rfl,grown_refl _ _,HR.out⟩
   | some l =>
     obtain ⟨hB,v,h0,h1,f0,f1,hBv⟩:=hr
     unfold ErrAt at he
     clear hBv
     go_enter Tryz.func125,Tryz.ntmps125
     go_wp2
     go_end0
     refine ⟨rfl,grown_trans (grown_set _ _ _ _) (grown_set _ _ _ _),?_⟩
     refine ⟨hB,.iface 171 (.agg #[.string wh,.iface 331 (.pointer (some a))]),?_,?_,?_,?_,0,wh,_,rfl,rfl⟩
     · exact sc_same (u:=v) (by rw [sc_other (by simp)];exact h0)
     · rw [sc_other (by simp)];exact sc_same h1
     · rw [sc_frozen,sc_frozen];exact f0
     · rw [sc_frozen,sc_frozen];exact f1
 · have HR:=hide hr
   clear hr he
   go_enter Tryz.func125,Tryz.ntmps125
   go_wp2
   refine bodyPost_ret (results_none rfl _ _ _) rfl ?_
   exact ⟨rfl,grown_refl _ _,by simpa [wantS] using HR.out⟩
theorem Rd.below {a:Addr} {B br:Nat} {w w':World} {st:Option (List UInt8)} (h:Rd a B br w st) (hb:Below w.heap.size w w'):Rd a B br w' st:=by
 cases st with
 | none =>
   obtain ⟨hB,e,h0,h1,f0,f1,h2⟩:=h
   have hlt:=topWalks.cell_lt h0
   exact ⟨hB,e,by rw [hb.cell hlt];exact h0,by rw [hb.cell (topWalks.cell_lt h1)];exact h1,by rw [hb.frozen hlt];exact f0,by rw [hb.frozen (topWalks.cell_lt h1)];exact f1,h2⟩
 | some l =>
   obtain ⟨hB,v,h0,h1,f0,f1,h2⟩:=h
   have hlt:=topWalks.cell_lt h0
   exact ⟨hB,v,by rw [hb.cell hlt];exact h0,by rw [hb.cell (topWalks.cell_lt h1)];exact h1,by rw [hb.frozen hlt];exact f0,by rw [hb.frozen (topWalks.cell_lt h1)];exact f1,h2.grown hB (grown_below hb)⟩
theorem Rd.set {a:Addr} {B br:Nat} {w:World} {v u:Value} {l':List UInt8} (h0:w.cell? ⟨br,0,none⟩=some v) (h1:w.cell? ⟨br,1,none⟩=some .nilIface) (f0:w.frozen? ⟨br,0,none⟩=false) (f1:w.frozen? ⟨br,1,none⟩=false)
 (hB:B≤br) (hBv:BytesV B w u l'):Rd a B br (w.setCell ⟨br,0,none⟩ u) (some l'):=
 ⟨hB,u,sc_same h0,by rw [sc_other (by simp)];exact h1,by rw [sc_frozen];exact f0,by rw [sc_frozen];exact f1,hBv.grown hB (grown_set _ _ _ _)⟩
theorem BytesV.tail {B:Nat} {w:World} {b off cap n:Nat} {l:List UInt8} (hn:n≤l.length) (h2:l.length≤cap) (h3:cap≤maxLen) (h4:b < B) (h5:∀ (j:Nat) x,l[j]?=some x→w.cell? ⟨b,off+j,none⟩=some (.int .u8 (x.toNat:Int))) :
 BytesV B w (.slice (if cap=n then some ⟨b,off,none⟩ else some ⟨b,off+n,none⟩) (l.length - n) (cap - n)) (l.drop n):=by
 by_cases e:cap=n
 · refine ⟨b,off,cap - n,by rw [if_pos e,List.length_drop],by rw [List.length_drop];omega,by omega,h4,fun j x hx=>?_⟩
   have:(l.drop n).length≤j:=by rw [List.length_drop];omega
   rw [List.getElem?_eq_none this] at hx
   cases hx
 · refine ⟨b,off+n,cap - n,by rw [if_neg e,List.length_drop],by rw [List.length_drop];omega,by omega,h4,fun j x hx=>?_⟩
   rw [List.getElem?_drop] at hx
   have:=h5 (n+j) x hx
   rwa [show off+(n+j)=off+n+j by omega] at this
set_option maxHeartbeats 400000 in
theorem octet_any (a:Addr) (B br:Nat) (st:Option (List UInt8)) (w:World) (hr:Rd a B br w st) (he:ErrAt a w) :
 Calls Tryz.prog 200 #[.pointer (some ⟨br,0,none⟩)] w fun e w'=>e=.returned (.int .i64 ((octS st).1:Int))∧w.grownBy w' (some br)∧Rd a B br w' (octS st).2:=by
 have cW:=hide fun so wh=>want_any a B br so wh st w hr he
 clear he
 cases st with
 | none =>
   obtain ⟨hB,e,h0,h1,f0,f1,n,hn⟩:=hr
   clear h1 f0 f1 hn
   go_enter Tryz.func200,Tryz.ntmps200
   go_wp2_with fail
   refine (unhide cW _ _).mono ?_
   rintro e w1 ⟨rfl,hg,hR⟩
   rw [wantS_none] at hR
   have HR:=hide hR
   have HG:=hide hg
   obtain ⟨_,e1,k0,k1,kf0,kf1,n1,wh1,c1,rfl,_⟩:=hR
   clear hg kf0 kf1
   go_wp2
   go_ret
   exact ⟨rfl,HG.out,HR.out⟩
 | some l =>
   obtain ⟨hB,v,h0,h1,f0,f1,hBv⟩:=hr
   cases l with
   | nil =>
     obtain ⟨b,off,cap,rfl,hc1,hc2,hne,hcell⟩:=hBv
     clear h1 f0 f1 hcell
     go_enter Tryz.func200,Tryz.ntmps200
     go_wp2_with fail
     refine (unhide cW _ _).mono ?_
     rintro e w1 ⟨rfl,hg,hR⟩
     have hR':Rd a B br w1 none:=by simpa [wantS] using hR
     have HR:=hide hR'
     have HG:=hide hg
     obtain ⟨_,e1,k0,k1,kf0,kf1,n1,wh1,c1,rfl,_⟩:=hR'
     clear hg hR kf0 kf1
     go_wp2
     go_ret
     exact ⟨rfl,HG.out,HR.out⟩
   | cons x r =>
     obtain ⟨b,off,cap,rfl,hc1,hc2,hne,hcell⟩:=hBv
     clear h1 f0 f1 hcell
     have hpos:(0:Int) < ((x :: r).length:Int):=by simp
     go_enter Tryz.func200,Tryz.ntmps200
     go_wp2_with fail
     refine (unhide cW _ _).mono ?_
     rintro e w1 ⟨rfl,hg,hR⟩
     have hR':Rd a B br w1 (some (x :: r)):=by simpa [wantS] using hR
     have HG:=hide hg
     obtain ⟨_,v1,k0,k1,kf0,kf1,b1,off1,cap1,rfl,d1,d2,d3,d4⟩:=hR'
     have cx:=d4 0 x rfl
     rw [Nat.add_zero] at cx
     have D4:=hide d4
     have D2:=hide d2
     unfold maxLen at d2
     simp only [List.length_cons] at k0 d1
     clear hg hR d4 hpos
     have hxl:(x.toNat:Int) < 256:=by have:=x.toNat_lt;omega
     have hT:=hide (BytesV.tail (n:=1) (by simp) (by simpa using d1) D2.out d3 D4.out)
     by_cases hcap:cap1=1
     all_goals
      go_wp2
      go_ret
      refine ⟨by simp [octS],grown_trans HG.out (grown_set _ _ _ _),?_⟩
      have:=hT.out
      exact Rd.set k0 k1 kf0 kf1 hB (by simpa [hcap] using this)
theorem wraps_i64 (n:Int) (h0:0≤n) (h1:n < 2 ^ 62):IntKind.i64.wrap n=n:=by rw [IntKind.wrap_i64];omega
theorem shl_or (h o:Nat) (hh:h < 256) (ho:o < 256):bits .or .i64 ((h:Int)*256) (o:Int)=((256*h+o:Nat):Int):=by
 rw [bits_join .i64 62 (by decide) wraps_i64 8 _ _ (by omega) (by omega) (by omega) (by omega) (by omega) (by omega)]
 omega
set_option maxHeartbeats 400000 in
theorem number_any (a:Addr) (B br:Nat) (st:Option (List UInt8)) (w:World) (hb:5≤br) (hr:Rd a B br w st) (he:ErrAt a w) :
 Calls Tryz.prog 202 #[.pointer (some ⟨br,0,none⟩)] w fun e w'=>e=.returned (.int .i64 ((numS st).1:Int))∧w.grownBy w' (some br)∧Rd a B br w' (numS st).2:=by
 have c1:=hide (octet_any a B br st w hr he)
 have HE:=hide he
 have h1:=octS_lt st
 have h2:=octS_lt (octS st).2
 unfold numS
 clear hr he
 have c2:=hide fun w hr he=>octet_any a B br (octS st).2 w hr he
 generalize (octS st).1=H at *
 generalize (octS st).2=st1 at *
 generalize (octS st1).1=O at *
 generalize (octS st1).2=st2 at *
 go_enter Tryz.func202,Tryz.ntmps202
 go_wp2_with fail
 refine (unhide c1).mono ?_
 rintro e w1 ⟨rfl,hg,hR⟩
 have HG:=hide hg
 have HR:=hide hR
 have HE1:=hide (HE.out.grown hb hg)
 clear hg hR
 go_wp2_with fail
 refine (unhide c2 _ HR.out HE1.out).mono ?_
 rintro e w2 ⟨rfl,hg2,hR2⟩
 have HG2:=hide hg2
 have HR2:=hide hR2
 clear hg2 hR2
 go_wp2
 go_ret
 exact ⟨ret_int (shl_or H O h1 h2),grown_trans HG.out HG2.out,HR2.out⟩
theorem conv_bytes {w:World} {b off cap n:Nat} {l:List UInt8} (hn:n≤l.length) (hc:∀ (j:Nat) x,l[j]?=some x→w.cell? ⟨b,off+j,none⟩=some (.int .u8 (x.toNat:Int))) :
 (convert 45 9 (.slice (some ⟨b,off,none⟩) n cap)).run Tryz.prog w=.ok (.string (bs (l.take n))) w:=by
 have h:=run_convert_bytes_arg (P:=Tryz.prog) w 45 5 Tryz.underlying45 Tryz.underlying5 b off n cap ((l.take n).map fun x=>(x.toNat:Int)) (by simp;omega)
  (fun i hi=>by
    have hil:i < l.length:=by omega
    rw [hc i l[i] (List.getElem?_eq_getElem hil)]
    simp [List.getD,hi,List.getElem?_eq_getElem hil]) 9 Tryz.underlying9
 have e:strOfNums ((l.take n).map fun x=>(x.toNat:Int))=bs (l.take n):=by
  apply ba_ext
  rw [strOfNums_data,data_bs,List.map_map]
  conv=>rhs;rw [← List.map_id (l.take n)]
  exact List.map_congr_left fun x _=>by simp
 rw [h,e]
set_option maxHeartbeats 400000 in
set_option maxRecDepth 100000 in
theorem bytes_any (a:Addr) (B br n:Nat) (st:Option (List UInt8)) (w:World) (hr:Rd a B br w st) (he:ErrAt a w) (hn:n < 65536) :
 Calls Tryz.prog 205 #[.pointer (some ⟨br,0,none⟩),.int .i64 (n:Int)] w fun e w'=>e=.returned (.string (bs (bytS n st).1))∧w.grownBy w' (some br)∧Rd a B br w' (bytS n st).2:=by
 have cW:=hide fun so wh=>want_any a B br so wh st w hr he
 clear he
 cases st with
 | none =>
   obtain ⟨hB,e,h0,h1,f0,f1,m,hm⟩:=hr
   clear h1 f0 f1 hm
   go_enter Tryz.func205,Tryz.ntmps205
   go_wp2_with fail
   refine (unhide cW _ _).mono ?_
   rintro e w1 ⟨rfl,hg,hR⟩
   rw [wantS_none] at hR
   have HR:=hide hR
   have HG:=hide hg
   obtain ⟨_,e1,k0,k1,kf0,kf1,n1,wh1,c1,rfl,_⟩:=hR
   clear hg kf0 kf1
   go_wp2
   go_ret
   exact ⟨rfl,HG.out,HR.out⟩
 | some l =>
   obtain ⟨hB,v,h0,h1,f0,f1,b,off,cap,rfl,hc1,hc2,hne,hcell⟩:=hr
   clear h1 f0 f1 hcell hne
   by_cases hle:n≤l.length
   · have hz:(n:Int)≤(l.length:Int):=by omega
     have e1:bytS n (some l)=(l.take n,some (l.drop n)):=by simp [bytS,hle]
     rw [e1]
     go_enter Tryz.func205,Tryz.ntmps205
     go_wp2_with fail
     refine (unhide cW _ _).mono ?_
     rintro e w1 ⟨rfl,hg,hR⟩
     have hR':Rd a B br w1 (some l):=by simpa [wantS,hz] using hR
     have HG:=hide hg
     obtain ⟨_,v1,k0,k1,kf0,kf1,b1,off1,cap1,rfl,d1,d2,d3,d4⟩:=hR'
     have cv:=conv_bytes (cap:=cap1) hle d4
     have hT:=hide (BytesV.tail (n:=n) hle d1 d2 d3 d4)
     unfold maxLen at d2
     clear hg hR d4
     by_cases hcap:cap1=n
     · subst hcap
       go_wp2
       go_ret
       refine ⟨rfl,grown_trans HG.out (grown_set _ _ _ _),?_⟩
       have:=hT.out
       rw [show l.length - cap1=0 by omega] at this
       exact Rd.set k0 k1 kf0 kf1 hB (by simpa using this)
     · go_wp2
       go_ret
       refine ⟨rfl,grown_trans HG.out (grown_set _ _ _ _),?_⟩
       have:=hT.out
       exact Rd.set k0 k1 kf0 kf1 hB (by simpa [hcap] using this)
   · have hz:¬ ((n:Int)≤(l.length:Int)):=by omega
     have e1:bytS n (some l)=([],none):=by simp [bytS,hle]
     rw [e1]
     go_enter Tryz.func205,Tryz.ntmps205
     go_wp2_with fail
     refine (unhide cW _ _).mono ?_
     rintro e w1 ⟨rfl,hg,hR⟩
     have hR':Rd a B br w1 none:=by simpa [wantS,hz] using hR
     have HR:=hide hR'
     have HG:=hide hg
     obtain ⟨_,e2,k0,k1,kf0,kf1,n1,wh1,c1,rfl,_⟩:=hR'
     clear hg hR kf0 kf1
     go_wp2
     go_ret
     exact ⟨rfl,HG.out,HR.out⟩
set_option maxHeartbeats 400000 in
theorem text_any (a:Addr) (B br:Nat) (st:Option (List UInt8)) (w:World) (hb:5≤br) (hr:Rd a B br w st) (he:ErrAt a w) :
 Calls Tryz.prog 199 #[.pointer (some ⟨br,0,none⟩)] w fun e w'=>e=.returned (.string (bs (txtS st).1))∧w.grownBy w' (some br)∧Rd a B br w' (txtS st).2:=by
 have c1:=hide (number_any a B br st w hb hr he)
 have HE:=hide he
 have h1:=numS_lt st
 unfold txtS
 clear hr he
 have c2:=hide fun w hr he=>bytes_any a B br (numS st).1 (numS st).2 w hr he h1
 generalize (numS st).1=n at *
 generalize (numS st).2=st1 at *
 go_enter Tryz.func199,Tryz.ntmps199
 go_wp2_with fail
 refine (unhide c1).mono ?_
 rintro e w1 ⟨rfl,hg,hR⟩
 have HG:=hide hg
 have HR:=hide hR
 have HE1:=hide (HE.out.grown hb hg)
 clear hg hR
 go_wp2_with fail
 refine (unhide c2 _ HR.out HE1.out).mono ?_
 rintro e w2 ⟨rfl,hg2,hR2⟩
 have HG2:=hide hg2
 have HR2:=hide hR2
 clear hg2 hR2
 go_wp2
 go_ret
 exact ⟨rfl,grown_trans HG.out HG2.out,HR2.out⟩
set_option maxHeartbeats 400000 in
theorem id_any (a:Addr) (B br:Nat) (st:Option (List UInt8)) (w:World) (hb:5≤br) (hr:Rd a B br w st) (he:ErrAt a w) :
 Calls Tryz.prog 153 #[.pointer (some ⟨br,0,none⟩)] w fun e w'=>e=.returned (.int .i64 ((idS st).1:Int))∧w.grownBy w' (some br)∧Rd a B br w' (idS st).2:=by
 have c1:=hide (number_any a B br st w hb hr he)
 have HE:=hide he
 have h1:=numS_lt st
 unfold idS
 clear hr he
 generalize (numS st).1=n at *
 generalize (numS st).2=st1 at *
 have c2:=hide fun so wh w hr he=>want_any a B br so wh st1 w hr he
 have hd:decide ((0:Int) < (n:Int))=decide (0 < n):=by by_cases h:0 < n<;>simp [h]
 go_enter Tryz.func153,Tryz.ntmps153
 go_wp2_with fail
 refine (unhide c1).mono ?_
 rintro e w1 ⟨rfl,hg,hR⟩
 have HG:=hide hg
 have HR:=hide hR
 have HE1:=hide (HE.out.grown hb hg)
 clear hg hR
 go_wp2_with fail
 refine (unhide c2 _ _ _ HR.out HE1.out).mono ?_
 rintro e w2 ⟨rfl,hg2,hR2⟩
 have HG2:=hide hg2
 have HR2:=hide hR2
 clear hg2 hR2
 go_wp2
 go_ret
 refine ⟨rfl,grown_trans HG.out HG2.out,?_⟩
 have:=HR2.out
 simpa using this
set_option maxHeartbeats 400000 in
theorem topic_any (a:Addr) (B br:Nat) (st:Option (List UInt8)) (w:World) (hb:5≤br) (hr:Rd a B br w st) (he:ErrAt a w) (hI:topWalks.Inv w) (hl:lenS st≤4294967280) :
 Calls Tryz.prog 204 #[.pointer (some ⟨br,0,none⟩)] w fun e w'=>e=.returned (.string (bs (topS st).1))∧w.grownBy w' (some br)∧Rd a B br w' (topS st).2:=by
 have c1:=hide (text_any a B br st w hb hr he)
 have HE:=hide he
 have HI:=hide hI
 have h1:=txtS_le st
 have ht:(txtS st).1.length < 4294967281:=by omega
 unfold topS
 clear hr he hI h1 hl
 generalize (txtS st).1=t at *
 generalize (txtS st).2=st1 at *
 have c2:=hide fun so wh w hr he=>want_any a B br so wh st1 w hr he
 have cT:=hide fun w h=>isTopic_any (bs t) w (by rw [Lib.size_eq,data_bs];exact ht) h
 rw [data_bs] at cT
 generalize topicB t=T at *
 go_enter Tryz.func204,Tryz.ntmps204
 go_wp2_with fail
 refine (unhide c1).mono ?_
 rintro e w1 ⟨rfl,hg,hR⟩
 have HG:=hide hg
 have HR:=hide hR
 have HE1:=hide (HE.out.grown hb hg)
 have HI1:=hide (inv_grown HI.out hb hg)
 clear hg hR
 go_wp2_with fail
 refine (unhide cT _ HI1.out).mono ?_
 rintro e w2 ⟨rfl,hb2⟩
 have hg2:w1.grownBy w2 (some br):=grown_below hb2
 have HG2:=hide (grown_trans HG.out hg2)
 have HR2:=hide (HR.out.below hb2)
 have HE2:=hide (HE1.out.grown hb hg2)
 clear hg2 hb2
 go_wp2_with fail
 refine (unhide c2 _ _ _ HR2.out HE2.out).mono ?_
 rintro e w3 ⟨rfl,hg3,hR3⟩
 have HG3:=hide hg3
 have HR3:=hide hR3
 clear hg3 hR3
 go_wp2
 go_ret
 exact ⟨rfl,grown_trans HG2.out HG3.out,HR3.out⟩
structure PkIs (w:World) (bp:Nat) (p:Pkt):Prop where
 fz:∀ i,w.frozen? ⟨bp,i,none⟩=false
 c0:w.cell? ⟨bp,0,none⟩=some (.int .i64 p.kind)
 c1:w.cell? ⟨bp,1,none⟩=some (.bool p.clean)
 c2:w.cell? ⟨bp,2,none⟩=some (.bool p.will)
 c3:w.cell? ⟨bp,3,none⟩=some (.int .i64 p.keep)
 c4:w.cell? ⟨bp,4,none⟩=some (.string (bs p.client))
 c5:w.cell? ⟨bp,5,none⟩=some (.bool p.present)
 c6:w.cell? ⟨bp,6,none⟩=some (.int .i64 p.code)
 c7:w.cell? ⟨bp,7,none⟩=some (.bool p.dup)
 c8:w.cell? ⟨bp,8,none⟩=some (.int .i64 p.qos)
 c9:w.cell? ⟨bp,9,none⟩=some (.bool p.retain)
 c10:w.cell? ⟨bp,10,none⟩=some (.string (bs p.topic))
 c11:w.cell? ⟨bp,11,none⟩=some (.string (bs p.payload))
 c12:w.cell? ⟨bp,12,none⟩=some (.int .i64 p.id)
 c13:w.cell? ⟨bp,13,none⟩=some p.fv
 c14:w.cell? ⟨bp,14,none⟩=some p.cv
structure Env (a:Addr) (B:Nat) (w:World):Prop where
 low:5≤B
 size:B≤w.heap.size
 err:ErrAt a w
 inv:topWalks.Inv w
theorem Env.below {a:Addr} {B:Nat} {w w':World} (h:Env a B w) (hb:Below B w w'):Env a B w':=by
 obtain ⟨hl,hs,he,⟨h1,h2⟩,m,hm⟩:=h
 have g3:Tryz.lays196_ren.g 3 < 5:=by decide
 have g4:Tryz.lays196_ren.g 4 < 5:=by decide
 have g1:Tryz.laysM144_ren.g 1 < 5:=by decide
 have k:∀ (p:Addr),p.block < 5→w'.cell? p=w.cell? p:=fun p hp=>hb.cell (by omega)
 refine ⟨hl,Nat.le_trans hs hb.size,?_,⟨fun c hc=>?_,fun i hi=>⟨?_,?_⟩⟩,m,?_⟩
 · unfold ErrAt;rw [k _ (by decide)];exact he
 · rw [k _ g3];exact h1 c hc
 · rw [k _ g4];exact (h2 i hi).1
 · rw [k _ g4];exact (h2 i hi).2
 · rw [k _ g1];exact hm
theorem Env.grown {a:Addr} {B br:Nat} {w w':World} (h:Env a B w) (hB:B≤br) (hg:w.grownBy w' (some br)):Env a B w':=h.below (below_grown hg hB h.size)
theorem Env.set {a:Addr} {B bp o:Nat} {w:World} {u:Value} (h:Env a B w) (hB:B≤bp):Env a B (w.setCell ⟨bp,o,none⟩ u):=h.below ((Below.refl _ _).setCell hB u)
theorem PkIs.grown {w w':World} {bp:Nat} {p:Pkt} (h:PkIs w bp p) {br:Nat} (hne:br≠bp) (hg:w.grownBy w' (some br)):PkIs w' bp p:=by
 have hb:w'.heap[bp]?=w.heap[bp]?:=hg.block bp (topWalks.cell_lt h.c0) (by simpa using hne.symm)
 have k:∀ i,w'.cell? ⟨bp,i,none⟩=w.cell? ⟨bp,i,none⟩:=fun i=>World.cell?_of_block (w:=w) hb
 have f:∀ i,w'.frozen? ⟨bp,i,none⟩=w.frozen? ⟨bp,i,none⟩:=fun i=>World.frozen?_of_block (w:=w) hb
 exact ⟨fun i=>by rw [f];exact h.fz i,by rw [k];exact h.c0,by rw [k];exact h.c1,by rw [k];exact h.c2,by rw [k];exact h.c3,by rw [k];exact h.c4,by rw [k];exact h.c5,by rw [k];exact h.c6,by rw [k];exact h.c7,by rw [k];exact h.c8,by rw [k];exact h.c9,by rw [k];exact h.c10,by rw [k];exact h.c11,by rw [k];exact h.c12,by rw [k];exact h.c13,by rw [k];exact h.c14⟩
theorem Rd.keep {a:Addr} {B br:Nat} {w w':World} {st:Option (List UInt8)} (h:Rd a B br w st) {bp:Nat} (hB:B≤bp) (hne:br≠bp) (hg:w.grownBy w' (some bp)):Rd a B br w' st:=by
 cases st with
 | none =>
   obtain ⟨hB,e,h0,h1,f0,f1,h2⟩:=h
   have hb:w'.heap[br]?=w.heap[br]?:=hg.block br (topWalks.cell_lt h0) (by simpa using hne)
   have k:∀ i,w'.cell? ⟨br,i,none⟩=w.cell? ⟨br,i,none⟩:=fun i=>World.cell?_of_block (w:=w) hb
   have f:∀ i,w'.frozen? ⟨br,i,none⟩=w.frozen? ⟨br,i,none⟩:=fun i=>World.frozen?_of_block (w:=w) hb
   exact ⟨hB,e,by rw [k];exact h0,by rw [k];exact h1,by rw [f];exact f0,by rw [f];exact f1,h2⟩
 | some l =>
   obtain ⟨hB',v,h0,h1,f0,f1,h2⟩:=h
   have hb:w'.heap[br]?=w.heap[br]?:=hg.block br (topWalks.cell_lt h0) (by simpa using hne)
   have k:∀ i,w'.cell? ⟨br,i,none⟩=w.cell? ⟨br,i,none⟩:=fun i=>World.cell?_of_block (w:=w) hb
   have f:∀ i,w'.frozen? ⟨br,i,none⟩=w.frozen? ⟨br,i,none⟩:=fun i=>World.frozen?_of_block (w:=w) hb
   exact ⟨hB',v,by rw [k];exact h0,by rw [k];exact h1,by rw [f];exact f0,by rw [f];exact f1,h2.grown hB hg⟩
theorem PkIs.fz' {w:World} {bp o:Nat} {u:Value} {p:Pkt} (h:PkIs w bp p):∀ i,(w.setCell ⟨bp,o,none⟩ u).frozen? ⟨bp,i,none⟩=false:=fun i=>by rw [sc_frozen];exact h.fz i
theorem pk_o {w:World} {bp o i:Nat} {u v:Value} (hne:o≠i) (h:w.cell? ⟨bp,i,none⟩=some v):(w.setCell ⟨bp,o,none⟩ u).cell? ⟨bp,i,none⟩=some v:=by rw [sc_other (fun e=>hne (congrArg Addr.off e))];exact h
theorem PkIs.id {w:World} {bp:Nat} {p:Pkt} (h:PkIs w bp p) (n:Int):PkIs (w.setCell ⟨bp,12,none⟩ (.int .i64 n)) bp { p with id:=n }:=
 ⟨h.fz',pk_o (by decide) h.c0,pk_o (by decide) h.c1,pk_o (by decide) h.c2,pk_o (by decide) h.c3,pk_o (by decide) h.c4,pk_o (by decide) h.c5,pk_o (by decide) h.c6,pk_o (by decide) h.c7,pk_o (by decide) h.c8,pk_o (by decide) h.c9,pk_o (by decide) h.c10,pk_o (by decide) h.c11,sc_same h.c12,pk_o (by decide) h.c13,pk_o (by decide) h.c14⟩
theorem PkIs.setClean {w:World} {bp:Nat} {p:Pkt} (h:PkIs w bp p) (b:Bool):PkIs (w.setCell ⟨bp,1,none⟩ (.bool b)) bp { p with clean:=b }:=
 ⟨h.fz',pk_o (by decide) h.c0,sc_same h.c1,pk_o (by decide) h.c2,pk_o (by decide) h.c3,pk_o (by decide) h.c4,pk_o (by decide) h.c5,pk_o (by decide) h.c6,pk_o (by decide) h.c7,pk_o (by decide) h.c8,pk_o (by decide) h.c9,pk_o (by decide) h.c10,pk_o (by decide) h.c11,pk_o (by decide) h.c12,pk_o (by decide) h.c13,pk_o (by decide) h.c14⟩
theorem PkIs.setWill {w:World} {bp:Nat} {p:Pkt} (h:PkIs w bp p) (b:Bool):PkIs (w.setCell ⟨bp,2,none⟩ (.bool b)) bp { p with will:=b }:=
 ⟨h.fz',pk_o (by decide) h.c0,pk_o (by decide) h.c1,sc_same h.c2,pk_o (by decide) h.c3,pk_o (by decide) h.c4,pk_o (by decide) h.c5,pk_o (by decide) h.c6,pk_o (by decide) h.c7,pk_o (by decide) h.c8,pk_o (by decide) h.c9,pk_o (by decide) h.c10,pk_o (by decide) h.c11,pk_o (by decide) h.c12,pk_o (by decide) h.c13,pk_o (by decide) h.c14⟩
theorem PkIs.setKeep {w:World} {bp:Nat} {p:Pkt} (h:PkIs w bp p) (n:Int):PkIs (w.setCell ⟨bp,3,none⟩ (.int .i64 n)) bp { p with keep:=n }:=
 ⟨h.fz',pk_o (by decide) h.c0,pk_o (by decide) h.c1,pk_o (by decide) h.c2,sc_same h.c3,pk_o (by decide) h.c4,pk_o (by decide) h.c5,pk_o (by decide) h.c6,pk_o (by decide) h.c7,pk_o (by decide) h.c8,pk_o (by decide) h.c9,pk_o (by decide) h.c10,pk_o (by decide) h.c11,pk_o (by decide) h.c12,pk_o (by decide) h.c13,pk_o (by decide) h.c14⟩
theorem PkIs.setClient {w:World} {bp:Nat} {p:Pkt} (h:PkIs w bp p) (l:List UInt8):PkIs (w.setCell ⟨bp,4,none⟩ (.string (bs l))) bp { p with client:=l }:=
 ⟨h.fz',pk_o (by decide) h.c0,pk_o (by decide) h.c1,pk_o (by decide) h.c2,pk_o (by decide) h.c3,sc_same h.c4,pk_o (by decide) h.c5,pk_o (by decide) h.c6,pk_o (by decide) h.c7,pk_o (by decide) h.c8,pk_o (by decide) h.c9,pk_o (by decide) h.c10,pk_o (by decide) h.c11,pk_o (by decide) h.c12,pk_o (by decide) h.c13,pk_o (by decide) h.c14⟩
theorem PkIs.setPresent {w:World} {bp:Nat} {p:Pkt} (h:PkIs w bp p) (b:Bool):PkIs (w.setCell ⟨bp,5,none⟩ (.bool b)) bp { p with present:=b }:=
 ⟨h.fz',pk_o (by decide) h.c0,pk_o (by decide) h.c1,pk_o (by decide) h.c2,pk_o (by decide) h.c3,pk_o (by decide) h.c4,sc_same h.c5,pk_o (by decide) h.c6,pk_o (by decide) h.c7,pk_o (by decide) h.c8,pk_o (by decide) h.c9,pk_o (by decide) h.c10,pk_o (by decide) h.c11,pk_o (by decide) h.c12,pk_o (by decide) h.c13,pk_o (by decide) h.c14⟩
theorem PkIs.setCode {w:World} {bp:Nat} {p:Pkt} (h:PkIs w bp p) (n:Int):PkIs (w.setCell ⟨bp,6,none⟩ (.int .i64 n)) bp { p with code:=n }:=
 ⟨h.fz',pk_o (by decide) h.c0,pk_o (by decide) h.c1,pk_o (by decide) h.c2,pk_o (by decide) h.c3,pk_o (by decide) h.c4,pk_o (by decide) h.c5,sc_same h.c6,pk_o (by decide) h.c7,pk_o (by decide) h.c8,pk_o (by decide) h.c9,pk_o (by decide) h.c10,pk_o (by decide) h.c11,pk_o (by decide) h.c12,pk_o (by decide) h.c13,pk_o (by decide) h.c14⟩
theorem PkIs.setQos {w:World} {bp:Nat} {p:Pkt} (h:PkIs w bp p) (n:Int):PkIs (w.setCell ⟨bp,8,none⟩ (.int .i64 n)) bp { p with qos:=n }:=
 ⟨h.fz',pk_o (by decide) h.c0,pk_o (by decide) h.c1,pk_o (by decide) h.c2,pk_o (by decide) h.c3,pk_o (by decide) h.c4,pk_o (by decide) h.c5,pk_o (by decide) h.c6,pk_o (by decide) h.c7,sc_same h.c8,pk_o (by decide) h.c9,pk_o (by decide) h.c10,pk_o (by decide) h.c11,pk_o (by decide) h.c12,pk_o (by decide) h.c13,pk_o (by decide) h.c14⟩
theorem PkIs.setRetain {w:World} {bp:Nat} {p:Pkt} (h:PkIs w bp p) (b:Bool):PkIs (w.setCell ⟨bp,9,none⟩ (.bool b)) bp { p with retain:=b }:=
 ⟨h.fz',pk_o (by decide) h.c0,pk_o (by decide) h.c1,pk_o (by decide) h.c2,pk_o (by decide) h.c3,pk_o (by decide) h.c4,pk_o (by decide) h.c5,pk_o (by decide) h.c6,pk_o (by decide) h.c7,pk_o (by decide) h.c8,sc_same h.c9,pk_o (by decide) h.c10,pk_o (by decide) h.c11,pk_o (by decide) h.c12,pk_o (by decide) h.c13,pk_o (by decide) h.c14⟩
theorem PkIs.setTopic {w:World} {bp:Nat} {p:Pkt} (h:PkIs w bp p) (l:List UInt8):PkIs (w.setCell ⟨bp,10,none⟩ (.string (bs l))) bp { p with topic:=l }:=
 ⟨h.fz',pk_o (by decide) h.c0,pk_o (by decide) h.c1,pk_o (by decide) h.c2,pk_o (by decide) h.c3,pk_o (by decide) h.c4,pk_o (by decide) h.c5,pk_o (by decide) h.c6,pk_o (by decide) h.c7,pk_o (by decide) h.c8,pk_o (by decide) h.c9,sc_same h.c10,pk_o (by decide) h.c11,pk_o (by decide) h.c12,pk_o (by decide) h.c13,pk_o (by decide) h.c14⟩
theorem PkIs.setPayload {w:World} {bp:Nat} {p:Pkt} (h:PkIs w bp p) (l:List UInt8):PkIs (w.setCell ⟨bp,11,none⟩ (.string (bs l))) bp { p with payload:=l }:=
 ⟨h.fz',pk_o (by decide) h.c0,pk_o (by decide) h.c1,pk_o (by decide) h.c2,pk_o (by decide) h.c3,pk_o (by decide) h.c4,pk_o (by decide) h.c5,pk_o (by decide) h.c6,pk_o (by decide) h.c7,pk_o (by decide) h.c8,pk_o (by decide) h.c9,pk_o (by decide) h.c10,sc_same h.c11,pk_o (by decide) h.c12,pk_o (by decide) h.c13,pk_o (by decide) h.c14⟩
theorem rd_cell0 {a:Addr} {B br:Nat} {w:World} {st:Option (List UInt8)} (h:Rd a B br w st):∃ q cap,w.cell? ⟨br,0,none⟩=some (.slice q (lenS st) cap):=by
 cases st with
 | none=>obtain ⟨_,e,h0,_⟩:=h;exact ⟨_,_,h0⟩
 | some l=>obtain ⟨_,v,h0,_,_,_,b,off,cap,rfl,_⟩:=h;exact ⟨_,_,h0⟩
structure St (a:Addr) (B br bp:Nat) (w0 w:World) (p:Pkt) (st:Option (List UInt8)):Prop where
 env:Env a B w
 hr:B≤br
 hp:B≤bp
 ne:br≠bp
 rd:Rd a B br w st
 pk:PkIs w bp p
 bel:Below B w0 w
 gap:bp+1 < br
 res:w.heap[br - 1]?=w0.heap[br - 1]?
theorem St.lt {a:Addr} {B br bp:Nat} {w0 w:World} {p:Pkt} {st:Option (List UInt8)} (h:St a B br bp w0 w p st):br < w.heap.size:=by
 obtain ⟨q,c,hc⟩:=rd_cell0 h.rd;exact topWalks.cell_lt hc
theorem St.rdStep {a:Addr} {B br bp:Nat} {w0 w w':World} {p:Pkt} {st st':Option (List UInt8)} (h:St a B br bp w0 w p st) (hg:w.grownBy w' (some br)) (hR:Rd a B br w' st'):St a B br bp w0 w' p st':=
 ⟨h.env.grown h.hr hg,h.hr,h.hp,h.ne,hR,h.pk.grown h.ne hg,h.bel.trans (below_grown hg h.hr h.env.size),h.gap,(hg.block _ (by have:=h.lt;omega) (by have:=h.gap;simp;omega)).trans h.res⟩
theorem St.pkStep {a:Addr} {B br bp o:Nat} {w0 w:World} {p p':Pkt} {u:Value} {st:Option (List UInt8)} (h:St a B br bp w0 w p st) (hP:PkIs (w.setCell ⟨bp,o,none⟩ u) bp p'):St a B br bp w0 (w.setCell ⟨bp,o,none⟩ u) p' st:=
 ⟨h.env.set h.hp,h.hr,h.hp,h.ne,h.rd.keep h.hp h.ne (grown_set _ _ _ _),hP,h.bel.setCell h.hp u,h.gap,(Below.heap_setCell _ _ _ _ (by have:=h.gap;simp;omega)).trans h.res⟩
theorem St.belStep {a:Addr} {B br bp:Nat} {w0 w w':World} {p:Pkt} {st:Option (List UInt8)} (h:St a B br bp w0 w p st) (hb:Below w.heap.size w w'):St a B br bp w0 w' p st:=
 ⟨h.env.below (hb.mono h.env.size),h.hr,h.hp,h.ne,h.rd.below hb,h.pk.grown h.ne (grown_below hb),h.bel.trans (hb.mono h.env.size),h.gap,(hb.block _ (by have:=h.lt;omega)).trans h.res⟩
theorem St.ng {a:Addr} {B br bp:Nat} {w0 w:World} {p:Pkt} {st:Option (List UInt8)} (h:St a B br bp w0 w p st):5≤br:=Nat.le_trans h.env.low h.hr
set_option maxHeartbeats 800000 in
theorem connack_any (a:Addr) (B br bp:Nat) (w0 w:World) (p:Pkt) (st:Option (List UInt8)) (hS:St a B br bp w0 w p st) :
 Calls Tryz.prog 151 #[.pointer (some ⟨br,0,none⟩),.pointer (some ⟨bp,0,none⟩)] w fun e w'=>e=.returned (.tuple #[])∧St a B br bp w0 w' (connackS p st).1 (connackS p st).2:=by
 have cO:=hide fun st w hr he=>octet_any a B br st w hr he
 have cW:=hide fun so wh st w hr he=>want_any a B br so wh st w hr he
 have HS:=hide hS
 unfold connackS
 have h1:=octS_lt st
 have hd1:decide (((octS st).1:Int)≤1)=decide ((octS st).1≤1):=by by_cases h:(octS st).1≤1<;>simp [h]<;>omega
 have he1:(((octS st).1:Int) == 1)=decide ((octS st).1=1):=by by_cases h:(octS st).1=1<;>simp [h]<;>omega
 have h2:=octS_lt (wantS (decide ((octS st).1≤1)) (octS st).2)
 generalize hst1:wantS (decide ((octS st).1≤1)) (octS st).2=st1 at *
 have hd2:decide (((octS st1).1:Int)≤5)=decide ((octS st1).1≤5):=by by_cases h:(octS st1).1≤5<;>simp [h]<;>omega
 have c1:=hide (unhide cO st w hS.rd hS.env.err)
 have c2:=hide fun w hr he=>unhide cO st1 w hr he
 have c3:=hide fun wh w hr he=>unhide cW (decide ((octS st).1≤1)) wh (octS st).2 w hr he
 have c4:=hide fun wh w hr he=>unhide cW (decide ((octS st1).1≤5)) wh (octS st1).2 w hr he
 rw [hst1] at c3
 have D1:=hide hd1
 have E1:=hide he1
 have D2:=hide hd2
 clear hS cO cW hst1 hd1 he1 hd2
 generalize (octS st).1=O at *
 generalize (octS st).2=st' at *
 generalize (octS st1).1=O2 at *
 generalize (octS st1).2=st2 at *
 go_enter Tryz.func151,Tryz.ntmps151
 go_wp2_with fail
 refine (unhide c1).mono ?_
 rintro e w1 ⟨rfl,hg,hR⟩
 have HS1:=hide (HS.out.rdStep hg hR)
 clear hg hR
 go_wp2_with fail
 rw [D1.out]
 refine (unhide c3 _ _ HS1.out.rd HS1.out.env.err).mono ?_
 rintro e w2 ⟨rfl,hg,hR⟩
 have HS2:=hide (HS1.out.rdStep hg hR)
 have pk:=HS2.out.pk
 have k5:=pk.c5
 have f5:=pk.fz 5
 clear hg hR pk
 go_wp2_with fail
 have HS3:=hide (HS2.out.pkStep (HS2.out.pk.setPresent ((O:Int) == 1)))
 refine (unhide c2 _ HS3.out.rd HS3.out.env.err).mono ?_
 rintro e w4 ⟨rfl,hg,hR⟩
 have HS4:=hide (HS3.out.rdStep hg hR)
 have pk:=HS4.out.pk
 have k6:=pk.c6
 have f6:=pk.fz 6
 clear hg hR pk k5 f5
 go_wp2_with fail
 have HS5:=hide (HS4.out.pkStep (HS4.out.pk.setCode (O2:Int)))
 rw [D2.out]
 refine (unhide c4 _ _ HS5.out.rd HS5.out.env.err).mono ?_
 rintro e w6 ⟨rfl,hg,hR⟩
 have HS6:=hide (HS5.out.rdStep hg hR)
 clear hg hR
 go_wp2
 go_end0
 refine ⟨rfl,?_⟩
 have:=HS6.out
 rw [E1.out] at this
 exact this
set_option maxHeartbeats 800000 in
theorem publish_any (a:Addr) (B br bp:Nat) (w0 w:World) (p:Pkt) (st:Option (List UInt8)) (hl:lenS st≤60000) (hS:St a B br bp w0 w p st) :
 Calls Tryz.prog 152 #[.pointer (some ⟨br,0,none⟩),.pointer (some ⟨bp,0,none⟩)] w fun e w'=>e=.returned (.tuple #[])∧St a B br bp w0 w' (publishS p st).1 (publishS p st).2:=by
 have c1:=hide (topic_any a B br st w hS.ng hS.rd hS.env.err hS.env.inv (by omega))
 have HS:=hide hS
 have hng:=hS.ng
 have hl1:lenS (topS st).2≤60000:=Nat.le_trans (topS_len _) hl
 have hl2:lenS (idS (topS st).2).2≤60000:=Nat.le_trans (idS_len _) hl1
 have c2:=hide fun w hr he=>id_any a B br (topS st).2 w hng hr he
 have c3:=hide fun w hr he=>bytes_any a B br (lenS (topS st).2) (topS st).2 w hr he (by omega)
 have c4:=hide fun w hr he=>bytes_any a B br (lenS (idS (topS st).2).2) (idS (topS st).2).2 w hr he (by omega)
 unfold publishS restS
 clear hS hl hng
 generalize (topS st).1=t at *
 generalize (topS st).2=st1 at *
 generalize (idS st1).1=n at *
 generalize (idS st1).2=st2 at *
 by_cases hq:0 < p.qos
 · rw [if_pos hq]
   go_enter Tryz.func152,Tryz.ntmps152
   go_wp2_with fail
   refine (unhide c1).mono ?_
   rintro e w1 ⟨rfl,hg,hR⟩
   have HS1:=hide (HS.out.rdStep hg hR)
   have HS2:=hide (HS1.out.pkStep (HS1.out.pk.setTopic t))
   have k10:=HS1.out.pk.c10
   have f10:=HS1.out.pk.fz 10
   have k8:=HS2.out.pk.c8
   clear hg hR
   go_wp2_with fail
   refine (unhide c2 _ HS2.out.rd HS2.out.env.err).mono ?_
   rintro e w3 ⟨rfl,hg,hR⟩
   have HS3:=hide (HS2.out.rdStep hg hR)
   have HS4:=hide (HS3.out.pkStep (HS3.out.pk.id (n:Int)))
   have k12:=HS3.out.pk.c12
   have f12:=HS3.out.pk.fz 12
   obtain ⟨q,cp,hv⟩:=rd_cell0 HS4.out.rd
   clear hg hR k10 f10 k8
   go_wp2_with fail
   refine (unhide c4 _ HS4.out.rd HS4.out.env.err).mono ?_
   rintro e w5 ⟨rfl,hg,hR⟩
   have HS5:=hide (HS4.out.rdStep hg hR)
   have HS6:=hide (HS5.out.pkStep (HS5.out.pk.setPayload (bytS (lenS st2) st2).1))
   have k11:=HS5.out.pk.c11
   have f11:=HS5.out.pk.fz 11
   clear hg hR k12 f12 hv
   go_wp2
   go_end0
   exact ⟨rfl,HS6.out⟩
 · rw [if_neg hq]
   go_enter Tryz.func152,Tryz.ntmps152
   go_wp2_with fail
   refine (unhide c1).mono ?_
   rintro e w1 ⟨rfl,hg,hR⟩
   have HS1:=hide (HS.out.rdStep hg hR)
   have HS2:=hide (HS1.out.pkStep (HS1.out.pk.setTopic t))
   have k10:=HS1.out.pk.c10
   have f10:=HS1.out.pk.fz 10
   have k8:=HS2.out.pk.c8
   obtain ⟨q,cp,hv⟩:=rd_cell0 HS2.out.rd
   clear hg hR
   go_wp2_with fail
   refine (unhide c3 _ HS2.out.rd HS2.out.env.err).mono ?_
   rintro e w5 ⟨rfl,hg,hR⟩
   have HS5:=hide (HS2.out.rdStep hg hR)
   have HS6:=hide (HS5.out.pkStep (HS5.out.pk.setPayload (bytS (lenS st1) st1).1))
   have k11:=HS5.out.pk.c11
   have f11:=HS5.out.pk.fz 11
   clear hg hR k10 f10 k8 hv
   go_wp2
   go_end0
   exact ⟨rfl,HS6.out⟩
theorem and2:∀ x:Fin 256,(bits .and .i64 ((x.val:Nat):Int) 2 != 0)=decide (x.val / 2 % 2=1):=by decide +kernel
theorem and4:∀ x:Fin 256,(bits .and .i64 ((x.val:Nat):Int) 4 != 0)=decide (x.val / 4 % 2=1):=by decide +kernel
theorem and32:∀ x:Fin 256,(bits .and .i64 ((x.val:Nat):Int) 32 != 0)=decide (x.val / 32 % 2=1):=by decide +kernel
theorem and193:∀ x:Fin 256,(bits .and .i64 ((x.val:Nat):Int) 193 == 0)=(decide (x.val % 2=0) && decide (x.val < 64)):=by decide +kernel
theorem and3:∀ x:Fin 256,bits .and .i64 (((x.val:Nat):Int) / 8) 3=((x.val / 8 % 4:Nat):Int):=by decide +kernel
set_option maxHeartbeats 800000 in
theorem bits_any (a:Addr) (B br bp:Nat) (w0 w:World) (p:Pkt) (st:Option (List UInt8)) (hS:St a B br bp w0 w p st) :
 Calls Tryz.prog 201 #[.pointer (some ⟨br,0,none⟩),.pointer (some ⟨bp,0,none⟩)] w fun e w'=>e=.returned (.tuple #[])∧St a B br bp w0 w' (bitsS p st).1 (bitsS p st).2:=by
 have c1:=hide (octet_any a B br st w hS.rd hS.env.err)
 have cW:=hide fun so wh st w hr he=>want_any a B br so wh st w hr he
 have HS:=hide hS
 have h1:=octS_lt st
 unfold bitsS
 clear hS
 generalize (octS st).1=O at *
 generalize (octS st).2=st1 at *
 have a2:=and2 ⟨O,h1⟩
 have a4:=and4 ⟨O,h1⟩
 have a32:=and32 ⟨O,h1⟩
 have a193:=and193 ⟨O,h1⟩
 have a3:=and3 ⟨O,h1⟩
 simp only at a2 a4 a32 a193 a3
 have hq:O / 8 % 4 < 4:=Nat.mod_lt _ (by decide)
 have hw:wantS (bitOk O) st1=wantS (decide (O / 4 % 2=1) || decide (O / 8 % 4=0) && !decide (O / 32 % 2=1)) (wantS (decide (O / 8 % 4≤2)) (wantS (decide (O % 2=0) && decide (O < 64)) st1)):=by
  unfold bitOk wantS
  cases (decide (O % 2=0) && decide (O < 64))<;>cases decide (O / 8 % 4≤2)<;>simp
 rw [hw]
 unfold bitP
 clear hw
 generalize (decide (O % 2=0) && decide (O < 64))=bZ at *
 generalize decide (O / 2 % 2=1)=bC at *
 generalize decide (O / 4 % 2=1)=bW at *
 generalize decide (O / 32 % 2=1)=bR at *
 generalize O / 8 % 4=Q at *
 have hd:decide ((Q:Int)≤2)=decide (Q≤2):=decide_eq_decide.2 (by omega)
 have hz:((Q:Int) == 0)=decide (Q=0):=by by_cases h:Q=0<;>simp [h]
 have D:=hide hd
 clear hd
 generalize decide (Q=0)=bQ at *
 cases bW
 · cases bQ
   all_goals
    go_enter Tryz.func201,Tryz.ntmps201
    go_wp2_with fail
    refine (unhide c1).mono ?_
    rintro e w1 ⟨rfl,hg,hR⟩
    have HS1:=hide (HS.out.rdStep hg hR)
    have HS2:=hide (HS1.out.pkStep (HS1.out.pk.setClean bC))
    have HS3:=hide (HS2.out.pkStep (HS2.out.pk.setWill false))
    have HS4:=hide (HS3.out.pkStep (HS3.out.pk.setQos (Q:Int)))
    have HS5:=hide (HS4.out.pkStep (HS4.out.pk.setRetain bR))
    have k1:=HS1.out.pk.c1
    have k2:=HS1.out.pk.c2
    have k8:=HS1.out.pk.c8
    have k9:=HS1.out.pk.c9
    have f1:=HS1.out.pk.fz 1
    have f2:=HS1.out.pk.fz 2
    have f8:=HS1.out.pk.fz 8
    have f9:=HS1.out.pk.fz 9
    clear hg hR
    go_wp2_with fail
    refine (unhide cW _ _ _ _ HS5.out.rd HS5.out.env.err).mono ?_
    rintro e w6 ⟨rfl,hg,hR⟩
    have HS6:=hide (HS5.out.rdStep hg hR)
    have k8':=HS6.out.pk.c8
    clear hg hR k1 k2 k8 k9 f1 f2 f8 f9
    go_wp2_with fail
    rw [D.out]
    refine (unhide cW _ _ _ _ HS6.out.rd HS6.out.env.err).mono ?_
    rintro e w7 ⟨rfl,hg,hR⟩
    have HS7:=hide (HS6.out.rdStep hg hR)
    have k2:=HS7.out.pk.c2
    have k8:=HS7.out.pk.c8
    have k9:=HS7.out.pk.c9
    clear hg hR k8'
    go_wp2_with fail
    refine (unhide cW _ _ _ _ HS7.out.rd HS7.out.env.err).mono ?_
    rintro e w8 ⟨rfl,hg,hR⟩
    have HS8:=hide (HS7.out.rdStep hg hR)
    clear hg hR k2 k8 k9
    go_wp2
    go_end0
    refine ⟨rfl,?_⟩
    have:=HS8.out
    simpa using this
 · go_enter Tryz.func201,Tryz.ntmps201
   go_wp2_with fail
   refine (unhide c1).mono ?_
   rintro e w1 ⟨rfl,hg,hR⟩
   have HS1:=hide (HS.out.rdStep hg hR)
   have HS2:=hide (HS1.out.pkStep (HS1.out.pk.setClean bC))
   have HS3:=hide (HS2.out.pkStep (HS2.out.pk.setWill true))
   have HS4:=hide (HS3.out.pkStep (HS3.out.pk.setQos (Q:Int)))
   have HS5:=hide (HS4.out.pkStep (HS4.out.pk.setRetain bR))
   have k1:=HS1.out.pk.c1
   have k2:=HS1.out.pk.c2
   have k8:=HS1.out.pk.c8
   have k9:=HS1.out.pk.c9
   have f1:=HS1.out.pk.fz 1
   have f2:=HS1.out.pk.fz 2
   have f8:=HS1.out.pk.fz 8
   have f9:=HS1.out.pk.fz 9
   clear hg hR
   go_wp2_with fail
   refine (unhide cW _ _ _ _ HS5.out.rd HS5.out.env.err).mono ?_
   rintro e w6 ⟨rfl,hg,hR⟩
   have HS6:=hide (HS5.out.rdStep hg hR)
   have k8':=HS6.out.pk.c8
   clear hg hR k1 k2 k8 k9 f1 f2 f8 f9
   go_wp2_with fail
   rw [D.out]
   refine (unhide cW _ _ _ _ HS6.out.rd HS6.out.env.err).mono ?_
   rintro e w7 ⟨rfl,hg,hR⟩
   have HS7:=hide (HS6.out.rdStep hg hR)
   have k2:=HS7.out.pk.c2
   have k8:=HS7.out.pk.c8
   have k9:=HS7.out.pk.c9
   clear hg hR k8'
   go_wp2_with fail
   refine (unhide cW _ _ _ _ HS7.out.rd HS7.out.env.err).mono ?_
   rintro e w8 ⟨rfl,hg,hR⟩
   have HS8:=hide (HS7.out.rdStep hg hR)
   clear hg hR k2 k8 k9
   go_wp2
   go_end0
   refine ⟨rfl,?_⟩
   have:=HS8.out
   simpa using this
theorem bitsS_len (p:Pkt) (st:Option (List UInt8)):lenS (bitsS p st).2≤lenS st:=Nat.le_trans (wantS_len _ _) (octS_len _)
theorem protoS_len (st:Option (List UInt8)):lenS (protoS st)≤lenS st:=Nat.le_trans (wantS_len _ _) (txtS_len _)
theorem levelS_len (st:Option (List UInt8)):lenS (levelS st)≤lenS st:=Nat.le_trans (wantS_len _ _) (octS_len _)
set_option maxHeartbeats 400000 in
/-- the name of the protocol, and its level -/
theorem proto_step (a:Addr) (B br bp:Nat) (w0 w:World) (p:Pkt) (st:Option (List UInt8)) (hS:St a B br bp w0 w p st) :
 Calls Tryz.prog 199 #[.pointer (some ⟨br,0,none⟩)] w fun e w'=>e=.returned (.string (bs (txtS st).1))∧St a B br bp w0 w' p (txtS st).2:=
 (text_any a B br st w hS.ng hS.rd hS.env.err).mono fun _ _ h=>⟨h.1,hS.rdStep h.2.1 h.2.2⟩
theorem want_step (a:Addr) (B br bp:Nat) (w0 w:World) (p:Pkt) (st:Option (List UInt8)) (so:Bool) (wh:ByteArray) (hS:St a B br bp w0 w p st) :
 Calls Tryz.prog 125 #[.pointer (some ⟨br,0,none⟩),.bool so,.string wh] w fun e w'=>e=.returned (.tuple #[])∧St a B br bp w0 w' p (wantS so st):=
 (want_any a B br so wh st w hS.rd hS.env.err).mono fun _ _ h=>⟨h.1,hS.rdStep h.2.1 h.2.2⟩
theorem octet_step (a:Addr) (B br bp:Nat) (w0 w:World) (p:Pkt) (st:Option (List UInt8)) (hS:St a B br bp w0 w p st) :
 Calls Tryz.prog 200 #[.pointer (some ⟨br,0,none⟩)] w fun e w'=>e=.returned (.int .i64 ((octS st).1:Int))∧St a B br bp w0 w' p (octS st).2:=
 (octet_any a B br st w hS.rd hS.env.err).mono fun _ _ h=>⟨h.1,hS.rdStep h.2.1 h.2.2⟩
theorem number_step (a:Addr) (B br bp:Nat) (w0 w:World) (p:Pkt) (st:Option (List UInt8)) (hS:St a B br bp w0 w p st) :
 Calls Tryz.prog 202 #[.pointer (some ⟨br,0,none⟩)] w fun e w'=>e=.returned (.int .i64 ((numS st).1:Int))∧St a B br bp w0 w' p (numS st).2:=
 (number_any a B br st w hS.ng hS.rd hS.env.err).mono fun _ _ h=>⟨h.1,hS.rdStep h.2.1 h.2.2⟩
theorem id_step (a:Addr) (B br bp:Nat) (w0 w:World) (p:Pkt) (st:Option (List UInt8)) (hS:St a B br bp w0 w p st) :
 Calls Tryz.prog 153 #[.pointer (some ⟨br,0,none⟩)] w fun e w'=>e=.returned (.int .i64 ((idS st).1:Int))∧St a B br bp w0 w' p (idS st).2:=
 (id_any a B br st w hS.ng hS.rd hS.env.err).mono fun _ _ h=>⟨h.1,hS.rdStep h.2.1 h.2.2⟩
theorem topic_step (a:Addr) (B br bp:Nat) (w0 w:World) (p:Pkt) (st:Option (List UInt8)) (hl:lenS st≤60000) (hS:St a B br bp w0 w p st) :
 Calls Tryz.prog 204 #[.pointer (some ⟨br,0,none⟩)] w fun e w'=>e=.returned (.string (bs (topS st).1))∧St a B br bp w0 w' p (topS st).2:=
 (topic_any a B br st w hS.ng hS.rd hS.env.err hS.env.inv (by omega)).mono fun _ _ h=>⟨h.1,hS.rdStep h.2.1 h.2.2⟩
theorem isName_step (a:Addr) (B br bp:Nat) (w0 w:World) (p:Pkt) (st:Option (List UInt8)) (c:List UInt8) (hc:c.length≤60000) (hS:St a B br bp w0 w p st) :
 Calls Tryz.prog 203 #[.string (bs c)] w fun e w'=>e=.returned (.bool (Lib.validD c && !hasB c 0))∧St a B br bp w0 w' p st:=by
 have:=isName_any (bs c) w (by unfold maxLen;rw [Lib.size_eq,data_bs];omega) hS.env.inv
 rw [data_bs] at this
 exact this.mono fun _ _ h=>⟨h.1,hS.belStep h.2⟩
set_option maxHeartbeats 1600000 in
set_option maxRecDepth 100000 in
theorem connect_any (a:Addr) (B br bp:Nat) (w0 w:World) (p:Pkt) (st:Option (List UInt8)) (hl:lenS st≤60000) (hS:St a B br bp w0 w p st) :
 Calls Tryz.prog 150 #[.pointer (some ⟨br,0,none⟩),.pointer (some ⟨bp,0,none⟩)] w fun e w'=>e=.returned (.tuple #[])∧St a B br bp w0 w' (connectS p st).1 (connectS p st).2:=by
 have HS:=hide hS
 clear hS
 have e1:((bs (txtS st).1).toList == [77,81,84,84])=((txtS st).1 == [77,81,84,84]):=by rw [Lib.toList_data,data_bs]
 have e2:(((octS (protoS st)).1:Int) == 4)=decide ((octS (protoS st)).1=4):=by by_cases h:(octS (protoS st)).1=4<;>simp [h]<;>omega
 have E1:=hide e1
 have E2:=hide e2
 clear e1 e2
 have h1:=levelS_len (protoS st)
 have h2:=protoS_len st
 have h3:=bitsS_len p (levelS (protoS st))
 obtain ⟨p5,s5,hb5⟩:∃ p5 s5,bitsS p (levelS (protoS st))=(p5,s5):=⟨_,_,rfl⟩
 rw [hb5] at h3
 have h4:=numS_len s5
 obtain ⟨n6,s6,hn6⟩:∃ n6 s6,numS s5=(n6,s6):=⟨_,_,rfl⟩
 rw [hn6] at h4
 have h5:=txtS_len s6
 have h6:=txtS_le s6
 obtain ⟨c7,s7,hc7⟩:∃ c7 s7,txtS s6=(c7,s7):=⟨_,_,rfl⟩
 rw [hc7] at h5 h6
 simp only at h3 h4 h5 h6
 have hconn:connectS p st=if p5.will then ({ p5 with keep:=(n6:Int),client:=c7,topic:=(topS (wantS (clientOk c7) s7)).1,payload:=(txtS (topS (wantS (clientOk c7) s7)).2).1 },(txtS (topS (wantS (clientOk c7) s7)).2).2) else ({ p5 with keep:=(n6:Int),client:=c7 },wantS (clientOk c7) s7):=by
  unfold connectS
  simp only [hb5,hn6,hc7]
 rw [hconn]
 have HB5:=hide hb5
 have HN6:=hide hn6
 have HC7:=hide hc7
 clear hb5 hn6 hc7 hconn
 have hls:∀ so,lenS (wantS so s7)≤60000:=fun so=>Nat.le_trans (wantS_len so s7) (by omega)
 have hc60:c7.length≤60000:=by omega
 have hsz:(bs c7).size=c7.length:=by rw [Lib.size_eq,data_bs]
 have HLS:=hide hls
 clear hls h1 h2 h3 h4 h5 h6
 have main:∀ (K:Bool),clientOk c7=K→Calls Tryz.prog 150 #[.pointer (some ⟨br,0,none⟩),.pointer (some ⟨bp,0,none⟩)] w fun e w'=>e=.returned (.tuple #[]) ∧
  St a B br bp w0 w' (if p5.will then ({ p5 with keep:=(n6:Int),client:=c7,topic:=(topS (wantS K s7)).1,payload:=(txtS (topS (wantS K s7)).2).1 },(txtS (topS (wantS K s7)).2).2) else ({ p5 with keep:=(n6:Int),client:=c7 },wantS K s7)).1
   (if p5.will then ({ p5 with keep:=(n6:Int),client:=c7,topic:=(topS (wantS K s7)).1,payload:=(txtS (topS (wantS K s7)).2).1 },(txtS (topS (wantS K s7)).2).2) else ({ p5 with keep:=(n6:Int),client:=c7 },wantS K s7)).2:=by
  intro K hK
  have HK:=hide hK
  clear hK
  cases hw:p5.will
  all_goals
   simp only [Bool.false_eq_true,if_false,if_true]
   have HW:=hide hw
   clear hw
   by_cases h10:((c7.length:Int)≤10)
   all_goals
    go_enter Tryz.func150,Tryz.ntmps150
    go_wp2_with fail
    refine (proto_step a B br bp w0 _ p st HS.out).mono ?_
    rintro e w1 ⟨rfl,hS1⟩
    have HS1:=hide hS1
    clear hS1
    go_wp2_with fail
    rw [E1.out]
    refine (want_step a B br bp w0 _ p _ _ _ HS1.out).mono ?_
    rintro e w2 ⟨rfl,hS2⟩
    have HS2:Hid (St a B br bp w0 w2 p (protoS st)):=hS2
    clear hS2
    go_wp2_with fail
    refine (octet_step a B br bp w0 _ p _ HS2.out).mono ?_
    rintro e w3 ⟨rfl,hS3⟩
    have HS3:=hide hS3
    clear hS3
    go_wp2_with fail
    rw [E2.out]
    refine (want_step a B br bp w0 _ p _ _ _ HS3.out).mono ?_
    rintro e w4 ⟨rfl,hS4⟩
    have HS4:Hid (St a B br bp w0 w4 p (levelS (protoS st))):=hS4
    clear hS4
    go_wp2_with fail
    refine (bits_any a B br bp w0 _ p _ HS4.out).mono ?_
    rintro e w5 ⟨rfl,hS5⟩
    rw [HB5.out] at hS5
    have HS5:=hide hS5
    clear hS5
    go_wp2_with fail
    refine (number_step a B br bp w0 _ _ _ HS5.out).mono ?_
    rintro e w6 ⟨rfl,hS6⟩
    rw [HN6.out] at hS6 ⊢
    have HS6:=hide hS6
    have HS7:=hide (HS6.out.pkStep (HS6.out.pk.setKeep (n6:Int)))
    have k3:=HS6.out.pk.c3
    have f3:=HS6.out.pk.fz 3
    clear hS6
    go_wp2_with fail
    refine (proto_step a B br bp w0 _ _ _ HS7.out).mono ?_
    rintro e w8 ⟨rfl,hS8⟩
    rw [HC7.out] at hS8 ⊢
    have HS8:=hide hS8
    have HS9:=hide (HS8.out.pkStep (HS8.out.pk.setClient c7))
    have k4:=HS8.out.pk.c4
    have f4:=HS8.out.pk.fz 4
    clear hS8 k3 f3
    go_wp2_with fail
  · refine (isName_step a B br bp w0 _ _ _ c7 hc60 HS9.out).mono ?_
    rintro e w10 ⟨rfl,hS10⟩
    have hV:(Lib.validD c7 && !hasB c7 0)=K:=by rw [← HK.out];unfold clientOk;rw [decide_eq_true h10,Bool.true_and]
    rw [hV]
    have HS10:=hide hS10
    clear hS10 hV
    go_wp2_with fail
    refine (want_step a B br bp w0 _ _ _ _ _ HS10.out).mono ?_
    rintro e w11 ⟨rfl,hS11⟩
    have k2:=hS11.pk.c2
    simp only [HW.out] at k2
    have HS11:=hide hS11
    clear hS11
    go_wp2
    go_end0
    exact ⟨rfl,by have h:=HS11.out;simp only [HW.out] at h;exact h⟩
  · have hV:K=false:=by rw [← HK.out];unfold clientOk;rw [decide_eq_false (by omega),Bool.false_and]
    refine (want_step a B br bp w0 _ _ _ _ _ HS9.out).mono ?_
    rintro e w11 ⟨rfl,hS11⟩
    rw [← hV] at hS11
    clear hV
    have k2:=hS11.pk.c2
    simp only [HW.out] at k2
    have HS11:=hide hS11
    clear hS11
    go_wp2
    go_end0
    exact ⟨rfl,by have h:=HS11.out;simp only [HW.out] at h;exact h⟩
  · refine (isName_step a B br bp w0 _ _ _ c7 hc60 HS9.out).mono ?_
    rintro e w10 ⟨rfl,hS10⟩
    have hV:(Lib.validD c7 && !hasB c7 0)=K:=by rw [← HK.out];unfold clientOk;rw [decide_eq_true h10,Bool.true_and]
    rw [hV]
    have HS10:=hide hS10
    clear hS10 hV
    go_wp2_with fail
    refine (want_step a B br bp w0 _ _ _ _ _ HS10.out).mono ?_
    rintro e w11 ⟨rfl,hS11⟩
    have k2:=hS11.pk.c2
    simp only [HW.out] at k2
    have HS11:=hide hS11
    clear hS11
    go_wp2_with fail
    refine (topic_step a B br bp w0 _ _ _ (HLS.out _) HS11.out).mono ?_
    rintro e w12 ⟨rfl,hS12⟩
    have HS12:=hide hS12
    have HS13:=hide (HS12.out.pkStep (HS12.out.pk.setTopic (topS (wantS K s7)).1))
    have k10:=HS12.out.pk.c10
    have f10:=HS12.out.pk.fz 10
    clear hS12 k2
    go_wp2_with fail
    refine (proto_step a B br bp w0 _ _ _ HS13.out).mono ?_
    rintro e w14 ⟨rfl,hS14⟩
    have HS14:=hide hS14
    have HS15:=hide (HS14.out.pkStep (HS14.out.pk.setPayload (txtS (topS (wantS K s7)).2).1))
    have k11:=HS14.out.pk.c11
    have f11:=HS14.out.pk.fz 11
    clear hS14 k10 f10
    go_wp2
    go_end0
    exact ⟨rfl,by have h:=HS15.out;simp only [HW.out] at h;exact h⟩
  · have hV:K=false:=by rw [← HK.out];unfold clientOk;rw [decide_eq_false (by omega),Bool.false_and]
    refine (want_step a B br bp w0 _ _ _ _ _ HS9.out).mono ?_
    rintro e w11 ⟨rfl,hS11⟩
    rw [← hV] at hS11
    clear hV
    have k2:=hS11.pk.c2
    simp only [HW.out] at k2
    have HS11:=hide hS11
    clear hS11
    go_wp2_with fail
    refine (topic_step a B br bp w0 _ _ _ (HLS.out _) HS11.out).mono ?_
    rintro e w12 ⟨rfl,hS12⟩
    have HS12:=hide hS12
    have HS13:=hide (HS12.out.pkStep (HS12.out.pk.setTopic (topS (wantS K s7)).1))
    have k10:=HS12.out.pk.c10
    have f10:=HS12.out.pk.fz 10
    clear hS12 k2
    go_wp2_with fail
    refine (proto_step a B br bp w0 _ _ _ HS13.out).mono ?_
    rintro e w14 ⟨rfl,hS14⟩
    have HS14:=hide hS14
    have HS15:=hide (HS14.out.pkStep (HS14.out.pk.setPayload (txtS (topS (wantS K s7)).2).1))
    have k11:=HS14.out.pk.c11
    have f11:=HS14.out.pk.fz 11
    clear hS14 k10 f10
    go_wp2
    go_end0
    exact ⟨rfl,by have h:=HS15.out;simp only [HW.out] at h;exact h⟩
 exact main _ rfl
end rd
end Go.Proofs.YtnmfmoimjkoieaaGreatDoor
