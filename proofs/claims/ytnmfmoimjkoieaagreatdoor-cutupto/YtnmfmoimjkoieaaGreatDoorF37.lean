import Derived.Test.YtnmfmoimjkoieaaGreatDoorF24
import Derived.Test.YtnmfmoimjkoieaaGreatDoorF31
import Derived.Test.YtnmfmoimjkoieaaGreatDoorF32
import Derived.Test.YtnmfmoimjkoieaaGreatDoorF27
import Derived.Test.YtnmfmoimjkoieaaGreatDoorF01
import Derived.Test.YtnmfmoimjkoieaaGreatDoorF36
namespace Go.Proofs.YtnmfmoimjkoieaaGreatDoor
namespace br
open Go.RowKit topPlain topWalks decPlain
theorem infoMsg4:(Tryz.prog.info? 206).map (fun i=>(i.zero,i.size,i.bytes))=some (some (.agg #[.string ByteArray.empty,.string ByteArray.empty,.int .i64 0,.bool false]),4,48):=by kernel_rfl
theorem msg_flat (l:List Msg):(l.flatMap msgC).length=l.length*4:=by
 induction l with
 | nil=>rfl
 | cons a t ih=>rw [List.flatMap_cons,List.length_append,ih];simp [msgC];omega
theorem msg_at {l:List Msg} {k:Nat} {m:Msg} (h:l[k]?=some m) (j:Nat) (hj:j < 4):(l.flatMap msgC)[k*4+j]?=(msgC m)[j]?:=by
 induction l generalizing k with
 | nil=>simp at h
 | cons a t ih =>
   cases k with
   | zero =>
     simp at h
     subst h
     rw [List.flatMap_cons,List.getElem?_append_left (by simp [msgC];omega)]
     simp
   | succ k =>
     rw [List.flatMap_cons,List.getElem?_append_right (by simp [msgC];omega)]
     have:=ih (k:=k) (by simpa using h)
     rw [← this]
     congr 1
     simp [msgC]
     omega
theorem msg_cell {w wr:World} {C g n kap:Nat} {l:List Msg} (h:w.ownsRow C 206 4 (.slice (some ⟨g,0,none⟩) n kap) n (l.flatMap msgC)) (hn0:0 < n) {k:Nat} {m:Msg} (hu:l[k]?=some m) (hb:wr.heap[g]?=w.heap[g]?) (j:Nat) (hj:j < 4) {x:Value} (hx:(msgC m)[j]?=some x):wr.cell? ⟨g,k*4+j,none⟩=some x:=by
 obtain ⟨_,e1,hg,_,_,hc⟩:=own_at h hn0
 cases e1
 rw [World.cell?_of_block (w:=w) hb]
 exact hc _ _ ((msg_at hu j hj).trans hx)
def matchS (f:List UInt8) (R:List Msg):List Msg:=R.filter (fun m=>mB f m.topic)
set_option maxHeartbeats 1600000 in
set_option maxRecDepth 100000 in
theorem matching_any (B:Nat) (v:Value) (f:List UInt8) (R:List Msg) (w:World) (hc:w.cell? ⟨B,11,none⟩=some v) (hv:w.ownsRow 0 206 4 v R.length (R.flatMap msgC)) (hI:topWalks.Inv w) (hf:f.length≤65535) (hR:∀ m∈R,m.topic.length≤65535) (hl:R.length≤1000) :
 Calls Tryz.prog 241 #[.pointer (some ⟨B,11,none⟩),.string (bs f)] w fun e w'=>∃ v',e=.returned v'∧w'.ownsRow w.heap.size 206 4 v' (matchS f R).length ((matchS f R).flatMap msgC)∧Below w.heap.size w w':=by
 obtain ⟨q,kap,rfl⟩:=own_form hv
 have HV:=hide hv
 have HC:=hide hc
 have HI:=hide hI
 have HR:=hide hR
 have hlt:=cell_blt hc
 simp only at hlt
 have HM:=hide fun (t:List UInt8) w (h:topWalks.Inv w) (hl:t.length≤65535)=>show Calls Tryz.prog 194 #[.string (bs f),.string (bs t)] w fun e w'=>e=.returned (.bool (mB f t))∧Below w.heap.size w w' from match_any (bs f) (bs t) w (by simp [bs,ByteArray.size];omega) (by simp [bs,ByteArray.size];omega) h
 obtain ⟨i0,hi0,hz0,hz1,hz2⟩:=info_parts infoMsg4
 clear hv hI hR
 go_enter Tryz.func241,Tryz.ntmps241
 go_wp2_with fail
 clear hc
 go_loopw [5,13] (fun lv i wx=>∃ k:Nat,k≤R.length∧i=.int .i64 k∧Below w.heap.size w wx∧wx.ownsRow w.heap.size 206 4 lv (matchS f (R.take k)).length ((matchS f (R.take k)).flatMap msgC)) (fun _ i _=>R.length - (intOf i).toNat)
 case atStart=>exact ⟨0,Nat.zero_le _,rfl,Below.refl _ _,⟨rfl,Or.inl ⟨rfl,rfl⟩⟩⟩
 case round =>
  obtain ⟨k,hk,rfl,hB,hO⟩:=hrel
  have HB:=hide hB
  have HO:=hide hO
  have hsz:=hB.size
  clear hB hO
  by_cases hltk:k < R.length
  · obtain ⟨m,hm⟩:∃ m,R[k]?=some m:=⟨_,List.getElem?_eq_getElem hltk⟩
    obtain ⟨g,rfl,hg,hkc,hcm,_⟩:=own_at HV.out (by omega)
    unfold maxLen at hcm
    have h0:wr.cell? ⟨g,k*4,none⟩=some (.string (bs m.topic)):=msg_cell (wr:=wr) HV.out (by omega) hm (HB.out.block _ hg) 0 (by omega) rfl
    have h1:wr.cell? ⟨g,k*4+1,none⟩=some (.string (bs m.payload)):=msg_cell (wr:=wr) HV.out (by omega) hm (HB.out.block _ hg) 1 (by omega) rfl
    have h2:wr.cell? ⟨g,k*4+2,none⟩=some (.int .i64 m.qos):=msg_cell (wr:=wr) HV.out (by omega) hm (HB.out.block _ hg) 2 (by omega) rfl
    have h3:wr.cell? ⟨g,k*4+3,none⟩=some (.bool m.retain):=msg_cell (wr:=wr) HV.out (by omega) hm (HB.out.block _ hg) 3 (by omega) rfl
    have HMM:=hide hm
    have htk:R.take (k+1)=R.take k ++ [m]:=by rw [List.take_add_one,hm];rfl
    have HTK:=hide htk
    clear hm htk
    go_wp2_with fail
    have hn0:=heap_alloc_new wr (.cells #[.string (bs m.topic),.string (bs m.payload),.int .i64 m.qos,.bool m.retain] 206)
    have hA1:Below w.heap.size w (wr.alloc (.cells #[.string (bs m.topic),.string (bs m.payload),.int .i64 m.qos,.bool m.retain] 206)):=HB.out.alloc HB.out.size _
    have hO1:=(own_below4 HO.out ((Below.refl wr.heap.size wr).alloc (Nat.le_refl _) (.cells #[.string (bs m.topic),.string (bs m.payload),.int .i64 m.qos,.bool m.retain] 206)))
    generalize wr.alloc (.cells #[.string (bs m.topic),.string (bs m.payload),.int .i64 m.qos,.bool m.retain] 206)=W1 at *
    refine (HM.out m.topic _ (HI.out.below hA1) (HR.out m (List.mem_of_getElem? HMM.out))).mono ?_
    rintro e w1 ⟨rfl,hB1⟩
    have hn1:=(hB1.block _ (blk_lt hn0)).trans hn0
    have d0:w1.cell? ⟨wr.heap.size,0,none⟩=some (.string (bs m.topic)):=blk_cell hn1 rfl
    have d1:w1.cell? ⟨wr.heap.size,1,none⟩=some (.string (bs m.payload)):=blk_cell hn1 rfl
    have d2:w1.cell? ⟨wr.heap.size,2,none⟩=some (.int .i64 m.qos):=blk_cell hn1 rfl
    have d3:w1.cell? ⟨wr.heap.size,3,none⟩=some (.bool m.retain):=blk_cell hn1 rfl
    have HB1:=hide (hA1.trans (hB1.mono hA1.size))
    have HO1:=hide (own_below4 hO1 hB1)
    clear hn0 hA1 hO1 hB1 hn1
    by_cases hp:mB f m.topic=true
    · rw [hp]
      have HP:=hide hp
      clear hp
      obtain ⟨q4,k4,hq4⟩:=own_form HO1.out
      have HO4:=HO1.out
      rw [hq4] at HO4
      have HOO:=hide HO4
      have hkl:(matchS f (R.take k)).length≤1000:=Nat.le_trans (List.length_filter_le _ _) (by rw [List.length_take];omega)
      clear HO4
      rw [hq4]
      go_wp2_with (first
       | (at_builtin;refine wpList_append_own_at _ rfl _ _ 127 rfl w.heap.size 206 i0 _ 4 48 Tryz.underlying127 hi0 hz0 hz1 hz2 rfl (by decide) (.slice q4 (matchS f (R.take k)).length k4) (matchS f (R.take k)).length ((matchS f (R.take k)).flatMap msgC) rfl (own_below4 HOO.out ((Below.refl _ _).alloc (Nat.le_refl _) _)) ⟨w1.heap.size,0,none⟩ 1 1 _ rfl rfl (news_new _ _ _) ?c2 ?c3 ?c4 ?c5 ?_))
      case c2=>simp [Value.oneCell']
      case c3=>unfold maxLen;omega
      case c4=>omega
      case c5=>have:=HB1.out.size;simp;omega
      intro v5 w5 hown5 hgrow5 _ _
      have hA5:=(Below.refl w1.heap.size w1).alloc (Nat.le_refl _) (.cells #[.string (bs m.topic),.string (bs m.payload),.int .i64 m.qos,.bool m.retain] 206)
      have hB5:Below w.heap.size w w5:=(HB1.out.trans (hA5.mono HB1.out.size)).trans ((But.of_grown (F:=fun g=>w.heap.size≤g) hgrow5 (fun g hg'=>(own_zero HOO.out).2 g hg')).below (fun _ h=>h) (by have:=HB1.out.size;simp;omega))
      have hO5:w5.ownsRow w.heap.size 206 4 v5 (matchS f (R.take (k+1))).length ((matchS f (R.take (k+1))).flatMap msgC):=by
       have e:matchS f (R.take (k+1))=matchS f (R.take k) ++ [m]:=by
        rw [HTK.out];unfold matchS;rw [List.filter_append];simp [HP.out]
       rw [e,List.length_append,List.flatMap_append]
       have hpk:[m].flatMap msgC = [.string (bs m.topic),.string (bs m.payload),.int .i64 m.qos,.bool m.retain]:=by simp [msgC]
       rw [hpk]
       exact hown5
      have HB5:=hide hB5
      have HO5:=hide hO5
      clear hown5 hgrow5 hA5 hB5 hO5
      go_wp2
      exact ⟨⟨k+1,by omega,by go_num,HB5.out,HO5.out⟩,by simp [intOf];omega⟩
    · have hp':mB f m.topic=false:=by simpa using hp
      rw [hp']
      have HP:=hide hp'
      clear hp hp'
      go_wp2
      have e:matchS f (R.take (k+1))=matchS f (R.take k):=by
       rw [HTK.out];unfold matchS;rw [List.filter_append];simp [HP.out]
      exact ⟨⟨k+1,by omega,by go_num,HB1.out,by rw [e];exact HO1.out⟩,by simp [intOf];omega⟩
  · have hkl:k=R.length:=by omega
    subst hkl
    have e:R.take R.length=R:=List.take_length
    obtain ⟨q9,k9,hq9⟩:=own_form HO.out
    have HO9:=HO.out
    rw [e] at HO9 hq9
    have HO10:=hide HO9
    clear HO9 HO
    subst hq9
    go_wp2
    go_ret
    exact ⟨_,rfl,HO10.out,HB.out⟩
abbrev Fpr:=(Nat→Prop)→World→Prop
def Went (A:Fpr) (F:Nat→Prop) (a a':World):Prop:=∃ F',A F' a'∧But F a a'∧∀ b,F' b→F b∨a.heap.size≤b
structure Fit (N:Nat) (A:Fpr):Prop where
 keep:∀ (F G:Nat→Prop) (a b:World),A F a→But G a b→(∀ x,G x→¬ F x∧N≤x)→A F b
 lt:∀ F a,A F a→∀ b,F b→b < a.heap.size
theorem Fit.below {N:Nat} {A:Fpr} (h:Fit N A) {F:Nat→Prop} {a b:World} (hA:A F a) (hb:Below a.heap.size a b):A F b:=h.keep F (fun _=>False) a b hA (But.of_below hb) (fun _ f=>f.elim)
theorem Went.refl {A:Fpr} {F:Nat→Prop} {a:World} (h:A F a):Went A F a a:=⟨F,h,But.refl _ _,fun _ h=>Or.inl h⟩
theorem Went.step {A:Fpr} {F0 F:Nat→Prop} {w a b:World} (h1:But F0 w a) (h2:∀ b,F b→F0 b∨w.heap.size≤b) (h:Went A F a b):Went A F0 w b:=by
 obtain ⟨F',k1,k2,k3⟩:=h
 exact ⟨F',k1,h1.trans k2 (fun x hx hF=>(h2 x hF).elim (fun e=>e) (fun e=>by omega)),fun b hb=>(k3 b hb).elim (fun e=>h2 b e) (fun e=>Or.inr (Nat.le_trans h1.size e))⟩
theorem Went.below {N:Nat} {A:Fpr} {F0:Nat→Prop} {w a b:World} (hf:Fit N A) (h:Went A F0 w a) (hb:Below a.heap.size a b):Went A F0 w b:=by
 obtain ⟨F',k1,k2,k3⟩:=h
 exact ⟨F',hf.below k1 hb,k2.trans (But.of_below (F:=fun _=>False) hb) (fun _ _ f=>f.elim),k3⟩
theorem Went.after {A:Fpr} {F0:Nat→Prop} {w a b:World} (hb:Below w.heap.size w a) (h:Went A F0 a b):Went A F0 w b:=
 Went.step (F:=F0) (But.of_below hb) (fun _ h=>Or.inl h) h
theorem Went.mono {A A':Fpr} {F:Nat→Prop} {a a':World} (h:Went A F a a') (hA:∀ G b,A G b→A' G b):Went A' F a a':=by
 obtain ⟨F',k1,k2,k3⟩:=h
 exact ⟨F',hA _ _ k1,k2,k3⟩
theorem Went.kept {A:Fpr} {F0:Nat→Prop} {w a:World} (h:Went A F0 w a) {b:Nat} (hb:b < w.heap.size) (hn:¬ F0 b):a.heap[b]?=w.heap[b]?:=by
 obtain ⟨F',k1,k2,k3⟩:=h
 exact k2.keep b hb hn
set_option maxHeartbeats 1600000 in
set_option maxRecDepth 100000 in
theorem tellRet_fp {N:Nat} (B sb:Nat) (v:Value) (f:List UInt8×Int) (R:List Msg) (w:World) (J:Nat→Fpr) (F0:Nat→Prop) (hc:w.cell? ⟨B,11,none⟩=some v) (hv:w.ownsRow 0 206 4 v R.length (R.flatMap msgC)) (hI:topWalks.Inv w) (hf:f.1.length≤65535) (hR:∀ m∈R,m.topic.length≤65535) (hl:R.length≤1000)
 (hfit:∀ k,Fit N (J k)) (hJ0:J 0 F0 w)
 (hJ:∀ k m a F,(matchS f.1 R)[k]?=some m→J k F a→Calls Tryz.prog 145 #[.pointer (some ⟨sb,0,none⟩),msgV (toldS m f.2 true)] a fun e a'=>e=.returned (.tuple #[])∧Went (J (k+1)) F a a') :
 Calls Tryz.prog 215 #[.pointer (some ⟨B,0,none⟩),.pointer (some ⟨sb,0,none⟩),.agg #[.string (bs f.1),.int .i64 f.2]] w fun e w'=>e=.returned (.tuple #[])∧Went (J (matchS f.1 R).length) F0 w w':=by
 have hlt:=cell_blt hc
 simp only at hlt
 have hml:(matchS f.1 R).length≤1000:=Nat.le_trans (List.length_filter_le _ _) hl
 have cM0:=fun (a:World) h1 h2 h3=>matching_any B v f.1 R a h1 h2 h3 hf hR hl
 generalize matchS f.1 R=T at *
 have hF0:=(hfit 0).lt F0 w hJ0
 have hA0:=(Below.refl w.heap.size w).alloc (Nat.le_refl _) (.cells #[.string (bs f.1),.int .i64 f.2] 95)
 have hn0:=heap_alloc_new w (.cells #[.string (bs f.1),.int .i64 f.2] 95)
 obtain ⟨q,kap,hq⟩:=own_form hv
 go_enter Tryz.func215,Tryz.ntmps215
 go_wp2_with fail
 generalize w.alloc (.cells #[.string (bs f.1),.int .i64 f.2] 95)=W0 at *
 have hcW:=(hA0.cell (p:=⟨B,11,none⟩) hlt).trans hc
 have d0:W0.cell? ⟨w.heap.size,0,none⟩=some (.string (bs f.1)):=blk_cell hn0 rfl
 have cM:=hide (cM0 W0.drew hcW (own_below4 hv hA0.drew) (hI.below hA0.drew))
 have HA0:=hide hA0
 have HN0:=hide hn0
 have HJ0:=hide hJ0
 have HF0:=hide hF0
 have HFIT:=hide hfit
 have HJ:=hide hJ
 have hl0:=blk_lt hn0
 have hlB:B < W0.heap.size:=Nat.lt_of_lt_of_le hlt hA0.size
 clear hc hv hI hR hA0 hn0 hJ0 hJ hq hcW cM0 hF0 hfit
 go_region_with (
  refine cM.out.mono ?_
  rintro e w1 ⟨v1,rfl,hown1,hB1⟩
  obtain ⟨q1,k1,hq1⟩:=own_form hown1
  have HO1:=hide hown1
  have HB1:=hide hB1
  have HBW:Hid (Below w.heap.size w w1):=HA0.out.drew.trans (hB1.mono HA0.out.size)
  clear hown1 hB1
  subst hq1)
 all_goals
  go_wp2_with fail
  conv=>arg 4;simp [Act.put]
  have hNN:w1.heap[w.heap.size]?=some (.cells #[.string (bs f.1),.int .i64 f.2] 95):=(HB1.out.block _ hl0).trans HN0.out
  have HNN:=hide hNN
  have HBS:=hide (blk_lt hNN)
  clear hNN
  go_loopw [15] (fun i wx=>∃ k:Nat,k≤T.length∧i=.int .i64 k∧Went (J k) F0 w1 wx) (fun i _=>T.length - (intOf i).toNat)
  case atStart=>exact ⟨0,Nat.zero_le _,rfl,Went.refl ((HFIT.out 0).below HJ0.out HBW.out)⟩
  case round =>
   obtain ⟨k,hk,rfl,hJk⟩:=hrel
   have HJK:=hide hJk
   have hN:=(hJk.kept HBS.out (fun e=>by have:=HF0.out _ e;omega)).trans HNN.out
   have hO:=own_keep HO1.out (fun b hb=>hJk.kept (by obtain ⟨cur,hc9⟩:=own_blk HO1.out hb;exact blk_lt hc9) (fun e=>by
    have h1:=(own_zero HO1.out).2 b hb
    have h2:=HF0.out _ e
    have h3:=HA0.out.size
    have:W0.drew.heap.size=W0.heap.size:=rfl
    omega))
   have HN:=hide hN
   have HO:=hide hO
   clear hJk hN hO
   by_cases hltk:k < T.length
   · obtain ⟨m,hm⟩:∃ m,T[k]?=some m:=⟨_,List.getElem?_eq_getElem hltk⟩
     obtain ⟨g,rfl,hg,hkc,hcm,_⟩:=own_at HO.out (by omega)
     unfold maxLen at hcm
     have h0:wr.cell? ⟨g,k*4,none⟩=some (.string (bs m.topic)):=msg_cell (wr:=wr) HO.out (by omega) hm rfl 0 (by omega) rfl
     have h1:wr.cell? ⟨g,k*4+1,none⟩=some (.string (bs m.payload)):=msg_cell (wr:=wr) HO.out (by omega) hm rfl 1 (by omega) rfl
     have h2:wr.cell? ⟨g,k*4+2,none⟩=some (.int .i64 m.qos):=msg_cell (wr:=wr) HO.out (by omega) hm rfl 2 (by omega) rfl
     have h3:wr.cell? ⟨g,k*4+3,none⟩=some (.bool m.retain):=msg_cell (wr:=wr) HO.out (by omega) hm rfl 3 (by omega) rfl
     have n1:wr.cell? ⟨w.heap.size,1,none⟩=some (.int .i64 f.2):=blk_cell HN.out rfl
     have hnl:=blk_lt HN.out
     have HMM:=hide hm
     clear hm
     go_wp2_with fail
     have hn2:=heap_alloc_new wr (.cells #[.string (bs m.topic),.string (bs m.payload),.int .i64 m.qos,.bool m.retain] 206)
     have hA2:=(Below.refl wr.heap.size wr).alloc (Nat.le_refl _) (.cells #[.string (bs m.topic),.string (bs m.payload),.int .i64 m.qos,.bool m.retain] 206)
     generalize wr.alloc (.cells #[.string (bs m.topic),.string (bs m.payload),.int .i64 m.qos,.bool m.retain] 206)=W2 at *
     refine (told_any m f.2 true W2).mono ?_
     rintro e w3 ⟨rfl,hB3⟩
     have hB23:Below wr.heap.size wr w3:=hA2.trans (hB3.mono hA2.size)
     obtain ⟨F3,hJ3,hb3,hF3⟩:=HJK.out.below (HFIT.out k) hB23
     have HW3:Hid (But F0 w1 w3∧∀ b,F3 b→F0 b∨w1.heap.size≤b):=⟨hb3,hF3⟩
     have cT:=hide (HJ.out k m w3 F3 HMM.out hJ3)
     simp only [msgV,toldS] at cT
     clear hn2 hA2 hB3 hB23 hJ3 hb3 hF3
     go_wp2_with fail
     refine cT.out.mono ?_
     rintro e w4 ⟨rfl,hJ4⟩
     have HJ4:=hide (Went.step HW3.out.1 HW3.out.2 hJ4)
     clear hJ4 cT
     go_wp2
     go_roundw
     case rel=>exact ⟨k+1,by omega,by go_num,HJ4.out⟩
     case measure=>simp [intOf];omega
   · have hkl:k=T.length:=by omega
     subst hkl
     go_wp2
     go_end0
     exact ⟨rfl,HJK.out.after HBW.out⟩
end br
namespace cu
open Go.RowKit topPlain topWalks decPlain rd
theorem len_more {l:List UInt8} {r:Option (Nat×Nat)} (h:lenL l=some r) (m:List UInt8):lenL (l ++ m)=some r:=by
 match l,h with
 | [],h=>simp [lenL] at h
 | [x],h =>
   by_cases hx:x.toNat < 128
   · simp [lenL,hx] at h ⊢;exact h
   · simp [lenL,hx] at h
 | x :: y :: t,h=>simpa [lenL] using h
theorem len_ge {l:List UInt8} {n k:Nat} (h:lenL l=some (some (n,k))):k≤l.length:=by
 match l,h with
 | [],h=>simp [lenL] at h
 | [x],h =>
   by_cases hx:x.toNat < 128
   · simp [lenL,hx] at h
     rw [← h.2]
     exact Nat.le_refl _
   · simp [lenL,hx] at h
 | x :: y :: t,h =>
   by_cases hx:x.toNat < 128
   · simp [lenL,hx] at h
     rw [← h.2]
     simp
   · unfold lenL at h
     simp only [if_neg hx] at h
     by_cases hc:y.toNat=0∨127 < y.toNat∨300 < x.toNat - 128+128*y.toNat
     · simp only [if_pos hc] at h
       cases h
     · simp only [if_neg hc] at h
       cases h
       simp
theorem dec_more {l:List UInt8} (m:List UInt8) (h:decL l≠.inl true):decL (l ++ m)=decL l:=by
 match l,h with
 | [],h=>exact (h rfl).elim
 | x :: r,h =>
   rw [List.cons_append]
   unfold decL at h ⊢
   simp only at h ⊢
   cases hf:firstL (x.toNat / 16) (x.toNat % 16) with
   | none=>rfl
   | some p =>
     simp only [hf] at h ⊢
     cases hl:lenL r with
     | none=>simp [hl] at h
     | some o =>
       rw [len_more hl m]
       cases o with
       | none=>rfl
       | some nk =>
         obtain ⟨n,k⟩:=nk
         have hk:=len_ge hl
         simp only [hl] at h ⊢
         by_cases hn:r.length < k+n
         · simp [hn] at h
         · have hn':¬ (r ++ m).length < k+n:=by rw [List.length_append];omega
           rw [if_neg hn,if_neg hn']
           have e:((r ++ m).drop k).take n=(r.drop k).take n:=by
            rw [List.drop_append_of_le_length hk,List.take_append_of_le_length (by rw [List.length_drop];omega)]
           rw [e]
theorem dec_len {l:List UInt8} {q:Pkt×List (List UInt8×Int)×List Int} {n:Nat} (h:decL l=.inr (q,n)):0 < n∧n≤l.length:=by
 match l,h with
 | [],h=>simp [decL] at h
 | x :: r,h =>
   unfold decL at h
   simp only at h
   cases hf:firstL (x.toNat / 16) (x.toNat % 16) with
   | none=>simp [hf] at h
   | some p =>
     simp only [hf] at h
     cases hl:lenL r with
     | none=>simp [hl] at h
     | some o =>
       cases o with
       | none=>simp [hl] at h
       | some nk =>
         obtain ⟨n',k⟩:=nk
         simp only [hl] at h
         by_cases hn:r.length < k+n'
         · simp [hn] at h
         · rw [if_neg hn] at h
           cases hb:bodyS p ((r.drop k).take n') with
           | none=>simp [hb] at h
           | some q' =>
             simp [hb] at h
             obtain ⟨_,rfl⟩:=h
             simp
             omega
abbrev Dec:=Pkt×List (List UInt8×Int)×List Int
section
variable {σ ω:Type} (step:σ→Dec→σ×List ω×Bool) (shut:ω)
def readF:Nat→σ→List UInt8→σ×List ω×Option (List UInt8)
 | 0,s,l=>(s,[],some l)
 | f+1,s,l=>match decL l with
   | .inl true=>(s,[],some l)
   | .inl false=>(s,[shut],none)
   | .inr (q,n)=>match step s q with
     | (s',o,true)=>(s',o,none)
     | (s',o,false)=>match readF f s' (l.drop n) with
       | (s2,o2,r)=>(s2,o ++ o2,r)
def readS (s:σ) (l:List UInt8):σ×List ω×Option (List UInt8):=readF step shut (l.length+1) s l
theorem readF_more:∀ (f:Nat) (s:σ) (l:List UInt8) (k:Nat),l.length < f→readF step shut (f+k) s l=readF step shut f s l
 | 0,_,_,_,h=>by omega
 | f+1,s,l,k,h=>by
   rw [show f+1+k=(f+k)+1 by omega]
   unfold readF
   cases hd:decL l with
   | inl b=>cases b<;>rfl
   | inr qn =>
     obtain ⟨q,n⟩:=qn
     obtain ⟨h1,h2⟩:=dec_len hd
     simp only
     have hs:∃ s' o c,step s q=(s',o,c):=⟨_,_,_,rfl⟩
     obtain ⟨s',o,c,hs⟩:=hs
     rw [hs]
     cases c with
     | true=>rfl
     | false =>
       simp only
       rw [readF_more f s' (l.drop n) k (by rw [List.length_drop];omega)]
theorem readS_is (f:Nat) (s:σ) (l:List UInt8) (h:l.length < f):readF step shut f s l=readS step shut s l:=by
 unfold readS
 rw [show f=(l.length+1)+(f - (l.length+1)) by omega]
 exact readF_more step shut (l.length+1) s l _ (by omega)
theorem read_cut:∀ (n:Nat) (s:σ) (l m:List UInt8),l.length≤n→readS step shut s (l ++ m)=(match readS step shut s l with
 | (s1,o1,none)=>(s1,o1,none)
 | (s1,o1,some r)=>match readS step shut s1 (r ++ m) with
   | (s2,o2,r2)=>(s2,o1 ++ o2,r2)):=by
 intro n
 induction n with
 | zero =>
   intro s l m h
   have:l = []:=List.eq_nil_of_length_eq_zero (by omega)
   subst this
   simp [readS,readF,decL]
 | succ n ih =>
   intro s l m h
   cases hd:decL l with
   | inl b =>
     cases b with
     | true =>
       have e:readS step shut s l=(s,[],some l):=by unfold readS readF;rw [hd]
       rw [e]
       simp
     | false =>
       have e:readS step shut s l=(s,[shut],none):=by unfold readS readF;rw [hd]
       have e2:readS step shut s (l ++ m)=(s,[shut],none):=by unfold readS readF;rw [dec_more m (by rw [hd];simp),hd]
       rw [e,e2]
   | inr qn =>
     obtain ⟨q,k⟩:=qn
     obtain ⟨h1,h2⟩:=dec_len hd
     have hs:∃ s' o c,step s q=(s',o,c):=⟨_,_,_,rfl⟩
     obtain ⟨s',o,c,hs⟩:=hs
     have e0:∀ (t:List UInt8),decL t=.inr (q,k)→readS step shut s t=(if c then (s',o,none) else match readS step shut s' (t.drop k) with
      | (s2,o2,r)=>(s2,o ++ o2,r)):=fun t ht=>by
      have ⟨g1,g2⟩:=dec_len ht
      unfold readS
      rw [readF,ht]
      simp only [hs]
      cases c with
      | true=>rfl
      | false =>
        simp only
        rw [readS_is step shut t.length s' (t.drop k) (by rw [List.length_drop];omega)]
        rfl
     rw [e0 l hd,e0 (l ++ m) (by rw [dec_more m (by rw [hd];simp),hd]),List.drop_append_of_le_length h2]
     cases c with
     | true=>rfl
     | false =>
       simp only [Bool.false_eq_true,if_false]
       rw [ih s' (l.drop k) m (by rw [List.length_drop];omega)]
       obtain ⟨s1,o1,r1⟩:=readS step shut s' (l.drop k)
       cases r1 with
       | none=>rfl
       | some r=>simp [List.append_assoc]
end
theorem filF_ok (k8:Bool):∀ (n:Nat) (st:Option (List UInt8)) (acc:List (List UInt8×Int)),lenS st≤300→(∀ f∈acc,f.1.length≤300)→(filF k8 n st acc).1.length≤acc.length+n∧∀ f∈(filF k8 n st acc).1,f.1.length≤300
 | 0,_,_,_,h=>⟨Nat.le_refl _,h⟩
 | n+1,st,acc,hs,h=>by
   rw [filF]
   by_cases hz:lenS st=0
   · rw [if_pos hz];exact ⟨by simp only;omega,h⟩
   · rw [if_neg hz]
     have hlt:=filStep_lt k8 st (by omega)
     have hf:(filStep k8 st).1.1.length≤300:=by
      have:(filStep k8 st).1.1=(txtS st).1:=by unfold filStep;split<;>rfl
      rw [this]
      exact Nat.le_trans (txtS_le st) hs
     obtain ⟨h1,h2⟩:=filF_ok k8 n (filStep k8 st).2 (acc ++ [(filStep k8 st).1]) (by omega) (fun f hf'=>by
      rcases List.mem_append.1 hf' with h' | h'
      · exact h f h'
      · simp only [List.mem_singleton] at h';subst h';exact hf)
     refine ⟨?_,h2⟩
     rw [List.length_append,List.length_singleton] at h1
     omega
theorem wantS_le (so:Bool) {st:Option (List UInt8)} (h:lenS st≤300):lenS (wantS so st)≤300:=Nat.le_trans (wantS_len so st) h
structure DecOk (p:Pkt) (fs:List (List UInt8×Int)):Prop where
 kind:1≤p.kind∧p.kind≤14
 qos:p.kind=3→p.qos=0∨p.qos=1∨p.qos=2
 top:p.kind=3→p.topic.length≤300
 id:0≤p.id∧p.id≤65535
 idp:p.kind=3→p.qos=2→1≤p.id
 fil:∀ f∈fs,f.1.length≤300
 len:fs.length≤300
theorem first_qos {k f:Nat} {p:Pkt} (h:firstL k f=some p):(p.kind=3→p.qos=0∨p.qos=1∨p.qos=2)∧p.id=0:=by
 unfold firstL at h
 split at h
 · cases h
 · split at h
   · rename_i h1 h2
     split at h
     · cases h;exact ⟨fun e=>by simp only at e;omega,rfl⟩
     · cases h
   · split at h
     · cases h
     · rename_i h1 h2 h3
       cases h
       refine ⟨fun _=>?_,rfl⟩
       simp only
       have:¬ 2 < f / 2 % 4:=fun e=>h3 (Or.inl e)
       omega
theorem connect_id (p:Pkt) (st:Option (List UInt8)):(connectS p st).1.id=p.id∧(connectS p st).1.kind=p.kind:=by
 unfold connectS
 simp only
 split<;>exact ⟨rfl,rfl⟩
theorem body_ok {k f:Nat} {p q:Pkt} {l:List UInt8} {gs:List (List UInt8×Int)} {ds:List Int} (hp:firstL k f=some p) (hl:l.length≤300) (h:bodyS p l=some (q,gs,ds)):DecOk q gs:=by
 obtain ⟨hk1,hk2,_⟩:=firstL_kind hp
 obtain ⟨hq,hid⟩:=first_qos hp
 unfold bodyS at h
 split at h
 · rename_i hend
   simp only [Option.some.injEq,Prod.mk.injEq] at h
   obtain ⟨rfl,rfl,rfl⟩:=h
   have hls:lenS (some l)≤300:=hl
   have hn:=numS_lt (some l)
   unfold packetS at hend ⊢
   split
   · rename_i h1
     obtain ⟨c1,c2⟩:=connect_id p (some l)
     have hne:(connectS p (some l)).1.kind≠3:=by rw [c2,h1];decide
     exact ⟨by rw [c2];exact ⟨hk1,hk2⟩,fun e=>(hne e).elim,fun e=>(hne e).elim,by rw [c1,hid];decide,fun e=>(hne e).elim,(fun f hf=>by cases hf),by simp⟩
   · rename_i h1
     split
     · rename_i h2
       have hne:p.kind≠3:=by rw [h2];decide
       exact ⟨⟨hk1,hk2⟩,fun e=>(hne e).elim,fun e=>(hne e).elim,by show 0≤p.id∧p.id≤65535;rw [hid];decide,fun e=>(hne e).elim,(fun f hf=>by cases hf),by simp⟩
     · rename_i h2
       split
       · rename_i h3
         simp only [if_neg h1,if_neg h2,if_pos h3] at hend
         have htop:(topS (some l)).1.length≤300:=by
          show (txtS (some l)).1.length≤300
          exact Nat.le_trans (txtS_le _) hls
         unfold publishS at hend ⊢
         by_cases hq0:0 < p.qos
         · simp only [if_pos hq0] at hend ⊢
           have hn2:=numS_lt (topS (some l)).2
           have hid2:0 < (numS (topS (some l)).2).1:=by
            apply Classical.byContradiction
            intro hz
            have:(idS (topS (some l)).2).2=none:=by
             unfold idS
             simp only
             have:decide (0 < (numS (topS (some l)).2).1)=false:=by simpa using hz
             rw [this];rfl
            rw [this] at hend
            exact hend.2 rfl
           exact ⟨⟨hk1,hk2⟩,fun _=>hq h3,fun _=>htop,by show 0≤(((numS (topS (some l)).2).1:Nat):Int)∧(((numS (topS (some l)).2).1:Nat):Int)≤65535;omega,fun _ _=>by show 1≤(((numS (topS (some l)).2).1:Nat):Int);omega,(fun f hf=>by cases hf),by simp⟩
         · simp only [if_neg hq0] at hend ⊢
           exact ⟨⟨hk1,hk2⟩,fun _=>hq h3,fun _=>htop,by show 0≤p.id∧p.id≤65535;rw [hid];decide,fun _ e=>by have:p.qos=2:=e;omega,(fun f hf=>by cases hf),by simp⟩
       · rename_i h3
         have hidr:0≤(((idS (some l)).1:Nat):Int)∧(((idS (some l)).1:Nat):Int)≤65535:=by
          show 0≤(((numS (some l)).1:Nat):Int)∧(((numS (some l)).1:Nat):Int)≤65535
          omega
         split
         · exact ⟨⟨hk1,hk2⟩,fun e=>(h3 e).elim,fun e=>(h3 e).elim,hidr,fun e=>(h3 e).elim,(fun f hf=>by cases hf),by simp⟩
         · split
           · have hid3:lenS (idS (some l)).2≤300:=Nat.le_trans (idS_len _) hls
             have hw:=wantS_le (decide (0 < lenS (idS (some l)).2)) hid3
             obtain ⟨g1,g2⟩:=filF_ok (p.kind == 8) (lenS (wantS (decide (0 < lenS (idS (some l)).2)) (idS (some l)).2)) (wantS (decide (0 < lenS (idS (some l)).2)) (idS (some l)).2) [] hw (fun f hf=>by cases hf)
             exact ⟨⟨hk1,hk2⟩,fun e=>(h3 e).elim,fun e=>(h3 e).elim,hidr,fun e=>(h3 e).elim,g2,by simp only [List.length_nil] at g1;exact Nat.le_trans g1 (by omega)⟩
           · split
             · exact ⟨⟨hk1,hk2⟩,fun e=>(h3 e).elim,fun e=>(h3 e).elim,hidr,fun e=>(h3 e).elim,(fun f hf=>by cases hf),by simp⟩
             · exact ⟨⟨hk1,hk2⟩,fun e=>(h3 e).elim,fun e=>(h3 e).elim,by rw [hid];decide,fun e=>(h3 e).elim,(fun f hf=>by cases hf),by simp⟩
 · cases h
theorem dec_part {l:List UInt8} {q:Pkt×List (List UInt8×Int)×List Int} {n:Nat} (h:decL l=.inr (q,n)):∃ x r p m k,l=x :: r∧firstL (x.toNat / 16) (x.toNat % 16)=some p∧lenL r=some (some (m,k))∧k+m≤r.length∧bodyS p ((r.drop k).take m)=some q∧n=1+k+m:=by
 unfold decL at h
 split at h
 · cases h
 · rename_i x r
   split at h
   · cases h
   · rename_i p hp
     split at h
     · cases h
     · cases h
     · rename_i m k hm
       split at h
       · cases h
       · rename_i hlen
         split at h
         · cases h
         · rename_i q' hq
           injection h with h
           injection h with h h'
           subst h h'
           exact ⟨x,r,p,m,k,rfl,hp,hm,by omega,hq,rfl⟩
theorem dec_ok {l:List UInt8} {p:Pkt} {fs:List (List UInt8×Int)} {cs:List Int} {n:Nat} (h:decL l=.inr ((p,fs,cs),n)):DecOk p fs:=by
 obtain ⟨x,r,p0,m,k,_,h2,h3,_,h5,_⟩:=dec_part h
 exact body_ok h2 (by rw [List.length_take];have:=(lenL_le h3).1;omega) h5
end cu
end Go.Proofs.YtnmfmoimjkoieaaGreatDoor
