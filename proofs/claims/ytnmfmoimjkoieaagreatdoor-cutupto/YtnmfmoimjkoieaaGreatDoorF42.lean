import Derived.Test.YtnmfmoimjkoieaaGreatDoorF37
import Derived.Test.YtnmfmoimjkoieaaGreatDoorF41
namespace Go.Proofs.YtnmfmoimjkoieaaGreatDoor
namespace br
open Go.RowKit topPlain topWalks decPlain
def intK (l:List Int):List Value:=l.map fun c=>.int .i64 c
structure SubL (fs:List (List UInt8×Int)) (tk:Nat→Bool) (T:Nat→List (List UInt8×Int)) (C:Nat→List Int):Prop where
 t0:T 0 = []
 c0:C 0 = []
 yes:∀ k g,fs[k]?=some g→tk k=true→T (k+1)=T k ++ [g]∧C (k+1)=C k ++ [g.2]
 no:∀ k g,fs[k]?=some g→tk k=false→T (k+1)=T k∧C (k+1)=C k ++ [128]
theorem SubL.len {fs:List (List UInt8×Int)} {tk:Nat→Bool} {T:Nat→List (List UInt8×Int)} {C:Nat→List Int} (h:SubL fs tk T C):∀ k,k≤fs.length→(T k).length≤k∧(C k).length=k:=by
 intro k
 induction k with
 | zero=>intro _;rw [h.t0,h.c0];simp
 | succ k ih =>
   intro hk
   obtain ⟨i1,i2⟩:=ih (by omega)
   have hg:fs[k]?=some fs[k]:=List.getElem?_eq_getElem (by omega)
   cases ht:tk k with
   | true=>obtain ⟨e1,e2⟩:=h.yes k _ hg ht;rw [e1,e2];simp;omega
   | false=>obtain ⟨e1,e2⟩:=h.no k _ hg ht;rw [e1,e2];simp;omega
theorem filK_snoc (l:List (List UInt8×Int)) (g:List UInt8×Int):filK (l ++ [g])=filK l ++ [.string (bs g.1),.int .i64 g.2]:=by simp [filK]
theorem intK_snoc (l:List Int) (g:Int):intK (l ++ [g])=intK l ++ [.int .i64 g]:=by simp [intK]
structure SubI (J:Fpr) (F0:Nat→Prop) (W0 wx:World) (tv cv:Value) (T:List (List UInt8×Int)) (C:List Int) (F:Nat→Prop):Prop where
 at_:J F wx
 but:But F0 W0 wx
 new:∀ b,F b→F0 b∨W0.heap.size≤b
 tr:wx.ownsRow W0.heap.size 95 2 tv T.length (filK T)
 cr:wx.ownsRow W0.heap.size 3 1 cv C.length (intK C)
 tn:∀ b,tv.ownBlock=some b→¬ F b
 cn:∀ b,cv.ownBlock=some b→¬ F b
theorem SubI.below {N:Nat} {J:Fpr} {F0:Nat→Prop} {W0 wx w':World} {tv cv:Value} {T:List (List UInt8×Int)} {C:List Int} {F:Nat→Prop} (h:SubI J F0 W0 wx tv cv T C F) (hf:Fit N J) (hb:Below wx.heap.size wx w'):SubI J F0 W0 w' tv cv T C F:=
 ⟨hf.below h.at_ hb,h.but.trans (But.of_below (F:=fun _=>False) hb) (fun _ _ f=>f.elim),h.new,own_below4 h.tr hb,own_below4 h.cr hb,h.tn,h.cn⟩
theorem SubI.went {J J':Fpr} {F0:Nat→Prop} {W0 wx w':World} {tv cv:Value} {T:List (List UInt8×Int)} {C:List Int} {F:Nat→Prop} (h:SubI J F0 W0 wx tv cv T C F) (hw:Went J' F wx w'):∃ F',SubI J' F0 W0 w' tv cv T C F':=by
 obtain ⟨F',k1,k2,k3⟩:=hw
 have key:∀ {e:TypeId} {sz:Nat} {v:Value} {m:Nat} {xs:List Value},wx.ownsRow W0.heap.size e sz v m xs→(∀ b,v.ownBlock=some b→¬ F b)→w'.ownsRow W0.heap.size e sz v m xs∧∀ b,v.ownBlock=some b→¬ F' b:=fun ho hn=>⟨own_but ho k2 hn,fun b hb hF=>(k3 b hF).elim (hn b hb) (fun e=>by obtain ⟨cur,hc⟩:=own_blk ho hb;have:=blk_lt hc;omega)⟩
 exact ⟨F',k1,h.but.trans k2 (fun x hx hF=>(h.new x hF).elim (fun e=>e) (fun e=>by omega)),fun b hb=>(k3 b hb).elim (h.new b) (fun e=>Or.inr (Nat.le_trans h.but.size e)),(key h.tr h.tn).1,(key h.cr h.cn).1,(key h.tr h.tn).2,(key h.cr h.cn).2⟩
theorem SubI.addT {N:Nat} {J:Fpr} {F0:Nat→Prop} {W0 wx w':World} {tv tv' cv:Value} {T:List (List UInt8×Int)} {C:List Int} {F:Nat→Prop} {g:List UInt8×Int} (h:SubI J F0 W0 wx tv cv T C F) (hf:Fit N J) (hN:N≤W0.heap.size) (hg:wx.grownBy w' tv.ownBlock) (hr:w'.ownsRow W0.heap.size 95 2 tv' (T.length+1) (filK T ++ [.string (bs g.1),.int .i64 g.2])) (hl:tv'.ownBlock=tv.ownBlock∨tv'.ownBlock=some wx.heap.size):SubI J F0 W0 w' tv' cv (T ++ [g]) C F:=by
 have hb:But (fun b=>tv.ownBlock=some b) wx w':=But.of_grown hg (fun b hb=>hb)
 refine ⟨hf.keep F _ wx w' h.at_ hb (fun x hx=>⟨h.tn x hx,Nat.le_trans hN ((own_zero h.tr).2 x hx)⟩),h.but.trans hb (fun x hx e=>by have:=(own_zero h.tr).2 x e;omega),h.new,?_,own_but h.cr hb (fun b hb' e=>?_),fun b hb'=>?_,h.cn⟩
 · rw [filK_snoc,List.length_append,List.length_singleton];exact hr
 · obtain ⟨c1,q1⟩:=own_blk h.cr hb'
   obtain ⟨c2,q2⟩:=own_blk h.tr e
   rw [q1] at q2;simp at q2
 · rcases hl with e | e
   · rw [e] at hb';exact h.tn b hb'
   · rw [e] at hb';cases hb'
     exact fun hF=>by have:=hf.lt _ _ h.at_ _ hF;omega
theorem SubI.addC {N:Nat} {J:Fpr} {F0:Nat→Prop} {W0 wx w':World} {tv cv cv':Value} {T:List (List UInt8×Int)} {C:List Int} {F:Nat→Prop} {g:Int} (h:SubI J F0 W0 wx tv cv T C F) (hf:Fit N J) (hN:N≤W0.heap.size) (hg:wx.grownBy w' cv.ownBlock) (hr:w'.ownsRow W0.heap.size 3 1 cv' (C.length+1) (intK C ++ [.int .i64 g])) (hl:cv'.ownBlock=cv.ownBlock∨cv'.ownBlock=some wx.heap.size):SubI J F0 W0 w' tv cv' T (C ++ [g]) F:=by
 have hb:But (fun b=>cv.ownBlock=some b) wx w':=But.of_grown hg (fun b hb=>hb)
 refine ⟨hf.keep F _ wx w' h.at_ hb (fun x hx=>⟨h.cn x hx,Nat.le_trans hN ((own_zero h.cr).2 x hx)⟩),h.but.trans hb (fun x hx e=>by have:=(own_zero h.cr).2 x e;omega),h.new,own_but h.tr hb (fun b hb' e=>?_),?_,h.tn,fun b hb'=>?_⟩
 · obtain ⟨c1,q1⟩:=own_blk h.tr hb'
   obtain ⟨c2,q2⟩:=own_blk h.cr e
   rw [q1] at q2;simp at q2
 · rw [intK_snoc,List.length_append,List.length_singleton];exact hr
 · rcases hl with e | e
   · rw [e] at hb';exact h.cn b hb'
   · rw [e] at hb';cases hb'
     exact fun hF=>by have:=hf.lt _ _ h.at_ _ hF;omega
theorem SubI.laid {N:Nat} {J:Fpr} {F0:Nat→Prop} {W0 wx:World} {tv cv:Value} {T:List (List UInt8×Int)} {C:List Int} {F:Nat→Prop} (h:SubI J F0 W0 wx tv cv T C F) (hf:Fit N J) (o:Obj):SubI J F0 W0 (wx.alloc o) tv cv T C F:=h.below hf ((Below.refl _ _).alloc (Nat.le_refl _) o)
set_option maxHeartbeats 3200000 in
set_option maxRecDepth 100000 in
theorem sub_any {N:Nat} (B cb sb:Nat) (p:Pkt) (fs:List (List UInt8×Int)) (tk:Nat→Bool) (T:Nat→List (List UInt8×Int)) (C:Nat→List Int) (w:World) (J K:Nat→Fpr) (F0:Nat→Prop) (c1:Option Addr) (c2 c3:Nat) (hcv:p.cv=.slice c1 c2 c3) (hfs:w.ownsRow 0 95 2 p.fv fs.length (filK fs)) (hfn:∀ b,p.fv.ownBlock=some b→¬ F0 b) (hlf:fs.length≤1000000) (hN:N≤w.heap.size)
 (hL:SubL fs tk T C) (hfit:∀ k,Fit N (J k)) (hfitK:∀ k,Fit N (K k)) (hJ0:J 0 F0 w) (hJc:∀ k F a,J k F a→a.cell? ⟨cb,18,none⟩=some (.pointer (some ⟨sb,0,none⟩))) (hKc:∀ k F a,K k F a→a.cell? ⟨cb,18,none⟩=some (.pointer (some ⟨sb,0,none⟩)))
 (hJ:∀ k (g:List UInt8×Int) a F,fs[k]?=some g→J k F a→Calls Tryz.prog 214 #[.pointer (some ⟨sb,0,none⟩),.agg #[.string (bs g.1),.int .i64 g.2]] a fun e a'=>e=.returned (.bool (tk k))∧Went (J (k+1)) F a a')
 (hW:∀ a F cv,J fs.length F a→a.ownsRow 0 3 1 cv (C fs.length).length (intK (C fs.length))→(∀ b,cv.ownBlock=some b→¬ F b)→Calls Tryz.prog 131 #[.pointer (some ⟨B,0,none⟩),.pointer (some ⟨cb,0,none⟩),.agg (pkK (subS p.id cv))] a fun e a'=>e=.returned (.tuple #[])∧Went (K 0) F a a')
 (hK:∀ k f a F,(T fs.length)[k]?=some f→K k F a→Calls Tryz.prog 215 #[.pointer (some ⟨B,0,none⟩),.pointer (some ⟨sb,0,none⟩),.agg #[.string (bs f.1),.int .i64 f.2]] a fun e a'=>e=.returned (.tuple #[])∧Went (K (k+1)) F a a') :
 Calls Tryz.prog 167 #[.pointer (some ⟨B,0,none⟩),.pointer (some ⟨cb,0,none⟩),.agg (pkK p)] w fun e w'=>e=.returned (.tuple #[])∧Went (K (T fs.length).length) F0 w w':=by
 obtain ⟨qf,kf,hfv⟩:=own_form hfs
 have HFS:=hide hfs
 have HFN:=hide hfn
 have HL:=hide hL
 have HFIT:=hide hfit
 have HFITK:=hide hfitK
 have HJ0:=hide hJ0
 have HF0:=hide ((hfit 0).lt F0 w hJ0)
 have HJC:=hide hJc
 have HKC:=hide hKc
 have HJ:=hide hJ
 have HW:=hide hW
 have HK:=hide hK
 have HFV:=hide hfv
 simp only [pkK,hfv,hcv,subS,zP] at HW ⊢
 clear hfs hL hfit hfitK hJ0 hJc hKc hJ hW hK hfv hcv hfn
 go_enter Tryz.func167,Tryz.ntmps167
 go_wp2_with fail
 have hA0:=(Below.refl w.heap.size w).alloc (Nat.le_refl _) (.cells #[.int .i64 p.kind,.bool p.clean,.bool p.will,.int .i64 p.keep,.string (bs p.client),.bool p.present,.int .i64 p.code,.bool p.dup,.int .i64 p.qos,.bool p.retain,.string (bs p.topic),.string (bs p.payload),.int .i64 p.id,.slice qf fs.length kf,.slice c1 c2 c3] 36)
 have hn0:=heap_alloc_new w (.cells #[.int .i64 p.kind,.bool p.clean,.bool p.will,.int .i64 p.keep,.string (bs p.client),.bool p.present,.int .i64 p.code,.bool p.dup,.int .i64 p.qos,.bool p.retain,.string (bs p.topic),.string (bs p.payload),.int .i64 p.id,.slice qf fs.length kf,.slice c1 c2 c3] 36)
 generalize w.alloc (.cells #[.int .i64 p.kind,.bool p.clean,.bool p.will,.int .i64 p.keep,.string (bs p.client),.bool p.present,.int .i64 p.code,.bool p.dup,.int .i64 p.qos,.bool p.retain,.string (bs p.topic),.string (bs p.payload),.int .i64 p.id,.slice qf fs.length kf,.slice c1 c2 c3] 36)=W0 at *
 have HN0:=hide hn0
 have HA0:=hide hA0
 have HL0:=hide (blk_lt hn0)
 have HN:=hide (Nat.le_trans hN hA0.size)
 clear hn0 hA0 hN
 obtain ⟨i0,hi0,hz0,hz1,hz2⟩:=info_parts infoFil
 obtain ⟨j0,hj0,hy0,hy1,hy2⟩:=info_parts infoInt8
 go_loopw [6,7,15] (fun tv cv i wx=>∃ k F,k≤fs.length∧i=.int .i64 ((k:Nat):Int)∧SubI (J k) F0 W0 wx tv cv (T k) (C k) F) (fun _ _ i _=>fs.length - (intOf i).toNat)
 case atStart=>exact ⟨0,F0,Nat.zero_le _,rfl,(HFIT.out 0).below HJ0.out HA0.out,But.refl _ _,fun _ h=>Or.inl h,by rw [HL.out.t0];exact ⟨rfl,Or.inl ⟨rfl,rfl⟩⟩,by rw [HL.out.c0];exact ⟨rfl,Or.inl ⟨rfl,rfl⟩⟩,(fun b hb=>by cases hb),(fun b hb=>by cases hb)⟩
 case round =>
  obtain ⟨k,F,hk,rfl,hS⟩:=hrel
  have HLT:=hide (HL.out.len k hk).1
  have HLC:=hide (HL.out.len k hk).2
  have hO:=own_keep HFS.out (fun b hb=>(hS.but.keep b (by obtain ⟨cur,hc⟩:=own_blk HFS.out hb;exact Nat.lt_of_lt_of_le (blk_lt hc) HA0.out.size) (HFN.out b hb)).trans (HA0.out.block b (by obtain ⟨cur,hc⟩:=own_blk HFS.out hb;exact blk_lt hc)))
  rw [HFV.out] at hO
  have hNb:=(hS.but.keep _ HL0.out (fun e=>by have:=HF0.out _ e;omega)).trans HN0.out
  have HNB:=hide hNb
  have cs:=HJC.out k _ wr hS.at_
  have hnl:=blk_lt hNb
  have hcl:=cell_blt cs
  simp only at hcl
  obtain ⟨qt,kt,rfl⟩:=own_form hS.tr
  obtain ⟨qc,kc,rfl⟩:=own_form hS.cr
  have HS:=hide hS
  clear hNb hS
  by_cases hltk:k < fs.length
  · obtain ⟨g,hg⟩:∃ g,fs[k]?=some g:=⟨_,List.getElem?_eq_getElem hltk⟩
    obtain ⟨gb,rfl,hgb,hkc,hcm,_⟩:=own_at hO (by omega)
    unfold maxLen at hcm
    obtain ⟨h0,h1⟩:=fil_cells (wr:=wr) hO hg rfl rfl
    have HGG:=hide hg
    clear hg hO
    go_wp2_with fail
    have hB1:=(Below.refl wr.heap.size wr).alloc (Nat.le_refl _) (.cells #[.string (bs g.1),.int .i64 g.2] 95)
    have hn1:=heap_alloc_new wr (.cells #[.string (bs g.1),.int .i64 g.2] 95)
    generalize wr.alloc (.cells #[.string (bs g.1),.int .i64 g.2] 95)=W1 at *
    have f0:W1.cell? ⟨wr.heap.size,0,none⟩=some (.string (bs g.1)):=blk_cell hn1 rfl
    have f1:W1.cell? ⟨wr.heap.size,1,none⟩=some (.int .i64 g.2):=blk_cell hn1 rfl
    have f18:W1.cell? ⟨cb,18,none⟩=some (.pointer (some ⟨sb,0,none⟩)):=(hB1.cell (p:=⟨cb,18,none⟩) hcl).trans cs
    have hlw:=blk_lt hn1
    have hS1:=HS.out.below (HFIT.out k) hB1.drew
    have HS1:=hide hS1
    have HF1:=hide (fun e=>Nat.lt_irrefl _ ((HFIT.out k).lt _ _ HS.out.at_ wr.heap.size e))
    have HN1:=hide hn1
    have cT:=hide (HJ.out k g W1.drew F HGG.out hS1.at_)
    clear hB1 hn1 cs hS1 h0 h1
    cases htk:tk k with
    | true =>
      obtain ⟨eT,eC⟩:=HL.out.yes k g HGG.out htk
      have HET:=hide eT
      have HEC:=hide eC
      rw [htk] at cT
      clear htk eT eC
      go_region_held3 (fun w'=>w'.cell? ⟨cb,18,none⟩=some (.pointer (some ⟨sb,0,none⟩))∧w'.cell? ⟨wr.heap.size,0,none⟩=some (.string (bs g.1))∧w'.cell? ⟨wr.heap.size,1,none⟩=some (.int .i64 g.2))
       (go_keep)
       (first
        | (go_at_call 214
           refine cT.out.mono ?_
           rintro e w1 ⟨rfl,hWt⟩
           have hn2:w1.heap[wr.heap.size]?=some (.cells #[.string (bs g.1),.int .i64 g.2] 95):=(hWt.kept hlw HF1.out).trans HN1.out
           obtain ⟨F2,hS2⟩:=HS1.out.went hWt
           have k18:=HJC.out _ _ _ hS2.at_
           have k0:w1.cell? ⟨wr.heap.size,0,none⟩=some (.string (bs g.1)):=blk_cell hn2 rfl
           have k1:w1.cell? ⟨wr.heap.size,1,none⟩=some (.int .i64 g.2):=blk_cell hn2 rfl
           have HS2:=hide hS2
           have hl2:=blk_lt hn2
           have hn2':=hide hn2
           clear hWt hn2 hS2))
      all_goals
       have HT2:=hide HS2.out.tr
       go_wp2_with (first
        | (at_builtin;refine wpList_append_own_at _ rfl _ _ 33 rfl W0.heap.size 95 i0 (.agg #[.string ByteArray.empty,.int .i64 0]) 2 24 Tryz.underlying33 hi0 hz0 hz1 hz2 rfl (by decide) (.slice qt (T k).length kt) (T k).length (filK (T k)) rfl (HT2.out.alloc _) ⟨w1.heap.size,0,none⟩ 1 1 [.string (bs g.1),.int .i64 g.2] rfl rfl (news_new _ _ _) ?c2 ?c3 ?c4 ?c5 ?_))
      case c2=>intro u hu;simp at hu;rcases hu with rfl | rfl<;>rfl
      case c3=>have:=HLT.out;unfold maxLen;omega
      case c4=>have:=HLT.out;omega
      case c5=>have:=HS2.out.but.size;simp;omega
      intro v2 w2 hown2 hgrow2 _ hloc2
      have hS3:=(HS2.out.laid (HFIT.out (k+1)) (.cells #[.string (bs g.1),.int .i64 g.2] 95)).addT (HFIT.out (k+1)) HN.out hgrow2 hown2 (by simpa using hloc2)
      have hn3:w2.heap[wr.heap.size]?=some (.cells #[.string (bs g.1),.int .i64 g.2] 95):=(hgrow2.block _ (by simp;omega) (fun e=>by
       obtain ⟨cur,hc⟩:=own_blk HT2.out e.symm
       have:=(own_zero HT2.out).2 _ e.symm
       have h9:=HS.out.tr
       obtain ⟨cur9,hc9⟩:=own_blk h9 (b:=wr.heap.size) (by exact e.symm)
       have:=blk_lt hc9
       omega)).trans ((Below.heap_alloc _ _ _ hl2).trans hn2'.out)
      have k1':w2.cell? ⟨wr.heap.size,1,none⟩=some (.int .i64 g.2):=blk_cell hn3 rfl
      obtain ⟨q2,kp2,rfl⟩:=own_form hown2
      have HS3:=hide hS3
      have HC3:=hide hS3.cr
      have hl3:=blk_lt hn3
      clear hown2 hgrow2 hloc2 hS3 hn3 k0 k1 k18
      go_wp2_with (first
       | (at_builtin;refine wpList_append_own_at _ rfl _ _ 34 rfl W0.heap.size 3 j0 (.int .i64 0) 1 8 Tryz.underlying34 hj0 hy0 hy1 hy2 rfl (by decide) (.slice qc (C k).length kc) (C k).length (intK (C k)) rfl (HC3.out.alloc _) ⟨w2.heap.size,0,none⟩ 1 1 [.int .i64 g.2] rfl rfl (cell_one_new _ _ _) ?d2 ?d3 ?d4 ?d5 ?_))
      case d2=>intro u hu;simp at hu;subst hu;rfl
      case d3=>have:=HLC.out;unfold maxLen;omega
      case d4=>have:=HLC.out;omega
      case d5=>have:=HS3.out.but.size;simp;omega
      intro v3 w3 hown3 hgrow3 _ hloc3
      have hS4:=(HS3.out.laid (HFIT.out (k+1)) (.cells #[.int .i64 g.2] 3)).addC (HFIT.out (k+1)) HN.out hgrow3 hown3 (by simpa using hloc3)
      rw [← HET.out,← HEC.out] at hS4
      have HS4:=hide hS4
      clear hown3 hgrow3 hloc3 hS4 k1'
      go_wp2_with fail
      exact ⟨⟨k+1,_,by omega,by go_num,HS4.out⟩,by simp [intOf];omega⟩
    | false =>
      obtain ⟨eT,eC⟩:=HL.out.no k g HGG.out htk
      have HET:=hide eT
      have HEC:=hide eC
      rw [htk] at cT
      clear htk eT eC
      go_region_held3 (fun w'=>w'.cell? ⟨cb,18,none⟩=some (.pointer (some ⟨sb,0,none⟩))∧w'.cell? ⟨wr.heap.size,0,none⟩=some (.string (bs g.1))∧w'.cell? ⟨wr.heap.size,1,none⟩=some (.int .i64 g.2))
       (go_keep)
       (first
        | (go_at_call 214
           refine cT.out.mono ?_
           rintro e w1 ⟨rfl,hWt⟩
           have hn2:w1.heap[wr.heap.size]?=some (.cells #[.string (bs g.1),.int .i64 g.2] 95):=(hWt.kept hlw HF1.out).trans HN1.out
           obtain ⟨F2,hS2⟩:=HS1.out.went hWt
           have k18:=HJC.out _ _ _ hS2.at_
           have k0:w1.cell? ⟨wr.heap.size,0,none⟩=some (.string (bs g.1)):=blk_cell hn2 rfl
           have k1:w1.cell? ⟨wr.heap.size,1,none⟩=some (.int .i64 g.2):=blk_cell hn2 rfl
           have HS2:=hide hS2
           have hl2:=blk_lt hn2
           have hn2':=hide hn2
           clear hWt hn2 hS2))
      all_goals
       have HC2:=hide HS2.out.cr
       go_wp2_with (first
        | (at_builtin;refine wpList_append_own_at _ rfl _ _ 34 rfl W0.heap.size 3 j0 (.int .i64 0) 1 8 Tryz.underlying34 hj0 hy0 hy1 hy2 rfl (by decide) (.slice qc (C k).length kc) (C k).length (intK (C k)) rfl (HC2.out.alloc _) ⟨w1.heap.size,0,none⟩ 1 1 [.int .i64 128] rfl rfl (cell_one_new _ _ _) ?d2 ?d3 ?d4 ?d5 ?_))
      case d2=>intro u hu;simp at hu;subst hu;rfl
      case d3=>have:=HLC.out;unfold maxLen;omega
      case d4=>have:=HLC.out;omega
      case d5=>have:=HS2.out.but.size;simp;omega
      intro v3 w3 hown3 hgrow3 _ hloc3
      have hS4:=(HS2.out.laid (HFIT.out (k+1)) (.cells #[.int .i64 128] 3)).addC (HFIT.out (k+1)) HN.out hgrow3 hown3 (by simpa using hloc3)
      have HS4:Hid (SubI (J (k+1)) F0 W0 w3 (.slice qt (T k).length kt) v3 (T (k+1)) (C (k+1)) F2):=by rw [HET.out,HEC.out];exact hS4
      clear hown3 hgrow3 hloc3 hS4
      go_wp2_with fail
      exact ⟨⟨k+1,_,by omega,by go_num,HS4.out⟩,by simp [intOf];omega⟩
  · have hkl:k=fs.length:=by omega
    subst hkl
    have d12:wr.cell? ⟨w.heap.size,12,none⟩=some (.int .i64 p.id):=blk_cell HNB.out rfl
    clear hO cs
    have cW:=hide (HW.out wr F (.slice qc (C fs.length).length kc) HS.out.at_ (own_zero HS.out.cr).1 HS.out.cn)
    go_wp2_with fail
    refine cW.out.mono ?_
    rintro e w4 ⟨rfl,hWt⟩
    obtain ⟨F4,hS4⟩:=HS.out.went hWt
    have HS4:=hide hS4
    have HT4:=hide hS4.tr
    have HW4:Hid (Went (K 0) F4 w4 w4):=Went.refl hS4.at_
    clear hWt hS4 d12 cW
    go_wp2_with fail
    go_loopw [47] (fun i wx=>∃ k:Nat,k≤(T fs.length).length∧i=.int .i64 k∧Went (K k) F4 w4 wx) (fun i _=>(T fs.length).length - (intOf i).toNat)
    case atStart=>exact ⟨0,Nat.zero_le _,rfl,HW4.out⟩
    case round =>
     obtain ⟨k,hk,rfl,hKk⟩:=hrel
     have hO5:=own_keep HT4.out (fun b hb=>hKk.kept (by obtain ⟨cur,hc⟩:=own_blk HT4.out hb;exact blk_lt hc) (HS4.out.tn b hb))
     have hO5:=(own_zero hO5).1
     obtain ⟨F5,hK5,hb5,hF5⟩:=hKk
     have HK5:=hide hK5
     have HB5:Hid (But F4 w4 wr∧∀ b,F5 b→F4 b∨w4.heap.size≤b):=⟨hb5,hF5⟩
     have cs:=HKC.out k _ wr hK5
     have hcl5:=cell_blt cs
     simp only at hcl5
     clear hK5 hb5 hF5
     by_cases hltk:k < (T fs.length).length
     · obtain ⟨g,hg⟩:∃ g,(T fs.length)[k]?=some g:=⟨_,List.getElem?_eq_getElem hltk⟩
       obtain ⟨gb,rfl,hgb,hkc,hcm,_⟩:=own_at hO5 (by omega)
       unfold maxLen at hcm
       obtain ⟨h0,h1⟩:=fil_cells (wr:=wr) hO5 hg rfl rfl
       have HGG:=hide hg
       clear hg hO5
       go_wp2_with fail
       have hB1:=(Below.refl wr.heap.size wr).alloc (Nat.le_refl _) (.cells #[.string (bs g.1),.int .i64 g.2] 95)
       have hn1:=heap_alloc_new wr (.cells #[.string (bs g.1),.int .i64 g.2] 95)
       generalize wr.alloc (.cells #[.string (bs g.1),.int .i64 g.2] 95)=W5 at *
       have f0:W5.cell? ⟨wr.heap.size,0,none⟩=some (.string (bs g.1)):=blk_cell hn1 rfl
       have f1:W5.cell? ⟨wr.heap.size,1,none⟩=some (.int .i64 g.2):=blk_cell hn1 rfl
       have f18:W5.cell? ⟨cb,18,none⟩=some (.pointer (some ⟨sb,0,none⟩)):=(hB1.cell (p:=⟨cb,18,none⟩) hcl5).trans cs
       have HS5:=hide ((HFITK.out k).below HK5.out hB1.drew)
       have HF1:=hide (fun e=>Nat.lt_irrefl _ ((HFITK.out k).lt _ _ HK5.out wr.heap.size e))
       have hlw:=blk_lt hn1
       have HN1:=hide hn1
       have HBD:=hide hB1.drew
       have cT:=hide (HK.out k g W5.drew F5 HGG.out HS5.out)
       clear hB1 hn1 cs h0 h1
       go_region_held3 (fun w'=>w'.cell? ⟨cb,18,none⟩=some (.pointer (some ⟨sb,0,none⟩))∧w'.cell? ⟨wr.heap.size,0,none⟩=some (.string (bs g.1))∧w'.cell? ⟨wr.heap.size,1,none⟩=some (.int .i64 g.2))
        (go_keep)
        (first
         | (go_at_call 215
            refine cT.out.mono ?_
            rintro e w6 ⟨rfl,hWt⟩
            have hn2:w6.heap[wr.heap.size]?=some (.cells #[.string (bs g.1),.int .i64 g.2] 95):=(hWt.kept hlw HF1.out).trans HN1.out
            have k18:=HKC.out (k+1) hWt.choose w6 hWt.choose_spec.1
            have k0:w6.cell? ⟨wr.heap.size,0,none⟩=some (.string (bs g.1)):=blk_cell hn2 rfl
            have k1:w6.cell? ⟨wr.heap.size,1,none⟩=some (.int .i64 g.2):=blk_cell hn2 rfl
            have HWT:=hide (Went.step HB5.out.1 HB5.out.2 (hWt.after HBD.out))
            clear hWt hn2))
       all_goals
        go_wp2_with fail
       exact ⟨⟨k+1,by omega,by go_num,HWT.out⟩,by simp [intOf];omega⟩
     · have hkl:k=(T fs.length).length:=by omega
       subst hkl
       have HWT:=hide (Went.step HS4.out.but HS4.out.new ⟨F5,HK5.out,HB5.out⟩)
       go_wp2
       go_end0
       exact ⟨rfl,HWT.out.after HA0.out⟩
end br
end Go.Proofs.YtnmfmoimjkoieaaGreatDoor
