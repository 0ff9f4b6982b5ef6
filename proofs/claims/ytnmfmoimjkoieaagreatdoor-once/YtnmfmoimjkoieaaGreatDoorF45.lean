import Derived.Test.YtnmfmoimjkoieaaGreatDoorF01
import Derived.Test.YtnmfmoimjkoieaaGreatDoorF43
namespace Go.Proofs.YtnmfmoimjkoieaaGreatDoor
namespace kp
open Go.RowKit topPlain topWalks decPlain br
open rd (ints)
set_option maxHeartbeats 3200000 in
set_option maxRecDepth 100000 in
theorem ack_one2 (b lb:Nat) (V:StgV) (T Sn:List Int) (O:List Pkt) (n:Int) (w:World) (R:World→Prop) (h:StgAt w b V T O Sn) (hlb:V.lb=lb) (hp0:0 < O.length) (hO:O.length≤1000) (hqs:∀ p,O[pickN n O.length]?=some p→p.qos≠1) (hn1:-9223372036854775808≤n) (hn2:n≤9223372036854775807)
 (hid:∀ (r:Nat) p,O[r]?=some p→idx (fun q=>q.id == p.id) O=(r:Int))
 (hS2:∀ p,O[pickN n O.length]?=some p→p.qos≠1→∀ w',Below w.heap.size w w'→Calls Tryz.prog 50 #[.pointer (some ⟨lb,0,none⟩),.int .i64 0,.agg (pkK (ackK 5 p.id))] w' fun e w''=>e=.returned (.tuple #[])∧StgAt w'' b V T O Sn∧¬ V.has b lb∧(∀ k,w.heap.size≤k→k < w'.heap.size→w''.heap[k]?=w'.heap[k]?)∧w'.heap.size≤w''.heap.size∧lb < w.heap.size∧(∃ g cap V',HeardK w'' lb 0 g cap V' 6 p.id) ∧
   ∀ w3 v',StgAt w3 b { V with pv:=v' } T (O.eraseIdx (pickN n O.length)) Sn→But (fun g=>g=b) (w''.setCell ⟨lb,1,none⟩ (.slice none 0 0)) w3→(∀ g,v'.ownBlock=some g→w''.heap.size≤g)→Calls Tryz.prog 50 #[.pointer (some ⟨lb,0,none⟩),.int .i64 0,.agg (pkK (ackK 7 p.id))] w3 fun e w4=>e=.returned (.tuple #[])∧(∀ k,w.heap.size≤k→k < w'.heap.size→w4.heap[k]?=w3.heap[k]?)∧∃ q m c V',SeesOk b lb R w4 q m c V') :
 Calls Tryz.prog 28 #[.pointer (some ⟨b,0,none⟩),.int .i64 n] w fun e w'=>e=.returned (.bool true)∧R w':=by
 subst hlb
 obtain ⟨q,kap,hq⟩:=own_form h.opn
 have c3:w.cell? ⟨b,3,none⟩=some (.slice q O.length kap):=by rw [blk_cell h.blk (i:=3) (v:=V.pv) rfl,hq]
 have hop:=h.opn
 rw [hq] at hop
 obtain ⟨g,rfl,hg,hkc,hcm,_⟩:=own_at hop hp0
 have HT:=hide h
 have HS2:=hide hS2
 have HQS:=hide hqs
 have HI:=hide hid
 have HQ:=hide hq
 have hbl:=blk_lt h.blk
 have hg0:((O.length:Int) == 0)=false:=by rw [beq_eq_false_iff_ne];omega
 have cP:=hide (fun w'=>pick_is n O.length w' hp0 hn1 hn2 (by clear hkc hcm;omega))
 unfold maxLen at hcm
 have hr:pickN n O.length < O.length:=pickN_lt n hp0
 clear hid hqs
 generalize pickN n O.length=r at *
 obtain ⟨u,hu⟩:∃ u,O[r]?=some u:=⟨_,List.getElem?_eq_getElem hr⟩
 obtain ⟨⟨f1,f2,f3',hfv⟩,⟨c1,c2,c3',hcv⟩⟩:=h.shp u (List.mem_of_getElem? hu)
 have h0:w.cell? ⟨g,r*15,none⟩=some (.int .i64 u.kind):=pk_cell (wr:=w) hop hu rfl rfl 0 (by omega) (by rfl)
 have h1:w.cell? ⟨g,r*15+1,none⟩=some (.bool u.clean):=pk_cell (wr:=w) hop hu rfl rfl 1 (by omega) (by rfl)
 have h2:w.cell? ⟨g,r*15+2,none⟩=some (.bool u.will):=pk_cell (wr:=w) hop hu rfl rfl 2 (by omega) (by rfl)
 have h3:w.cell? ⟨g,r*15+3,none⟩=some (.int .i64 u.keep):=pk_cell (wr:=w) hop hu rfl rfl 3 (by omega) (by rfl)
 have h4:w.cell? ⟨g,r*15+4,none⟩=some (.string (bs u.client)):=pk_cell (wr:=w) hop hu rfl rfl 4 (by omega) (by rfl)
 have h5:w.cell? ⟨g,r*15+5,none⟩=some (.bool u.present):=pk_cell (wr:=w) hop hu rfl rfl 5 (by omega) (by rfl)
 have h6:w.cell? ⟨g,r*15+6,none⟩=some (.int .i64 u.code):=pk_cell (wr:=w) hop hu rfl rfl 6 (by omega) (by rfl)
 have h7:w.cell? ⟨g,r*15+7,none⟩=some (.bool u.dup):=pk_cell (wr:=w) hop hu rfl rfl 7 (by omega) (by rfl)
 have h8:w.cell? ⟨g,r*15+8,none⟩=some (.int .i64 u.qos):=pk_cell (wr:=w) hop hu rfl rfl 8 (by omega) (by rfl)
 have h9:w.cell? ⟨g,r*15+9,none⟩=some (.bool u.retain):=pk_cell (wr:=w) hop hu rfl rfl 9 (by omega) (by rfl)
 have h10:w.cell? ⟨g,r*15+10,none⟩=some (.string (bs u.topic)):=pk_cell (wr:=w) hop hu rfl rfl 10 (by omega) (by rfl)
 have h11:w.cell? ⟨g,r*15+11,none⟩=some (.string (bs u.payload)):=pk_cell (wr:=w) hop hu rfl rfl 11 (by omega) (by rfl)
 have h12:w.cell? ⟨g,r*15+12,none⟩=some (.int .i64 u.id):=pk_cell (wr:=w) hop hu rfl rfl 12 (by omega) (by rfl)
 have h13:w.cell? ⟨g,r*15+13,none⟩=some (.slice f1 f2 f3'):=pk_cell (wr:=w) hop hu rfl rfl 13 (by omega) (by show some u.fv=_;rw [hfv])
 have h14:w.cell? ⟨g,r*15+14,none⟩=some (.slice c1 c2 c3'):=pk_cell (wr:=w) hop hu rfl rfl 14 (by omega) (by show some u.cv=_;rw [hcv])
 have HU:=hide hu
 have hbn:b≠w.heap.size:=Nat.ne_of_lt hbl
 have hgn:g≠w.heap.size:=Nat.ne_of_lt hg
 have hbn':w.heap.size≠b:=fun e=>hbn e.symm
 have hgn':w.heap.size≠g:=fun e=>hgn e.symm
 clear h hS2 hq hop hu hfv hcv
 go_enter Tryz.func28,Tryz.ntmps28
 go_wp2_with fail
 go_region_held3 (fun w'=>w'.cell? ⟨b,3,none⟩=some (.slice (some ⟨g,0,none⟩) O.length kap)∧w'.cell? ⟨g,r*15,none⟩=some (.int .i64 u.kind)∧w'.cell? ⟨g,r*15+1,none⟩=some (.bool u.clean)∧w'.cell? ⟨g,r*15+2,none⟩=some (.bool u.will)∧w'.cell? ⟨g,r*15+3,none⟩=some (.int .i64 u.keep)∧w'.cell? ⟨g,r*15+4,none⟩=some (.string (bs u.client))∧w'.cell? ⟨g,r*15+5,none⟩=some (.bool u.present)∧w'.cell? ⟨g,r*15+6,none⟩=some (.int .i64 u.code)∧w'.cell? ⟨g,r*15+7,none⟩=some (.bool u.dup)∧w'.cell? ⟨g,r*15+8,none⟩=some (.int .i64 u.qos)∧w'.cell? ⟨g,r*15+9,none⟩=some (.bool u.retain)∧w'.cell? ⟨g,r*15+10,none⟩=some (.string (bs u.topic))∧w'.cell? ⟨g,r*15+11,none⟩=some (.string (bs u.payload))∧w'.cell? ⟨g,r*15+12,none⟩=some (.int .i64 u.id)∧w'.cell? ⟨g,r*15+13,none⟩=some (.slice f1 f2 f3')∧w'.cell? ⟨g,r*15+14,none⟩=some (.slice c1 c2 c3'))
  (go_keep)
  (first
   | (go_at_call 21
      refine (cP.out _).mono ?_
      rintro e w1 ⟨rfl,hB1'⟩
      first
       | (have hB1:Below w.heap.size w w1:=((Below.refl w.heap.size w).drew).trans hB1')
       | (have hB1:Below w.heap.size w w1:=(((Below.refl w.heap.size w).drew).alloc (Nat.le_refl _) _).trans (hB1'.mono (by simp))
          have hz:w1.heap[w.heap.size]?=some (.cells #[.int .i64 0,.bool false,.bool false,.int .i64 0,.string ⟨#[]⟩,.bool false,.int .i64 0,.bool false,.int .i64 0,.bool false,.string ⟨#[]⟩,.string ⟨#[]⟩,.int .i64 0,.slice none 0 0,.slice none 0 0] 36):=(hB1'.block _ (by simp)).trans (heap_alloc_new _ _)
          obtain ⟨e0,e1,e2,e3,e4,e5,e6,e7,e8,e9,e10,e11,e12,e13,e14⟩:=cells15 hz
          have hzf:∀ i,w1.frozen? ⟨w.heap.size,i,none⟩=false:=fun i=>blk_frozen hz)
      have c31:w1.cell? ⟨b,3,none⟩=some (.slice (some ⟨g,0,none⟩) O.length kap):=by rw [hB1.cell hbl];exact c3
      have hb1:b < w1.heap.size:=Nat.lt_of_lt_of_le hbl hB1.size
      have hg1:g < w1.heap.size:=Nat.lt_of_lt_of_le hg hB1.size
      have g0:w1.cell? ⟨g,r*15,none⟩=_:=(hB1.cell hg).trans h0
      have g1:w1.cell? ⟨g,r*15+1,none⟩=_:=(hB1.cell hg).trans h1
      have g2:w1.cell? ⟨g,r*15+2,none⟩=_:=(hB1.cell hg).trans h2
      have g3:w1.cell? ⟨g,r*15+3,none⟩=_:=(hB1.cell hg).trans h3
      have g4:w1.cell? ⟨g,r*15+4,none⟩=_:=(hB1.cell hg).trans h4
      have g5:w1.cell? ⟨g,r*15+5,none⟩=_:=(hB1.cell hg).trans h5
      have g6:w1.cell? ⟨g,r*15+6,none⟩=_:=(hB1.cell hg).trans h6
      have g7:w1.cell? ⟨g,r*15+7,none⟩=_:=(hB1.cell hg).trans h7
      have g8:w1.cell? ⟨g,r*15+8,none⟩=_:=(hB1.cell hg).trans h8
      have g9:w1.cell? ⟨g,r*15+9,none⟩=_:=(hB1.cell hg).trans h9
      have g10:w1.cell? ⟨g,r*15+10,none⟩=_:=(hB1.cell hg).trans h10
      have g11:w1.cell? ⟨g,r*15+11,none⟩=_:=(hB1.cell hg).trans h11
      have g12:w1.cell? ⟨g,r*15+12,none⟩=_:=(hB1.cell hg).trans h12
      have g13:w1.cell? ⟨g,r*15+13,none⟩=_:=(hB1.cell hg).trans h13
      have g14:w1.cell? ⟨g,r*15+14,none⟩=_:=(hB1.cell hg).trans h14
      have HB1:=hide hB1
      clear hB1 hB1'))
 focus
  obtain ⟨W2,hW2⟩:∃ W2,W2=w1.alloc (.cells #[.int .i64 u.kind,.bool u.clean,.bool u.will,.int .i64 u.keep,.string (bs u.client),.bool u.present,.int .i64 u.code,.bool u.dup,.int .i64 u.qos,.bool u.retain,.string (bs u.topic),.string (bs u.payload),.int .i64 u.id,.slice f1 f2 f3',.slice c1 c2 c3'] 36):=⟨_,rfl⟩
  have hn2:W2.heap[w1.heap.size]?=some (.cells #[.int .i64 u.kind,.bool u.clean,.bool u.will,.int .i64 u.keep,.string (bs u.client),.bool u.present,.int .i64 u.code,.bool u.dup,.int .i64 u.qos,.bool u.retain,.string (bs u.topic),.string (bs u.payload),.int .i64 u.id,.slice f1 f2 f3',.slice c1 c2 c3'] 36):=by rw [hW2];exact heap_alloc_new _ _
  have d8:W2.cell? ⟨w1.heap.size,8,none⟩=some (.int .i64 u.qos):=blk_cell hn2 rfl
  have d12:W2.cell? ⟨w1.heap.size,12,none⟩=some (.int .i64 u.id):=blk_cell hn2 rfl
  clear hn2
  have hB2:Below w.heap.size w W2:=by rw [hW2];exact HB1.out.alloc HB1.out.size _
  rw [← hW2]
  have hkg:w.heap.size≤w1.heap.size:=HB1.out.size
  clear hW2 HB1
  clear h0 g0 h1 g1 h2 g2 h3 g3 h4 g4 h5 g5 h6 g6 h7 g7 h8 g8 h9 g9 h10 g10 h11 g11 h12 g12 h13 g13 h14 g14 c31 hb1 hg1
  have HB2:=hide hB2
  have hkl:=cell_blt d8
  simp only at hkl
  have hbk:b≠w1.heap.size:=by omega
  clear hB2 c3
  obtain ⟨K0,hK0⟩:∃ K,K=w1.heap.size:=⟨_,rfl⟩
  rw [← hK0] at d8 d12 hkl hbk ⊢
  replace hkg:w.heap.size≤K0:=by omega
  clear hK0
 rotate_left
 focus
  obtain ⟨W2,hW2⟩:∃ W2,W2=(((((((((((((((w1.setCell ⟨w.heap.size,0,none⟩ (.int .i64 u.kind)).setCell ⟨w.heap.size,1,none⟩ (.bool u.clean)).setCell ⟨w.heap.size,2,none⟩ (.bool u.will)).setCell ⟨w.heap.size,3,none⟩ (.int .i64 u.keep)).setCell ⟨w.heap.size,4,none⟩ (.string (bs u.client))).setCell ⟨w.heap.size,5,none⟩ (.bool u.present)).setCell ⟨w.heap.size,6,none⟩ (.int .i64 u.code)).setCell ⟨w.heap.size,7,none⟩ (.bool u.dup)).setCell ⟨w.heap.size,8,none⟩ (.int .i64 u.qos)).setCell ⟨w.heap.size,9,none⟩ (.bool u.retain)).setCell ⟨w.heap.size,10,none⟩ (.string (bs u.topic))).setCell ⟨w.heap.size,11,none⟩ (.string (bs u.payload))).setCell ⟨w.heap.size,12,none⟩ (.int .i64 u.id)).setCell ⟨w.heap.size,13,none⟩ (.slice f1 f2 f3')).setCell ⟨w.heap.size,14,none⟩ (.slice c1 c2 c3')):=⟨_,rfl⟩
  have d8:W2.cell? ⟨w.heap.size,8,none⟩=some (.int .i64 u.qos):=by rw [hW2];exact (so (by decide) (so (by decide) (so (by decide) (so (by decide) (so (by decide) (so (by decide) (ss (so (by decide) (so (by decide) (so (by decide) (so (by decide) (so (by decide) (so (by decide) (so (by decide) (so (by decide) e8)))))))))))))))
  have d12:W2.cell? ⟨w.heap.size,12,none⟩=some (.int .i64 u.id):=by rw [hW2];exact (so (by decide) (so (by decide) (ss (so (by decide) (so (by decide) (so (by decide) (so (by decide) (so (by decide) (so (by decide) (so (by decide) (so (by decide) (so (by decide) (so (by decide) (so (by decide) (so (by decide) e12)))))))))))))))
  have hB2:Below w.heap.size w W2:=by rw [hW2];exact (((((((((((((((HB1.out.setCell (Nat.le_refl _) _).setCell (Nat.le_refl _) _).setCell (Nat.le_refl _) _).setCell (Nat.le_refl _) _).setCell (Nat.le_refl _) _).setCell (Nat.le_refl _) _).setCell (Nat.le_refl _) _).setCell (Nat.le_refl _) _).setCell (Nat.le_refl _) _).setCell (Nat.le_refl _) _).setCell (Nat.le_refl _) _).setCell (Nat.le_refl _) _).setCell (Nat.le_refl _) _).setCell (Nat.le_refl _) _).setCell (Nat.le_refl _) _)
  rw [← hW2]
  have hkg:w.heap.size≤w.heap.size:=Nat.le_refl _
  clear hW2 HB1 hzf hz
  clear h0 g0 h1 g1 h2 g2 h3 g3 h4 g4 h5 g5 h6 g6 h7 g7 h8 g8 h9 g9 h10 g10 h11 g11 h12 g12 h13 g13 h14 g14 c31 hb1 hg1
  clear e0 e1 e2 e3 e4 e5 e6 e7 e8 e9 e10 e11 e12 e13 e14
  have HB2:=hide hB2
  have hkl:=cell_blt d8
  simp only at hkl
  have hbk:b≠w.heap.size:=by omega
  clear hB2 c3
  obtain ⟨K0,hK0⟩:∃ K,K=w.heap.size:=⟨_,rfl⟩
  rw [← hK0] at d8 d12 hkl hbk ⊢
  replace hkg:w.heap.size≤K0:=by omega
  clear hK0
 rotate_left
 all_goals
  have hq1:=HQS.out u HU.out
  have hq2:(u.qos == 1)=false:=by simpa using hq1
  have c0:W2.cell? ⟨b,0,none⟩=some (.pointer (some ⟨V.lb,0,none⟩)):=blk_cell (HT.out.below HB2.out).blk rfl
  have cS:=hide (HS2.out u HU.out hq1 W2.drew HB2.out.drew)
  simp only [pkK,ackK,zP] at cS
  go_wp2_with fail
  go_region_held3 (fun w'=>w'.cell? ⟨b,0,none⟩=some (.pointer (some ⟨V.lb,0,none⟩))∧w'.cell? ⟨K0,12,none⟩=some (.int .i64 u.id))
   (go_keep)
   (first
    | (go_at_call 50
       refine cS.out.mono ?_
       rintro e w3 ⟨rfl,hT3,hbl3,hkp,hsz3,hll,⟨g3,cap3,V3,hH⟩,hN⟩
       have HT3:=hide hT3
       have HN:=hide hN
       have HH:=hide hH
       have k3:w3.cell? ⟨b,0,none⟩=some (.pointer (some ⟨V.lb,0,none⟩)):=blk_cell hT3.blk rfl
       have d3:w3.cell? ⟨K0,12,none⟩=some (.int .i64 u.id):=(World.cell?_of_block (w:=W2) (hkp _ hkg hkl)).trans d12
       have hkl3:K0 < w3.heap.size:=Nat.lt_of_lt_of_le hkl hsz3
       have hnl:K0≠V.lb:=by omega
       have cHd:=hide (heard_any V.lb 0 V3 w3 hH.line (by omega) ⟨_,_,_,hH.got⟩)
       rw [hH.got] at cHd
       clear hT3 hN hH hkp))
  all_goals
   clear d8 d12 c0 cS
   go_wp2_with fail
   refine cHd.out.mono ?_
   rintro e w4 ⟨rfl,hw4,hl4⟩
   have m0:w4.cell? ⟨g3,0,none⟩=some (.int .i64 6):=by
    rw [hw4,World.cell?_of_block (w:=w3) (Below.heap_setCell _ _ _ _ HH.out.ne)];exact HH.out.kind
   have m12:w4.cell? ⟨g3,12,none⟩=some (.int .i64 u.id):=by
    rw [hw4,World.cell?_of_block (w:=w3) (Below.heap_setCell _ _ _ _ HH.out.ne)];exact HH.out.id
   have d4:w4.cell? ⟨K0,12,none⟩=some (.int .i64 u.id):=by
    rw [hw4,World.cell?_of_block (w:=w3) (Below.heap_setCell _ _ _ _ hnl)];exact d3
   have hcap1:=HH.out.cap1
   have hcapm:cap3≤9223372036854775807:=by have:=HH.out.capm;unfold maxLen at this;omega
   have HT4:Hid (StgAt w4 b V T O Sn):=by
    rw [hw4]
    exact HT3.out.keep (fun g hg=>Below.heap_setCell _ _ _ _ (fun e=>by have e':g=V.lb:=e;rw [e'] at hg;exact hbl3 hg))
   have hw4':w4=w3.setCell ⟨V.lb,1,none⟩ (.slice none 0 0):=hw4
   have HW4:=hide hw4'
   have hsz43:w3.heap.size≤w4.heap.size:=by rw [hw4'];exact (But.set (F:=fun _=>True) _ _ _ trivial).size
   clear hw4 hw4' hl4 cHd d3 k3
   have k4:w4.cell? ⟨b,0,none⟩=some (.pointer (some ⟨V.lb,0,none⟩)):=blk_cell HT4.out.blk rfl
   have hkl4:=cell_blt d4
   simp only at hkl4
   have cF:=hide fun w' (hb:Below w4.heap.size w4 w')=>find_any b V.pv O u.id w' (by have:=blk_cell (i:=3) (HT4.out.below hb).blk rfl;exact this) (HT4.out.below hb).opn
   rw [HI.out r u HU.out] at cF
   have cX:Hid (∀ w5,Below w4.heap.size w4 w5→Calls Tryz.prog 67 #[.pointer (some ⟨b,1,none⟩),.int .i64 (r:Int)] w5 fun e w6=>e=.returned (.tuple #[])∧∃ v',StgAt w6 b { V with pv:=v' } T (O.eraseIdx r) Sn∧But (fun g=>g=b) (w3.setCell ⟨V.lb,1,none⟩ (.slice none 0 0)) w6∧w6.cell? ⟨K0,12,none⟩=some (.int .i64 u.id)∧∀ g,v'.ownBlock=some g→w3.heap.size≤g):=by
    intro w5 hB5
    refine (shut_stg b r V T Sn O w5 (HT4.out.below hB5) hO hr).mono ?_
    rintro e w6 ⟨rfl,v',hT6,hb6,hfr⟩
    have hx:But (fun g=>g=b) w4 w6:=(But.of_below hB5).trans hb6 (fun _ _ f=>f)
    rw [HW4.out] at hx
    exact ⟨rfl,v',hT6,hx,hb6.cell (a:=⟨K0,12,none⟩) (fun e=>hbk e.symm) ((hB5.cell (p:=⟨K0,12,none⟩) hkl4).trans d4),fun g hg=>Nat.le_trans (Nat.le_trans hsz43 hB5.size) (hfr g hg)⟩
   go_wp2_with fail
   go_region
   all_goals
    clear m0 m12
    go_wp2_with fail
    go_region_with (first
     | (go_at_call 66
        refine (cF.out _ (Below.refl w4.heap.size w4).drew.drew).mono ?_
        rintro e w5 ⟨rfl,hB5⟩
        have HB5:=hide ((Below.refl w4.heap.size w4).drew.drew.trans hB5)
        clear hB5)
     | (go_at_call 67
        refine (cX.out _ HB5.out).mono ?_
        rintro e w6 ⟨rfl,v',hT6,hb6,d6,hfr⟩
        have HT6:=hide hT6
        have HBt:=hide hb6
        have k6:w6.cell? ⟨b,0,none⟩=some (.pointer (some ⟨V.lb,0,none⟩)):=blk_cell HT6.out.blk rfl
        have cS:=hide (HN.out w6.drew v' (HT6.out.keep (fun _ _=>rfl)) (HBt.out.trans (But.of_below (Below.refl _ _).drew) (fun _ _ f=>f)) hfr)
        clear hT6 hb6 hfr))
    all_goals
     clear cF cX d4 k4 HB5
     go_wp2_with fail
     go_region_held3 (fun w'=>w'.cell? ⟨b,0,none⟩=some (.pointer (some ⟨V.lb,0,none⟩))∧w'.cell? ⟨K0,12,none⟩=some (.int .i64 u.id))
      (go_keep)
      (first
       | (go_at_call 50
          refine cS.out.mono ?_
          rintro e w7 ⟨rfl,hkp7,q7,m7,c7,V7,hSe⟩
          have HSe:=hide hSe
          have k7:w7.cell? ⟨b,0,none⟩=some (.pointer (some ⟨V.lb,0,none⟩)):=hSe.cell
          have d7:w7.cell? ⟨K0,12,none⟩=some (.int .i64 u.id):=(World.cell?_of_block (w:=w6.drew) (hkp7 _ hkg hkl)).trans d6
          have cHe:=hide (heard_any V.lb 0 V7 w7.drew hSe.line (by omega) ⟨_,_,_,hSe.got⟩)
          rw [hSe.got] at cHe
          clear hSe hkp7))
     all_goals
      clear d6 k6 cS d7
      go_wp2_with fail
      go_region_with (first
       | (go_at_call 51
          refine cHe.out.mono ?_
          rintro e w8 ⟨rfl,hw8,_⟩
          have hc8:=hide (HSe.out.see _ (Below.refl _ _).drew)
          rw [show w7.drew.setCell ⟨V.lb,1,none⟩ (.slice none 0 0)=w8 from hw8.symm] at hc8
          clear hw8)
       | (go_at_call 63
          refine hc8.out.mono ?_
          rintro e w9 ⟨rfl,hR9⟩
          have HR9:=hide hR9
          clear hR9))
      all_goals
       go_wp2_with fail
       go_ret
       exact ⟨rfl,HR9.out⟩
end kp
end Go.Proofs.YtnmfmoimjkoieaaGreatDoor
