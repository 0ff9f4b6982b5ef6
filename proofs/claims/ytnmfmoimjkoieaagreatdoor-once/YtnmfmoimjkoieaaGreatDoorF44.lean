import Derived.Test.YtnmfmoimjkoieaaGreatDoorF01
import Derived.Test.YtnmfmoimjkoieaaGreatDoorF43
namespace Go.Proofs.YtnmfmoimjkoieaaGreatDoor
namespace kp
open Go.RowKit topPlain topWalks decPlain br
open rd (ints)
set_option maxHeartbeats 3200000 in
set_option maxRecDepth 100000 in
theorem ack_one1 (b lb:Nat) (V:StgV) (T Sn:List Int) (O:List Pkt) (n:Int) (w:World) (R:World→Prop) (h:StgAt w b V T O Sn) (hlb:V.lb=lb) (hp0:0 < O.length) (hO:O.length≤1000) (hqs:∀ p,O[pickN n O.length]?=some p→p.qos=1) (hn1:-9223372036854775808≤n) (hn2:n≤9223372036854775807)
 (hid:∀ (r:Nat) p,O[r]?=some p→idx (fun q=>q.id == p.id) O=(r:Int))
 (hS1:∀ p,O[pickN n O.length]?=some p→p.qos=1→∀ w' v',StgAt w' b { V with pv:=v' } T (O.eraseIdx (pickN n O.length)) Sn→But (fun g=>g=b) w w'→(∀ g,v'.ownBlock=some g→w.heap.size≤g)→Calls Tryz.prog 50 #[.pointer (some ⟨lb,0,none⟩),.int .i64 0,.agg (pkK (ackK 4 p.id))] w' fun e w''=>e=.returned (.tuple #[])∧(∀ k,w.heap.size≤k→k < w'.heap.size→w''.heap[k]?=w'.heap[k]?)∧∃ q m c V',SeesOk b lb R w'' q m c V') :
 Calls Tryz.prog 28 #[.pointer (some ⟨b,0,none⟩),.int .i64 n] w fun e w'=>e=.returned (.bool true)∧R w':=by
 subst hlb
 obtain ⟨q,kap,hq⟩:=own_form h.opn
 have c3:w.cell? ⟨b,3,none⟩=some (.slice q O.length kap):=by rw [blk_cell h.blk (i:=3) (v:=V.pv) rfl,hq]
 have hop:=h.opn
 rw [hq] at hop
 obtain ⟨g,rfl,hg,hkc,hcm,_⟩:=own_at hop hp0
 have HT:=hide h
 have HS1:=hide hS1
 have HQS:=hide hqs
 have HI:=hide hid
 have HQ:=hide hq
 have hbl:=blk_lt h.blk
 have hg0:((O.length:Int) == 0)=false:=by rw [beq_eq_false_iff_ne];omega
 have cP:=hide (fun w'=>pick_is n O.length w' hp0 hn1 hn2 (by clear hkc hcm;omega))
 unfold maxLen at hcm
 have hr:pickN n O.length < O.length:=pickN_lt n hp0
 clear hid hqs
 generalize pickN n O.length=r at *
 obtain ⟨u,hu⟩:∃ u,O[r]?=some u:=⟨_,List.getElem?_eq_getElem hr⟩
 obtain ⟨⟨f1,f2,f3',hfv⟩,⟨c1,c2,c3',hcv⟩⟩:=h.shp u (List.mem_of_getElem? hu)
 have h0:w.cell? ⟨g,r*15,none⟩=some (.int .i64 u.kind):=pk_cell (wr:=w) hop hu rfl rfl 0 (by omega) (by rfl)
 have h1:w.cell? ⟨g,r*15+1,none⟩=some (.bool u.clean):=pk_cell (wr:=w) hop hu rfl rfl 1 (by omega) (by rfl)
 have h2:w.cell? ⟨g,r*15+2,none⟩=some (.bool u.will):=pk_cell (wr:=w) hop hu rfl rfl 2 (by omega) (by rfl)
 have h3:w.cell? ⟨g,r*15+3,none⟩=some (.int .i64 u.keep):=pk_cell (wr:=w) hop hu rfl rfl 3 (by omega) (by rfl)
 have h4:w.cell? ⟨g,r*15+4,none⟩=some (.string (bs u.client)):=pk_cell (wr:=w) hop hu rfl rfl 4 (by omega) (by rfl)
 have h5:w.cell? ⟨g,r*15+5,none⟩=some (.bool u.present):=pk_cell (wr:=w) hop hu rfl rfl 5 (by omega) (by rfl)
 have h6:w.cell? ⟨g,r*15+6,none⟩=some (.int .i64 u.code):=pk_cell (wr:=w) hop hu rfl rfl 6 (by omega) (by rfl)
 have h7:w.cell? ⟨g,r*15+7,none⟩=some (.bool u.dup):=pk_cell (wr:=w) hop hu rfl rfl 7 (by omega) (by rfl)
 have h8:w.cell? ⟨g,r*15+8,none⟩=some (.int .i64 u.qos):=pk_cell (wr:=w) hop hu rfl rfl 8 (by omega) (by rfl)
 have h9:w.cell? ⟨g,r*15+9,none⟩=some (.bool u.retain):=pk_cell (wr:=w) hop hu rfl rfl 9 (by omega) (by rfl)
 have h10:w.cell? ⟨g,r*15+10,none⟩=some (.string (bs u.topic)):=pk_cell (wr:=w) hop hu rfl rfl 10 (by omega) (by rfl)
 have h11:w.cell? ⟨g,r*15+11,none⟩=some (.string (bs u.payload)):=pk_cell (wr:=w) hop hu rfl rfl 11 (by omega) (by rfl)
 have h12:w.cell? ⟨g,r*15+12,none⟩=some (.int .i64 u.id):=pk_cell (wr:=w) hop hu rfl rfl 12 (by omega) (by rfl)
 have h13:w.cell? ⟨g,r*15+13,none⟩=some (.slice f1 f2 f3'):=pk_cell (wr:=w) hop hu rfl rfl 13 (by omega) (by show some u.fv=_;rw [hfv])
 have h14:w.cell? ⟨g,r*15+14,none⟩=some (.slice c1 c2 c3'):=pk_cell (wr:=w) hop hu rfl rfl 14 (by omega) (by show some u.cv=_;rw [hcv])
 have HU:=hide hu
 have hbn:b≠w.heap.size:=Nat.ne_of_lt hbl
 have hgn:g≠w.heap.size:=Nat.ne_of_lt hg
 have hbn':w.heap.size≠b:=fun e=>hbn e.symm
 have hgn':w.heap.size≠g:=fun e=>hgn e.symm
 clear h hS1 hq hop hu hfv hcv
 go_enter Tryz.func28,Tryz.ntmps28
 go_wp2_with fail
 go_region_held3 (fun w'=>w'.cell? ⟨b,3,none⟩=some (.slice (some ⟨g,0,none⟩) O.length kap)∧w'.cell? ⟨g,r*15,none⟩=some (.int .i64 u.kind)∧w'.cell? ⟨g,r*15+1,none⟩=some (.bool u.clean)∧w'.cell? ⟨g,r*15+2,none⟩=some (.bool u.will)∧w'.cell? ⟨g,r*15+3,none⟩=some (.int .i64 u.keep)∧w'.cell? ⟨g,r*15+4,none⟩=some (.string (bs u.client))∧w'.cell? ⟨g,r*15+5,none⟩=some (.bool u.present)∧w'.cell? ⟨g,r*15+6,none⟩=some (.int .i64 u.code)∧w'.cell? ⟨g,r*15+7,none⟩=some (.bool u.dup)∧w'.cell? ⟨g,r*15+8,none⟩=some (.int .i64 u.qos)∧w'.cell? ⟨g,r*15+9,none⟩=some (.bool u.retain)∧w'.cell? ⟨g,r*15+10,none⟩=some (.string (bs u.topic))∧w'.cell? ⟨g,r*15+11,none⟩=some (.string (bs u.payload))∧w'.cell? ⟨g,r*15+12,none⟩=some (.int .i64 u.id)∧w'.cell? ⟨g,r*15+13,none⟩=some (.slice f1 f2 f3')∧w'.cell? ⟨g,r*15+14,none⟩=some (.slice c1 c2 c3'))
  (go_keep)
  (first
   | (go_at_call 21
      refine (cP.out _).mono ?_
      rintro e w1 ⟨rfl,hB1'⟩
      first
       | (have hB1:Below w.heap.size w w1:=((Below.refl w.heap.size w).drew).trans hB1')
       | (have hB1:Below w.heap.size w w1:=(((Below.refl w.heap.size w).drew).alloc (Nat.le_refl _) _).trans (hB1'.mono (by simp))
          have hz:w1.heap[w.heap.size]?=some (.cells #[.int .i64 0,.bool false,.bool false,.int .i64 0,.string ⟨#[]⟩,.bool false,.int .i64 0,.bool false,.int .i64 0,.bool false,.string ⟨#[]⟩,.string ⟨#[]⟩,.int .i64 0,.slice none 0 0,.slice none 0 0] 36):=(hB1'.block _ (by simp)).trans (heap_alloc_new _ _)
          obtain ⟨e0,e1,e2,e3,e4,e5,e6,e7,e8,e9,e10,e11,e12,e13,e14⟩:=cells15 hz
          have hzf:∀ i,w1.frozen? ⟨w.heap.size,i,none⟩=false:=fun i=>blk_frozen hz)
      have c31:w1.cell? ⟨b,3,none⟩=some (.slice (some ⟨g,0,none⟩) O.length kap):=by rw [hB1.cell hbl];exact c3
      have hb1:b < w1.heap.size:=Nat.lt_of_lt_of_le hbl hB1.size
      have hg1:g < w1.heap.size:=Nat.lt_of_lt_of_le hg hB1.size
      have g0:w1.cell? ⟨g,r*15,none⟩=_:=(hB1.cell hg).trans h0
      have g1:w1.cell? ⟨g,r*15+1,none⟩=_:=(hB1.cell hg).trans h1
      have g2:w1.cell? ⟨g,r*15+2,none⟩=_:=(hB1.cell hg).trans h2
      have g3:w1.cell? ⟨g,r*15+3,none⟩=_:=(hB1.cell hg).trans h3
      have g4:w1.cell? ⟨g,r*15+4,none⟩=_:=(hB1.cell hg).trans h4
      have g5:w1.cell? ⟨g,r*15+5,none⟩=_:=(hB1.cell hg).trans h5
      have g6:w1.cell? ⟨g,r*15+6,none⟩=_:=(hB1.cell hg).trans h6
      have g7:w1.cell? ⟨g,r*15+7,none⟩=_:=(hB1.cell hg).trans h7
      have g8:w1.cell? ⟨g,r*15+8,none⟩=_:=(hB1.cell hg).trans h8
      have g9:w1.cell? ⟨g,r*15+9,none⟩=_:=(hB1.cell hg).trans h9
      have g10:w1.cell? ⟨g,r*15+10,none⟩=_:=(hB1.cell hg).trans h10
      have g11:w1.cell? ⟨g,r*15+11,none⟩=_:=(hB1.cell hg).trans h11
      have g12:w1.cell? ⟨g,r*15+12,none⟩=_:=(hB1.cell hg).trans h12
      have g13:w1.cell? ⟨g,r*15+13,none⟩=_:=(hB1.cell hg).trans h13
      have g14:w1.cell? ⟨g,r*15+14,none⟩=_:=(hB1.cell hg).trans h14
      have HB1:=hide hB1
      clear hB1 hB1'))
 focus
  obtain ⟨W2,hW2⟩:∃ W2,W2=w1.alloc (.cells #[.int .i64 u.kind,.bool u.clean,.bool u.will,.int .i64 u.keep,.string (bs u.client),.bool u.present,.int .i64 u.code,.bool u.dup,.int .i64 u.qos,.bool u.retain,.string (bs u.topic),.string (bs u.payload),.int .i64 u.id,.slice f1 f2 f3',.slice c1 c2 c3'] 36):=⟨_,rfl⟩
  have hn2:W2.heap[w1.heap.size]?=some (.cells #[.int .i64 u.kind,.bool u.clean,.bool u.will,.int .i64 u.keep,.string (bs u.client),.bool u.present,.int .i64 u.code,.bool u.dup,.int .i64 u.qos,.bool u.retain,.string (bs u.topic),.string (bs u.payload),.int .i64 u.id,.slice f1 f2 f3',.slice c1 c2 c3'] 36):=by rw [hW2];exact heap_alloc_new _ _
  have d8:W2.cell? ⟨w1.heap.size,8,none⟩=some (.int .i64 u.qos):=blk_cell hn2 rfl
  have d12:W2.cell? ⟨w1.heap.size,12,none⟩=some (.int .i64 u.id):=blk_cell hn2 rfl
  clear hn2
  have hB2:Below w.heap.size w W2:=by rw [hW2];exact HB1.out.alloc HB1.out.size _
  rw [← hW2]
  have hkg:w.heap.size≤w1.heap.size:=HB1.out.size
  clear hW2 HB1
  clear h0 g0 h1 g1 h2 g2 h3 g3 h4 g4 h5 g5 h6 g6 h7 g7 h8 g8 h9 g9 h10 g10 h11 g11 h12 g12 h13 g13 h14 g14 c31 hb1 hg1
  have HB2:=hide hB2
  have hkl:=cell_blt d8
  simp only at hkl
  have hbk:b≠w1.heap.size:=by omega
  clear hB2 c3
  obtain ⟨K0,hK0⟩:∃ K,K=w1.heap.size:=⟨_,rfl⟩
  rw [← hK0] at d8 d12 hkl hbk ⊢
  replace hkg:w.heap.size≤K0:=by omega
  clear hK0
 rotate_left
 focus
  obtain ⟨W2,hW2⟩:∃ W2,W2=(((((((((((((((w1.setCell ⟨w.heap.size,0,none⟩ (.int .i64 u.kind)).setCell ⟨w.heap.size,1,none⟩ (.bool u.clean)).setCell ⟨w.heap.size,2,none⟩ (.bool u.will)).setCell ⟨w.heap.size,3,none⟩ (.int .i64 u.keep)).setCell ⟨w.heap.size,4,none⟩ (.string (bs u.client))).setCell ⟨w.heap.size,5,none⟩ (.bool u.present)).setCell ⟨w.heap.size,6,none⟩ (.int .i64 u.code)).setCell ⟨w.heap.size,7,none⟩ (.bool u.dup)).setCell ⟨w.heap.size,8,none⟩ (.int .i64 u.qos)).setCell ⟨w.heap.size,9,none⟩ (.bool u.retain)).setCell ⟨w.heap.size,10,none⟩ (.string (bs u.topic))).setCell ⟨w.heap.size,11,none⟩ (.string (bs u.payload))).setCell ⟨w.heap.size,12,none⟩ (.int .i64 u.id)).setCell ⟨w.heap.size,13,none⟩ (.slice f1 f2 f3')).setCell ⟨w.heap.size,14,none⟩ (.slice c1 c2 c3')):=⟨_,rfl⟩
  have d8:W2.cell? ⟨w.heap.size,8,none⟩=some (.int .i64 u.qos):=by rw [hW2];exact (so (by decide) (so (by decide) (so (by decide) (so (by decide) (so (by decide) (so (by decide) (ss (so (by decide) (so (by decide) (so (by decide) (so (by decide) (so (by decide) (so (by decide) (so (by decide) (so (by decide) e8)))))))))))))))
  have d12:W2.cell? ⟨w.heap.size,12,none⟩=some (.int .i64 u.id):=by rw [hW2];exact (so (by decide) (so (by decide) (ss (so (by decide) (so (by decide) (so (by decide) (so (by decide) (so (by decide) (so (by decide) (so (by decide) (so (by decide) (so (by decide) (so (by decide) (so (by decide) (so (by decide) e12)))))))))))))))
  have hB2:Below w.heap.size w W2:=by rw [hW2];exact (((((((((((((((HB1.out.setCell (Nat.le_refl _) _).setCell (Nat.le_refl _) _).setCell (Nat.le_refl _) _).setCell (Nat.le_refl _) _).setCell (Nat.le_refl _) _).setCell (Nat.le_refl _) _).setCell (Nat.le_refl _) _).setCell (Nat.le_refl _) _).setCell (Nat.le_refl _) _).setCell (Nat.le_refl _) _).setCell (Nat.le_refl _) _).setCell (Nat.le_refl _) _).setCell (Nat.le_refl _) _).setCell (Nat.le_refl _) _).setCell (Nat.le_refl _) _)
  rw [← hW2]
  have hkg:w.heap.size≤w.heap.size:=Nat.le_refl _
  clear hW2 HB1 hzf hz
  clear h0 g0 h1 g1 h2 g2 h3 g3 h4 g4 h5 g5 h6 g6 h7 g7 h8 g8 h9 g9 h10 g10 h11 g11 h12 g12 h13 g13 h14 g14 c31 hb1 hg1
  clear e0 e1 e2 e3 e4 e5 e6 e7 e8 e9 e10 e11 e12 e13 e14
  have HB2:=hide hB2
  have hkl:=cell_blt d8
  simp only at hkl
  have hbk:b≠w.heap.size:=by omega
  clear hB2 c3
  obtain ⟨K0,hK0⟩:∃ K,K=w.heap.size:=⟨_,rfl⟩
  rw [← hK0] at d8 d12 hkl hbk ⊢
  replace hkg:w.heap.size≤K0:=by omega
  clear hK0
 rotate_left
 all_goals
  have hq1:=HQS.out u HU.out
  rw [hq1] at d8
  have cF:=hide fun w' (hb:Below w.heap.size w w')=>find_any b V.pv O u.id w' (by have:=blk_cell (i:=3) (HT.out.below hb).blk rfl;exact this) (HT.out.below hb).opn
  rw [HI.out r u HU.out] at cF
  have c0:W2.cell? ⟨b,0,none⟩=some (.pointer (some ⟨V.lb,0,none⟩)):=blk_cell (HT.out.below HB2.out).blk rfl
  go_wp2_with fail
  go_region_with (first
   | (go_at_call 66
      refine (cF.out _ HB2.out.drew).mono ?_
      rintro e w3 ⟨rfl,hB3⟩
      have HB3:=hide (HB2.out.drew.trans (hB3.mono HB2.out.size))
      have d12':w3.cell? ⟨K0,12,none⟩=some (.int .i64 u.id):=(hB3.cell (p:=⟨K0,12,none⟩) hkl).trans d12
      have hkl3:K0 < w3.heap.size:=Nat.lt_of_lt_of_le hkl hB3.size
      clear hB3)
   | (go_at_call 67
      refine (shut_stg b r V T Sn O w3 (HT.out.below HB3.out) hO hr).mono ?_
      rintro e w4 ⟨rfl,v',hT4,hb4,hfr⟩
      have HT4:=hide hT4
      have HBt:Hid (But (fun g=>g=b) w w4):=(But.of_below HB3.out).trans hb4 (fun _ _ f=>f)
      have d4:w4.cell? ⟨K0,12,none⟩=some (.int .i64 u.id):=hb4.cell (a:=⟨K0,12,none⟩) (fun e=>hbk e.symm) d12'
      have k0:w4.cell? ⟨b,0,none⟩=some (.pointer (some ⟨V.lb,0,none⟩)):=blk_cell HT4.out.blk rfl
      have cS:=hide (HS1.out u HU.out hq1 w4.drew v' (HT4.out.keep (fun _ _=>rfl)) (HBt.out.trans (But.of_below (Below.refl _ _).drew) (fun _ _ f=>f)) (fun g hg=>Nat.le_trans HB3.out.size (hfr g hg)))
      simp only [pkK,ackK,zP] at cS
      have hkl4:K0 < w4.drew.heap.size:=Nat.lt_of_lt_of_le hkl3 hb4.size
      clear hT4 hb4 hfr))
  all_goals
   clear cF d12 d12' c0 hkl hkl3 HB3
   go_wp2_with fail
   go_region_held3 (fun w'=>w'.cell? ⟨b,0,none⟩=some (.pointer (some ⟨V.lb,0,none⟩))∧w'.cell? ⟨K0,12,none⟩=some (.int .i64 u.id))
    (go_keep)
    (first
     | (go_at_call 50
        refine cS.out.mono ?_
        rintro e w6 ⟨rfl,hkp,q6,m6,c6,V6,hSe⟩
        have HSe:=hide hSe
        have k6:w6.cell? ⟨b,0,none⟩=some (.pointer (some ⟨V.lb,0,none⟩)):=hSe.cell
        have d6:w6.cell? ⟨K0,12,none⟩=some (.int .i64 u.id):=(World.cell?_of_block (w:=w4.drew) (hkp _ hkg hkl4)).trans d4
        have cHd:=hide (heard_any V.lb 0 V6 w6.drew hSe.line (by omega) ⟨_,_,_,hSe.got⟩)
        rw [hSe.got] at cHd
        clear hSe))
   all_goals
    clear d4 k0 cS d6
    go_wp2_with fail
    go_region_with (first
     | (go_at_call 51
        refine cHd.out.mono ?_
        rintro e w7 ⟨rfl,hw7,_⟩
        have hc7:=hide (HSe.out.see _ (Below.refl _ _).drew)
        rw [show w6.drew.setCell ⟨V.lb,1,none⟩ (.slice none 0 0)=w7 from hw7.symm] at hc7
        clear hw7)
     | (go_at_call 63
        refine hc7.out.mono ?_
        rintro e w8 ⟨rfl,hR8⟩
        have HR8:=hide hR8
        clear hR8))
    all_goals
     go_wp2_with fail
     go_ret
     exact ⟨rfl,HR8.out⟩
end kp
end Go.Proofs.YtnmfmoimjkoieaaGreatDoor
