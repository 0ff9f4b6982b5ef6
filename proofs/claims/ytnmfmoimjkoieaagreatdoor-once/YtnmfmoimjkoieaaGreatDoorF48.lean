import Derived.Test.YtnmfmoimjkoieaaGreatDoorF30
import Derived.Test.YtnmfmoimjkoieaaGreatDoorF43
import Derived.Deep.RegionHeld3
import Derived.Conc.LoneSelectN
import Derived.Test.YtnmfmoimjkoieaaGreatDoorF35
namespace Go.Proofs.YtnmfmoimjkoieaaGreatDoor
namespace br
open Go.RowKit topPlain topWalks decPlain Go.Maps kp
def lookV (on:Bool) (S:Ses):Value:=.agg #[.bool true,.bool on,.int .i64 (S.filters.length:Int),.int .i64 (S.waiting.length:Int),.int .i64 (S.under.length:Int)]
set_option maxHeartbeats 800000 in
set_option maxRecDepth 100000 in
theorem sLook_any (sb:Nat) (V:SesV) (S:Ses) (x:Nat×Nat) (w:World) (h:SesAt w sb V S) (hs:V.snd=some x) :
 Calls Tryz.prog 68 #[.pointer (some ⟨sb,0,none⟩)] w fun e w'=>e=.returned (lookV true S)∧Below w.heap.size w w':=by
 have c0:w.cell? ⟨sb,0,none⟩=some V.fv:=blk_cell h.blk rfl
 have c2:w.cell? ⟨sb,2,none⟩=some (sndV V.snd):=blk_cell h.blk rfl
 have c4:w.cell? ⟨sb,4,none⟩=some (.chan (some V.cb)):=blk_cell h.blk rfl
 have c5:w.cell? ⟨sb,5,none⟩=some V.uv:=blk_cell h.blk rfl
 obtain ⟨q,cap,hq⟩:=own_form h.und
 rw [hq] at c5
 obtain ⟨q0,cap0,hq0⟩:=own_form h.fil
 rw [hq0] at c0
 obtain ⟨s,r,hch⟩:=h.chn
 have hn2:=neq_func
 rw [hs] at c2
 obtain ⟨x,y⟩:=x
 simp only [sndV] at c2
 have hlen:∀ W:World,W.heap[V.cb]?=some (.chan S.queue (S.waiting.map msgV).toArray false s r false)→(Builtin.len_ #[185] 3 #[.chan (some V.cb)]).run Tryz.prog W=.ok (.int .i64 (S.waiting.length:Int)) W:=fun W hW=>by
  rw [Go.Conc.run_len_chan (P:=Tryz.prog) 185 3 Tryz.underlying185 hW]
  simp [goInt]
 clear h hq hq0
 unfold lookV
 go_enter Tryz.func68,Tryz.ntmps68
 go_wp2
 have hlc:V.cb < w.heap.size:=blk_lt hch
 have hls:=cell_blt c0
 simp only at hls
 have hn1:=heap_alloc_new w (.cells #[.bool false,.bool false,.int .i64 0,.int .i64 0,.int .i64 0] 80)
 have hB1:=(Below.refl w.heap.size w).alloc (Nat.le_refl _) (.cells #[.bool false,.bool false,.int .i64 0,.int .i64 0,.int .i64 0] 80)
 generalize w.alloc (.cells #[.bool false,.bool false,.int .i64 0,.int .i64 0,.int .i64 0] 80)=W1 at *
 have c0':=(hB1.cell (p:=⟨sb,0,none⟩) hls).trans c0
 have c2':=(hB1.cell (p:=⟨sb,2,none⟩) hls).trans c2
 have c4':=(hB1.cell (p:=⟨sb,4,none⟩) hls).trans c4
 have c5':=(hB1.cell (p:=⟨sb,5,none⟩) hls).trans c5
 have hch':W1.drew.heap[V.cb]?=some (.chan S.queue (S.waiting.map msgV).toArray false s r false):=(hB1.block _ hlc).trans hch
 have hl1:=blk_lt hn1
 have hne:sb≠w.heap.size:=Nat.ne_of_lt hls
 have hne':w.heap.size≠sb:=fun e=>hne e.symm
 have hkC:∀ (W:World) (i:Nat) (v:Value),(W.setCell ⟨w.heap.size,i,none⟩ v).heap[V.cb]?=W.heap[V.cb]?:=fun W i v=>Below.heap_setCell _ _ _ _ (fun e=>Nat.ne_of_lt hlc e)
 have d0:W1.cell? ⟨w.heap.size,0,none⟩=some (.bool false):=blk_cell hn1 rfl
 have d1:W1.cell? ⟨w.heap.size,1,none⟩=some (.bool false):=blk_cell hn1 rfl
 have d2:W1.cell? ⟨w.heap.size,2,none⟩=some (.int .i64 0):=blk_cell hn1 rfl
 have d3:W1.cell? ⟨w.heap.size,3,none⟩=some (.int .i64 0):=blk_cell hn1 rfl
 have d4:W1.cell? ⟨w.heap.size,4,none⟩=some (.int .i64 0):=blk_cell hn1 rfl
 have df:∀ i,W1.frozen? ⟨w.heap.size,i,none⟩=false:=fun i=>blk_frozen hn1
 have hfin:∀ v1 v2 v3 v4 v5:Value,(((((W1.setCell ⟨w.heap.size,0,none⟩ v1).setCell ⟨w.heap.size,1,none⟩ v2).setCell ⟨w.heap.size,2,none⟩ v3).setCell ⟨w.heap.size,3,none⟩ v4).setCell ⟨w.heap.size,4,none⟩ v5).drew.heap[V.cb]?=some (.chan S.queue (S.waiting.map msgV).toArray false s r false):=fun v1 v2 v3 v4 v5=>(hkC _ _ _).trans ((hkC _ _ _).trans ((hkC _ _ _).trans ((hkC _ _ _).trans ((hkC _ _ _).trans hch'))))
 clear hkC
 have HB1:=hide hB1
 generalize hKe:w.heap.size=K at *
 have HK:=hide hKe
 clear hKe
 clear hB1 c0 c2 c4 c5 hch
 go_region_held3 (fun w'=>w'.cell? ⟨sb,0,none⟩=some (.slice q0 S.filters.length cap0)∧w'.cell? ⟨sb,2,none⟩=some (.func (.func 133) #[] #[.pointer (some ⟨x,0,none⟩),.pointer (some ⟨y,0,none⟩)])∧w'.cell? ⟨sb,4,none⟩=some (.chan (some V.cb))∧w'.cell? ⟨sb,5,none⟩=some (.slice q S.under.length cap)∧w'.heap[V.cb]?=some (.chan S.queue (S.waiting.map msgV).toArray false s r false))
  (go_keep)
  (fail)
 all_goals
  clear hfin
  obtain ⟨W5,hW5⟩:∃ W5,W5=((((W1.setCell ⟨K,0,none⟩ (.bool true)).setCell ⟨K,1,none⟩ (.bool true)).setCell ⟨K,2,none⟩ (.int .i64 (S.filters.length:Int))).setCell ⟨K,3,none⟩ (.int .i64 (S.waiting.length:Int))).setCell ⟨K,4,none⟩ (.int .i64 (S.under.length:Int)):=⟨_,rfl⟩
  have hB5:Below K w W5:=by rw [hW5];exact ((((HB1.out.setCell (Nat.le_refl _) _).setCell (Nat.le_refl _) _).setCell (Nat.le_refl _) _).setCell (Nat.le_refl _) _).setCell (Nat.le_refl _) _
  have m0:W5.cell? ⟨K,0,none⟩=some (.bool true):=by rw [hW5];exact so (by decide) (so (by decide) (so (by decide) (so (by decide) (ss d0))))
  have m1:W5.cell? ⟨K,1,none⟩=some (.bool true):=by rw [hW5];exact so (by decide) (so (by decide) (so (by decide) (ss (so (by decide) d1))))
  have m2:W5.cell? ⟨K,2,none⟩=some (.int .i64 (S.filters.length:Int)):=by rw [hW5];exact so (by decide) (so (by decide) (ss (so (by decide) (so (by decide) d2))))
  have m3:W5.cell? ⟨K,3,none⟩=some (.int .i64 (S.waiting.length:Int)):=by rw [hW5];exact so (by decide) (ss (so (by decide) (so (by decide) (so (by decide) d3))))
  have m4:W5.cell? ⟨K,4,none⟩=some (.int .i64 (S.under.length:Int)):=by rw [hW5];exact ss (so (by decide) (so (by decide) (so (by decide) (so (by decide) d4))))
  rw [← hW5]
  have HB5:=hide hB5
  clear hW5 hB5 d0 d1 d2 d3 d4 df hl1 hn1
  go_wp2
  refine bodyPost_ret (v:=.agg #[.bool true,.bool true,.int .i64 (S.filters.length:Int),.int .i64 (S.waiting.length:Int),.int .i64 (S.under.length:Int)]) (by simp [results,Tryz.results68,go_sem,m0,m1,m2,m3,m4]) rfl ⟨rfl,?_⟩
  rw [HK.out]
  exact HB5.out.drew
set_option maxHeartbeats 800000 in
set_option maxRecDepth 100000 in
theorem bLook_any (B m sb:Nat) (client:List UInt8) (D:DataW Unit) (BV:BrV) (ov:Value) (L:List (OutS×Value)) (V:SesV) (S:Ses) (x:Nat×Nat) (w:World) (h:BlkAt w B BV ov L) (hM:w.ownsMap Tryz.prog 9 ptrElem BV.mb m D) (hcl:client.length≤1000) (hD:D.atKey (.string client) .nil=.lit (.int .i64 (sb:Int))) (hH:Maps.has D (.string client)=true) (hs:SesAt w sb V S) (hx:V.snd=some x) :
 Calls Tryz.prog 29 #[.pointer (some ⟨B,0,none⟩),.string (bs client)] w fun e w'=>e=.returned (lookV true S)∧Below w.heap.size w w':=by
 have b10:w.cell? ⟨B,10,none⟩=some (.map (some BV.mb)):=blk_cell h.blk rfl
 have hlk:∀ W:World,W.ownsMap Tryz.prog 9 ptrElem BV.mb m D→(Instr.lookup 126 (.map (some BV.mb)) (.string (bs client)) true).run Tryz.prog W=.ok (.tuple #[.pointer (some ⟨sb,0,none⟩),.bool true]) W:=fun W hW=>by
  obtain ⟨v,ps,hrun,hv⟩:=hW.look_ok (t:=126) (e:=135) keyStr Tryz.underlying126 (zeroPtr _) (zd:=.nil) (zp:=[]) rfl (key_bs client hcl)
  rw [hD] at hv
  obtain rfl:=ptr_lit hv
  rw [hH] at hrun
  exact hrun
 obtain ⟨es,cl,hmb⟩:=map_blk hM
 have hlm:=blk_lt hmb
 have hlB:=blk_lt h.blk
 have cS:=hide fun w' (hb:Below w.heap.size w w')=>sLook_any sb V S x w' (hs.below hb) hx
 have HM:=hide fun w' (hb:Below w.heap.size w w')=>map_keep hM (hb.block _ hlm)
 clear h hs hM hmb
 unfold lookV at *
 go_enter Tryz.func29,Tryz.ntmps29
 go_wp2
 have hn1:=heap_alloc_new w (.cells #[.bool false,.bool false,.int .i64 0,.int .i64 0,.int .i64 0] 80)
 have hB1:=(Below.refl w.heap.size w).alloc (Nat.le_refl _) (.cells #[.bool false,.bool false,.int .i64 0,.int .i64 0,.int .i64 0] 80)
 generalize w.alloc (.cells #[.bool false,.bool false,.int .i64 0,.int .i64 0,.int .i64 0] 80)=W1 at *
 rw [hlk _ (HM.out _ hB1)]
 go_wp2_with fail
 refine (cS.out _ hB1).mono ?_
 rintro e w2 ⟨rfl,hB2⟩
 have hn2:=(hB2.block _ (blk_lt hn1)).trans hn1
 have hB02:=hB1.trans (hB2.mono hB1.size)
 have d0:w2.cell? ⟨w.heap.size,0,none⟩=some (.bool false):=blk_cell hn2 rfl
 have d1:w2.cell? ⟨w.heap.size,1,none⟩=some (.bool false):=blk_cell hn2 rfl
 have d2:w2.cell? ⟨w.heap.size,2,none⟩=some (.int .i64 0):=blk_cell hn2 rfl
 have d3:w2.cell? ⟨w.heap.size,3,none⟩=some (.int .i64 0):=blk_cell hn2 rfl
 have d4:w2.cell? ⟨w.heap.size,4,none⟩=some (.int .i64 0):=blk_cell hn2 rfl
 have df:∀ i,w2.frozen? ⟨w.heap.size,i,none⟩=false:=fun i=>blk_frozen hn2
 have hl2:=blk_lt hn2
 have HB2:=hide hB02
 clear hn1 hB1 hB2 hn2 hB02 hlk b10
 go_wp2_with fail
 obtain ⟨W5,hW5⟩:∃ W5,W5=((((w2.setCell ⟨w.heap.size,0,none⟩ (.bool true)).setCell ⟨w.heap.size,1,none⟩ (.bool true)).setCell ⟨w.heap.size,2,none⟩ (.int .i64 (S.filters.length:Int))).setCell ⟨w.heap.size,3,none⟩ (.int .i64 (S.waiting.length:Int))).setCell ⟨w.heap.size,4,none⟩ (.int .i64 (S.under.length:Int)):=⟨_,rfl⟩
 have hB5:Below w.heap.size w W5:=by rw [hW5];exact ((((HB2.out.setCell (Nat.le_refl _) _).setCell (Nat.le_refl _) _).setCell (Nat.le_refl _) _).setCell (Nat.le_refl _) _).setCell (Nat.le_refl _) _
 have m0:W5.cell? ⟨w.heap.size,0,none⟩=some (.bool true):=by rw [hW5];exact so (by decide) (so (by decide) (so (by decide) (so (by decide) (ss d0))))
 have m1:W5.cell? ⟨w.heap.size,1,none⟩=some (.bool true):=by rw [hW5];exact so (by decide) (so (by decide) (so (by decide) (ss (so (by decide) d1))))
 have m2:W5.cell? ⟨w.heap.size,2,none⟩=some (.int .i64 (S.filters.length:Int)):=by rw [hW5];exact so (by decide) (so (by decide) (ss (so (by decide) (so (by decide) d2))))
 have m3:W5.cell? ⟨w.heap.size,3,none⟩=some (.int .i64 (S.waiting.length:Int)):=by rw [hW5];exact so (by decide) (ss (so (by decide) (so (by decide) (so (by decide) d3))))
 have m4:W5.cell? ⟨w.heap.size,4,none⟩=some (.int .i64 (S.under.length:Int)):=by rw [hW5];exact ss (so (by decide) (so (by decide) (so (by decide) (so (by decide) d4))))
 rw [← hW5]
 refine bodyPost_ret (v:=.agg #[.bool true,.bool true,.int .i64 (S.filters.length:Int),.int .i64 (S.waiting.length:Int),.int .i64 (S.under.length:Int)]) (by simp [results,Tryz.results29,go_sem,m0,m1,m2,m3,m4]) rfl ⟨rfl,hB5⟩
end br
namespace kp
open Go.RowKit topPlain topWalks decPlain br
open rd (ints)
set_option maxHeartbeats 3200000 in
set_option maxRecDepth 100000 in
theorem bounded_any (b lb B:Nat) (V:StgV) (LV:LineV) (T Sn:List Int) (O:List Pkt) (fl wt:Nat) (w:World) (h:StgAt w b V T O Sn) (hlb:V.lb=lb) (hl:LineAt w lb LV) (hb:LV.b=B) (hbad:LV.bad=false)
 (hL:Calls Tryz.prog 29 #[.pointer (some ⟨B,0,none⟩),.string ⟨#[99]⟩] w fun e w'=>e=.returned (.agg #[.bool true,.bool true,.int .i64 (fl:Int),.int .i64 (wt:Int),.int .i64 (O.length:Int)])∧Below w.heap.size w w')
 (hf:fl=1) (h1:(O.length:Int)≤V.win) (h2:(wt:Int)≤V.que) (h3:wt=0∨(O.length:Int)=V.win) :
 Calls Tryz.prog 27 #[.pointer (some ⟨b,0,none⟩)] w fun e w'=>e=.returned (.bool true)∧Below w.heap.size w w':=by
 subst hlb hb hf
 have h3':(wt:Int)=0∨(O.length:Int)=V.win:=h3.imp (fun e=>by rw [e];rfl) id
 clear h3
 have h3:=h3'
 clear h3'
 have c0:w.cell? ⟨b,0,none⟩=some (.pointer (some ⟨V.lb,0,none⟩)):=blk_cell h.blk rfl
 have l0:w.cell? ⟨V.lb,0,none⟩=some (.pointer (some ⟨LV.b,0,none⟩)):=blk_cell hl rfl
 have HT:=hide h
 have HL:=hide hl
 have HC:=hide hL
 have hbl:=blk_lt h.blk
 have hll:V.lb < w.heap.size:=blk_lt hl
 clear h hl hL
 go_enter Tryz.func27,Tryz.ntmps27
 go_wp2_with fail
 refine HC.out.mono ?_
 rintro e w1 ⟨rfl,hB1⟩
 have hT1:=HT.out.below hB1
 have hL1:LineAt w1 V.lb LV:=(hB1.block _ hll).trans HL.out
 have k0:w1.cell? ⟨b,0,none⟩=some (.pointer (some ⟨V.lb,0,none⟩)):=blk_cell hT1.blk rfl
 have k17:w1.cell? ⟨V.lb,17,none⟩=some (.bool false):=by rw [← hbad];exact blk_cell hL1 rfl
 obtain ⟨q3,k3,hq3⟩:=own_form hT1.opn
 have c3:w1.cell? ⟨b,3,none⟩=some (.slice q3 O.length k3):=by rw [← hq3];exact blk_cell hT1.blk rfl
 have c6:w1.cell? ⟨b,6,none⟩=some (.int .i64 V.win):=blk_cell hT1.blk rfl
 have c7:w1.cell? ⟨b,7,none⟩=some (.int .i64 V.que):=blk_cell hT1.blk rfl
 have hbl1:=blk_lt hT1.blk
 have hll1:V.lb < w1.heap.size:=blk_lt hL1
 have HB1:=hide hB1
 clear hT1 hL1 hq3 hB1 c0 l0 HT HL HC
 go_wp2_with fail
 have hn2:=heap_alloc_new w1 (.cells #[.bool true,.bool true,.int .i64 1,.int .i64 (wt:Int),.int .i64 (O.length:Int)] 80)
 have hB2:=(Below.refl w1.heap.size w1).alloc (Nat.le_refl _) (.cells #[.bool true,.bool true,.int .i64 1,.int .i64 (wt:Int),.int .i64 (O.length:Int)] 80)
 generalize w1.alloc (.cells #[.bool true,.bool true,.int .i64 1,.int .i64 (wt:Int),.int .i64 (O.length:Int)] 80)=W2 at *
 have m0:W2.cell? ⟨w1.heap.size,0,none⟩=some (.bool true):=blk_cell hn2 rfl
 have m1:W2.cell? ⟨w1.heap.size,1,none⟩=some (.bool true):=blk_cell hn2 rfl
 have m2:W2.cell? ⟨w1.heap.size,2,none⟩=some (.int .i64 1):=blk_cell hn2 rfl
 have m3:W2.cell? ⟨w1.heap.size,3,none⟩=some (.int .i64 (wt:Int)):=blk_cell hn2 rfl
 have m4:W2.cell? ⟨w1.heap.size,4,none⟩=some (.int .i64 (O.length:Int)):=blk_cell hn2 rfl
 have k02:=(hB2.cell (p:=⟨b,0,none⟩) hbl1).trans k0
 have k172:=(hB2.cell (p:=⟨V.lb,17,none⟩) hll1).trans k17
 have c32:=(hB2.cell (p:=⟨b,3,none⟩) hbl1).trans c3
 have c62:=(hB2.cell (p:=⟨b,6,none⟩) hbl1).trans c6
 have c72:=(hB2.cell (p:=⟨b,7,none⟩) hbl1).trans c7
 have HB2:=hide (HB1.out.trans (hB2.mono HB1.out.size))
 have e1:(0:Int)≤(wt:Int):=by omega
 generalize w1.heap.size=K at *
 clear hB2 hn2 k0 k17 c3 c6 c7 hbl1 hll1 HB1
 simp only [List.append]
 have f1:decide ((O.length:Int)≤V.win)=true:=decide_eq_true h1
 by_cases hw:wt=0
 · subst hw
   have f2:decide ((0:Int)≤V.que)=true:=decide_eq_true h2
   have m3':W2.cell? ⟨K,3,none⟩=some (.int .i64 0):=m3
   clear h3 h1 h2 e1 m3
   go_region
   all_goals
    go_wp2_with fail
    go_ret
    exact ⟨rfl,HB2.out.drew⟩
 · have f2:decide ((wt:Int)≤V.que)=true:=decide_eq_true h2
   have f3:decide ((wt:Int)≥0)=true:=decide_eq_true e1
   have f4:((wt:Int) == 0)=false:=by rw [beq_eq_false_iff_ne];omega
   have e5:(O.length:Int)=V.win:=by omega
   rw [← e5] at c62 f1
   clear h3 h1 h2 e1 e5 hw
   go_region
   all_goals
    go_wp2_with fail
    go_ret
    exact ⟨rfl,HB2.out.drew⟩
end kp
end Go.Proofs.YtnmfmoimjkoieaaGreatDoor
