import Derived.Test.YtnmfmoimjkoieaaGreatDoorF24
import Derived.Deep.RegionHeld3
import Derived.Test.YtnmfmoimjkoieaaGreatDoorF01
import Derived.Conc.LoneCalls
namespace Go.Proofs.YtnmfmoimjkoieaaGreatDoor
namespace br
open Go.RowKit topPlain topWalks decPlain
def conSet (c:Array Value) (sb:Nat) (p:Pkt) (f1:Option Addr) (f2 f3:Nat) (c1:Option Addr) (c2 c3:Nat):Array Value:=patch c 18 [.pointer (some ⟨sb,0,none⟩),.int .i64 p.kind,.bool p.clean,.bool p.will,.int .i64 p.keep,.string (bs p.client),.bool p.present,.int .i64 p.code,.bool p.dup,.int .i64 p.qos,.bool p.retain,.string (bs p.topic),.string (bs p.payload),.int .i64 p.id,.slice f1 f2 f3,.slice c1 c2 c3]
theorem conSet_eq (n:Int) (CV:ConV) (C:Con) (hC:C.hello=none) (sb a b a' b':Nat) (p:Pkt) (f1:Option Addr) (f2 f3:Nat) (c1:Option Addr) (c2 c3:Nat):patch (conSet (conC n CV C) sb p f1 f2 f3 c1 c2 c3) 2 (onceA a b a' b').toList=conC n ⟨CV.cb,CV.wv,a,b,a',b',sb⟩ { C with hello:=some { p with fv:=.slice f1 f2 f3,cv:=.slice c1 c2 c3 } }:=by
 obtain ⟨wt,hd,hl⟩:=C
 simp only at hC
 subst hC
 kernel_rfl
theorem there_set {W:World} {b o n i:Nat} {v:Value} (h:W.there b o n):(W.setCell ⟨b,i,none⟩ v).there b o n:=fun j hj=>by
 obtain ⟨h1,h2⟩:=h j hj
 refine ⟨?_,by rw [World.frozen?_setCell];exact h2⟩
 obtain ⟨u,hu⟩:=Option.isSome_iff_exists.1 h1
 by_cases e:o+j=i
 · subst e
   have h3:(W.setCell ⟨b,o+j,none⟩ v).cell? ⟨b,o+j,none⟩=some v:=by apply World.cell?_setCell_same;exact hu
   rw [h3];rfl
 · have h3:(W.setCell ⟨b,i,none⟩ v).cell? ⟨b,o+j,none⟩=W.cell? ⟨b,o+j,none⟩:=by
    apply World.cell?_setCell_other
    intro e2
    simp only [Addr.mk.injEq] at e2
    omega
   rw [h3];exact h1
theorem conC_size (n:Int) (V:ConV) (C:Con):(conC n V C).size=34:=by
 obtain ⟨wt,hd,hl⟩:=C
 cases hl<;>kernel_rfl
theorem blk_some {w:World} {b i:Nat} {c:Array Value} {t:TypeId} {z:Nat×Nat} (h:w.heap[b]?=some (.cells c t z)) (hi:i < c.size):∃ v,w.cell? ⟨b,i,none⟩=some v:=⟨_,blk_cell h (Array.getElem?_eq_getElem hi)⟩
set_option maxHeartbeats 3200000 in
set_option maxRecDepth 100000 in
theorem cn_set (B cb sb x y pb:Nat) (n:Int) (pr:Bool) (p:Pkt) (f1:Option Addr) (f2 f3:Nat) (c1:Option Addr) (c2 c3:Nat) (CV:ConV) (C:Con) (w:World) (R:Ending→World→Prop) (hb:Boxes w B cb x y) (hc:w.heap[cb]?=some (.cells (conC n CV C) 137)) (hp:w.cell? ⟨pb,0,none⟩=some (.int .i64 p.kind)∧w.cell? ⟨pb,1,none⟩=some (.bool p.clean)∧w.cell? ⟨pb,2,none⟩=some (.bool p.will)∧w.cell? ⟨pb,3,none⟩=some (.int .i64 p.keep)∧w.cell? ⟨pb,4,none⟩=some (.string (bs p.client))∧w.cell? ⟨pb,5,none⟩=some (.bool p.present)∧w.cell? ⟨pb,6,none⟩=some (.int .i64 p.code)∧w.cell? ⟨pb,7,none⟩=some (.bool p.dup)∧w.cell? ⟨pb,8,none⟩=some (.int .i64 p.qos)∧w.cell? ⟨pb,9,none⟩=some (.bool p.retain)∧w.cell? ⟨pb,10,none⟩=some (.string (bs p.topic))∧w.cell? ⟨pb,11,none⟩=some (.string (bs p.payload))∧w.cell? ⟨pb,12,none⟩=some (.int .i64 p.id)∧w.cell? ⟨pb,13,none⟩=some (.slice f1 f2 f3)∧w.cell? ⟨pb,14,none⟩=some (.slice c1 c2 c3))
 (hpb:pb≠cb)
 (hN:∀ w' a b a' b' (u0 u1 u2 u5 u6 u9 u10 u11 u12 u13 u14 u15 u16 u17 u18 u19 u20 u21 u22 u23 u24 u25 u26 u27 u28 u29 u30 u31 u32 u33 u34 u35 u36 u37 u38 u39 u40 u41 u42 u43 u44 u45 u46 u47 u48 u49 u50 u51 u52 u53 u54 u55 u56 u57 u58 u59 u60 u61 u62 u63 u64 u65 u66 u67 u68 u69 u70 u71 u72 u73 u74 u75 u76 u77 u78 u79 u80 u81 u82 u83 u84 u85 u86 u87 u88 u89 u90 u91 u92 u93 u94 u95 u96:Value),But (fun g=>g=cb) w w'→w'.heap[cb]?=some (.cells (patch (conSet (conC n CV C) sb p f1 f2 f3 c1 c2 c3) 2 (onceA a b a' b').toList) 137)→Boxes w' B cb a b→Boxes w' B cb a' b'→w.heap.size≤a→w.heap.size≤b→w.heap.size≤a'→w.heap.size≤b'→Code.wp Tryz.prog (dropS 8 (Tryz.f90.body.getD .skip)) (bodyPost Tryz.prog Tryz.f90 R) ⟨#[u0,u1,u2,.pointer (some ⟨x,0,none⟩),.pointer (some ⟨y,0,none⟩),u5,u6,.pointer (some ⟨sb,0,none⟩),.bool pr,u9,u10,u11,u12,u13,u14,u15,u16,u17,u18,u19,u20,u21,u22,u23,u24,u25,u26,u27,u28,u29,u30,u31,u32,u33,u34,u35,u36,u37,u38,u39,u40,u41,u42,u43,u44,u45,u46,u47,u48,u49,u50,u51,u52,u53,u54,u55,u56,u57,u58,u59,u60,u61,u62,u63,u64,u65,u66,u67,u68,u69,u70,u71,u72,u73,u74,u75,u76,u77,u78,u79,u80,u81,u82,u83,u84,u85,u86,u87,u88,u89,u90,u91,u92,u93,u94,u95,u96],[]⟩ w')
 (u0 u1 u2 u6 u9 u10 u11 u12 u13 u14 u15 u16 u17 u18 u19 u20 u21 u22 u23 u24 u25 u26 u27 u28 u29 u30 u31 u32 u33 u34 u35 u36 u37 u38 u39 u40 u41 u42 u43 u44 u45 u46 u47 u48 u49 u50 u51 u52 u53 u54 u55 u56 u57 u58 u59 u60 u61 u62 u63 u64 u65 u66 u67 u68 u69 u70 u71 u72 u73 u74 u75 u76 u77 u78 u79 u80 u81 u82 u83 u84 u85 u86 u87 u88 u89 u90 u91 u92 u93 u94 u95 u96:Value) :
 Code.wp Tryz.prog (dropS 7 (Tryz.f90.body.getD .skip)) (bodyPost Tryz.prog Tryz.f90 R) ⟨#[u0,u1,u2,.pointer (some ⟨x,0,none⟩),.pointer (some ⟨y,0,none⟩),.pointer (some ⟨pb,0,none⟩),u6,.pointer (some ⟨sb,0,none⟩),.bool pr,u9,u10,u11,u12,u13,u14,u15,u16,u17,u18,u19,u20,u21,u22,u23,u24,u25,u26,u27,u28,u29,u30,u31,u32,u33,u34,u35,u36,u37,u38,u39,u40,u41,u42,u43,u44,u45,u46,u47,u48,u49,u50,u51,u52,u53,u54,u55,u56,u57,u58,u59,u60,u61,u62,u63,u64,u65,u66,u67,u68,u69,u70,u71,u72,u73,u74,u75,u76,u77,u78,u79,u80,u81,u82,u83,u84,u85,u86,u87,u88,u89,u90,u91,u92,u93,u94,u95,u96],[]⟩ w:=by
 have cx:w.cell? ⟨x,0,none⟩=some (.pointer (some ⟨B,0,none⟩)):=blk_cell hb.bx rfl
 have cy:w.cell? ⟨y,0,none⟩=some (.pointer (some ⟨cb,0,none⟩)):=blk_cell hb.by_ rfl
 have hxc:x≠cb:=fun e=>by have:=hb.bx;rw [e,hc] at this;simp at this
 have hyc:y≠cb:=fun e=>by have:=hb.by_;rw [e,hc] at this;simp at this
 obtain ⟨p0,p1,p2,p3,p4,p5,p6,p7,p8,p9,p10,p11,p12,p13,p14⟩:=hp
 have hlx:=blk_lt hb.bx
 have hly:=blk_lt hb.by_
 have hlc:=blk_lt hc
 have hlp:=cell_blt p0
 simp only at hlp
 have cO:=hide fun w=>once_any B cb w
 have HC:=hide hc
 have HN:=hide hN
 have hu134:=Tryz.underlying134
 clear hb hc hN
 have hkx:∀ (W:World) (i j:Nat) (v:Value),(W.setCell ⟨cb,i,none⟩ v).cell? ⟨x,j,none⟩=W.cell? ⟨x,j,none⟩:=fun W i j v=>World.cell?_of_block (Below.heap_setCell _ _ _ _ (fun e=>hxc e))
 have hky:∀ (W:World) (i j:Nat) (v:Value),(W.setCell ⟨cb,i,none⟩ v).cell? ⟨y,j,none⟩=W.cell? ⟨y,j,none⟩:=fun W i j v=>World.cell?_of_block (Below.heap_setCell _ _ _ _ (fun e=>hyc e))
 have hkp:∀ (W:World) (i j:Nat) (v:Value),(W.setCell ⟨cb,i,none⟩ v).cell? ⟨pb,j,none⟩=W.cell? ⟨pb,j,none⟩:=fun W i j v=>World.cell?_of_block (Below.heap_setCell _ _ _ _ (fun e=>hpb e))
 have hsx:∀ (W:World) (vs:List Value) (j:Nat),(W.setCells cb 2 vs).cell? ⟨x,j,none⟩=W.cell? ⟨x,j,none⟩:=fun W vs j=>World.cell?_of_block (setCells_ne hxc _ _ _)
 have hsy:∀ (W:World) (vs:List Value) (j:Nat),(W.setCells cb 2 vs).cell? ⟨y,j,none⟩=W.cell? ⟨y,j,none⟩:=fun W vs j=>World.cell?_of_block (setCells_ne hyc _ _ _)
 have hsp:∀ (W:World) (vs:List Value) (j:Nat),(W.setCells cb 2 vs).cell? ⟨pb,j,none⟩=W.cell? ⟨pb,j,none⟩:=fun W vs j=>World.cell?_of_block (setCells_ne hpb _ _ _)
 conv=>arg 2;whnf
 refine wp_seq_k fun K aK=>?_
 have HK:=hide aK
 clear aK
 go_region_held3 (fun w'=>w'.cell? ⟨x,0,none⟩=some (.pointer (some ⟨B,0,none⟩))∧w'.cell? ⟨y,0,none⟩=some (.pointer (some ⟨cb,0,none⟩))∧w'.cell? ⟨pb,0,none⟩=some (.int .i64 p.kind)∧w'.cell? ⟨pb,1,none⟩=some (.bool p.clean)∧w'.cell? ⟨pb,2,none⟩=some (.bool p.will)∧w'.cell? ⟨pb,3,none⟩=some (.int .i64 p.keep)∧w'.cell? ⟨pb,4,none⟩=some (.string (bs p.client))∧w'.cell? ⟨pb,5,none⟩=some (.bool p.present)∧w'.cell? ⟨pb,6,none⟩=some (.int .i64 p.code)∧w'.cell? ⟨pb,7,none⟩=some (.bool p.dup)∧w'.cell? ⟨pb,8,none⟩=some (.int .i64 p.qos)∧w'.cell? ⟨pb,9,none⟩=some (.bool p.retain)∧w'.cell? ⟨pb,10,none⟩=some (.string (bs p.topic))∧w'.cell? ⟨pb,11,none⟩=some (.string (bs p.payload))∧w'.cell? ⟨pb,12,none⟩=some (.int .i64 p.id)∧w'.cell? ⟨pb,13,none⟩=some (.slice f1 f2 f3)∧w'.cell? ⟨pb,14,none⟩=some (.slice c1 c2 c3))
  (go_keep)
  (first
   | (go_at_call 130
      refine (cO.out _).mono ?_
      rintro e w1 ⟨a,b,a',b',rfl,hB1,k1,k2,l1,l2,l3,l4⟩
      have hB:Below w.heap.size w w1:=(Below.refl w.heap.size w).drew.trans hB1
      have dx:w1.cell? ⟨x,0,none⟩=some (.pointer (some ⟨B,0,none⟩)):=by rw [hB.cell hlx];exact cx
      have dy:w1.cell? ⟨y,0,none⟩=some (.pointer (some ⟨cb,0,none⟩)):=by rw [hB.cell hly];exact cy
      have q0:w1.cell? ⟨pb,0,none⟩=some (.int .i64 p.kind):=by rw [hB.cell hlp];exact p0
      have q1:w1.cell? ⟨pb,1,none⟩=some (.bool p.clean):=by rw [hB.cell hlp];exact p1
      have q2:w1.cell? ⟨pb,2,none⟩=some (.bool p.will):=by rw [hB.cell hlp];exact p2
      have q3:w1.cell? ⟨pb,3,none⟩=some (.int .i64 p.keep):=by rw [hB.cell hlp];exact p3
      have q4:w1.cell? ⟨pb,4,none⟩=some (.string (bs p.client)):=by rw [hB.cell hlp];exact p4
      have q5:w1.cell? ⟨pb,5,none⟩=some (.bool p.present):=by rw [hB.cell hlp];exact p5
      have q6:w1.cell? ⟨pb,6,none⟩=some (.int .i64 p.code):=by rw [hB.cell hlp];exact p6
      have q7:w1.cell? ⟨pb,7,none⟩=some (.bool p.dup):=by rw [hB.cell hlp];exact p7
      have q8:w1.cell? ⟨pb,8,none⟩=some (.int .i64 p.qos):=by rw [hB.cell hlp];exact p8
      have q9:w1.cell? ⟨pb,9,none⟩=some (.bool p.retain):=by rw [hB.cell hlp];exact p9
      have q10:w1.cell? ⟨pb,10,none⟩=some (.string (bs p.topic)):=by rw [hB.cell hlp];exact p10
      have q11:w1.cell? ⟨pb,11,none⟩=some (.string (bs p.payload)):=by rw [hB.cell hlp];exact p11
      have q12:w1.cell? ⟨pb,12,none⟩=some (.int .i64 p.id):=by rw [hB.cell hlp];exact p12
      have q13:w1.cell? ⟨pb,13,none⟩=some (.slice f1 f2 f3):=by rw [hB.cell hlp];exact p13
      have q14:w1.cell? ⟨pb,14,none⟩=some (.slice c1 c2 c3):=by rw [hB.cell hlp];exact p14
      have hb1:=(hB.block _ hlc).trans HC.out
      have ht1:w1.there cb 2 15:=blk_there hb1 (by rw [conC_size];omega)
      obtain ⟨v18,h18⟩:=blk_some (i:=18) hb1 (by rw [conC_size];omega)
      obtain ⟨v19,h19⟩:=blk_some (i:=19) hb1 (by rw [conC_size];omega)
      obtain ⟨v20,h20⟩:=blk_some (i:=20) hb1 (by rw [conC_size];omega)
      obtain ⟨v21,h21⟩:=blk_some (i:=21) hb1 (by rw [conC_size];omega)
      obtain ⟨v22,h22⟩:=blk_some (i:=22) hb1 (by rw [conC_size];omega)
      obtain ⟨v23,h23⟩:=blk_some (i:=23) hb1 (by rw [conC_size];omega)
      obtain ⟨v24,h24⟩:=blk_some (i:=24) hb1 (by rw [conC_size];omega)
      obtain ⟨v25,h25⟩:=blk_some (i:=25) hb1 (by rw [conC_size];omega)
      obtain ⟨v26,h26⟩:=blk_some (i:=26) hb1 (by rw [conC_size];omega)
      obtain ⟨v27,h27⟩:=blk_some (i:=27) hb1 (by rw [conC_size];omega)
      obtain ⟨v28,h28⟩:=blk_some (i:=28) hb1 (by rw [conC_size];omega)
      obtain ⟨v29,h29⟩:=blk_some (i:=29) hb1 (by rw [conC_size];omega)
      obtain ⟨v30,h30⟩:=blk_some (i:=30) hb1 (by rw [conC_size];omega)
      obtain ⟨v31,h31⟩:=blk_some (i:=31) hb1 (by rw [conC_size];omega)
      obtain ⟨v32,h32⟩:=blk_some (i:=32) hb1 (by rw [conC_size];omega)
      obtain ⟨v33,h33⟩:=blk_some (i:=33) hb1 (by rw [conC_size];omega)
      have hfz:∀ i,w1.frozen? ⟨cb,i,none⟩=false:=fun i=>blk_frozen hb1
      obtain ⟨cs,hcs⟩:∃ cs,cs=(onceA a b a' b').toList:=⟨_,rfl⟩
      have hcl:cs.length=15:=by rw [hcs];rfl
      have hall:∀ v∈cs,v.oneCell'=true:=fun v hv=>(Array.all_eq_true_iff_forall_mem.1 (onceA_all a b a' b')) v (by rw [hcs] at hv;simpa using hv)
      have hinc:(Tryz.prog.info? 134).map (·.size)=some cs.length:=by rw [hcl];exact infoHand
      rw [show onceA a b a' b'=cs.toArray by rw [hcs,Array.toArray_toList]]
      have hth:((((((((((((((((w1.setCell ⟨cb,18,none⟩ (.pointer (some ⟨sb,0,none⟩))).setCell ⟨cb,19,none⟩ (.int .i64 p.kind)).setCell ⟨cb,20,none⟩ (.bool p.clean)).setCell ⟨cb,21,none⟩ (.bool p.will)).setCell ⟨cb,22,none⟩ (.int .i64 p.keep)).setCell ⟨cb,23,none⟩ (.string (bs p.client))).setCell ⟨cb,24,none⟩ (.bool p.present)).setCell ⟨cb,25,none⟩ (.int .i64 p.code)).setCell ⟨cb,26,none⟩ (.bool p.dup)).setCell ⟨cb,27,none⟩ (.int .i64 p.qos)).setCell ⟨cb,28,none⟩ (.bool p.retain)).setCell ⟨cb,29,none⟩ (.string (bs p.topic))).setCell ⟨cb,30,none⟩ (.string (bs p.payload))).setCell ⟨cb,31,none⟩ (.int .i64 p.id)).setCell ⟨cb,32,none⟩ (.slice f1 f2 f3)).setCell ⟨cb,33,none⟩ (.slice c1 c2 c3)).there cb 2 15:=by
       with_reducible repeat refine there_set ?_
       exact ht1
      clear ht1
      have HCS:=hide hcs
      have HB:=hide hB
      have HB1:=hide hb1
      have HK1:=hide k1
      have HK2:=hide k2
      have HL:Hid (w.heap.size≤a∧w.heap.size≤b∧w.heap.size≤a'∧w.heap.size≤b'):=⟨l1,l2,l3,l4⟩
      clear hcs hB hB1 hb1 k1 k2 l1 l2 l3 l4))
 refine HK.out _ ((w1.setCells cb 18 [.pointer (some ⟨sb,0,none⟩),.int .i64 p.kind,.bool p.clean,.bool p.will,.int .i64 p.keep,.string (bs p.client),.bool p.present,.int .i64 p.code,.bool p.dup,.int .i64 p.qos,.bool p.retain,.string (bs p.topic),.string (bs p.payload),.int .i64 p.id,.slice f1 f2 f3,.slice c1 c2 c3]).setCells cb 2 cs) ?_
 have hb1:But (fun g=>g=cb) w1 ((w1.setCells cb 18 [.pointer (some ⟨sb,0,none⟩),.int .i64 p.kind,.bool p.clean,.bool p.will,.int .i64 p.keep,.string (bs p.client),.bool p.present,.int .i64 p.code,.bool p.dup,.int .i64 p.qos,.bool p.retain,.string (bs p.topic),.string (bs p.payload),.int .i64 p.id,.slice f1 f2 f3,.slice c1 c2 c3]).setCells cb 2 cs):=(But.cells (F:=fun g=>g=cb) rfl [.pointer (some ⟨sb,0,none⟩),.int .i64 p.kind,.bool p.clean,.bool p.will,.int .i64 p.keep,.string (bs p.client),.bool p.present,.int .i64 p.code,.bool p.dup,.int .i64 p.qos,.bool p.retain,.string (bs p.topic),.string (bs p.payload),.int .i64 p.id,.slice f1 f2 f3,.slice c1 c2 c3] w1 18).trans (But.cells (F:=fun g=>g=cb) rfl cs _ 2) (fun _ _ h=>h)
 have hbx:∀ g,g≠cb→((w1.setCells cb 18 [.pointer (some ⟨sb,0,none⟩),.int .i64 p.kind,.bool p.clean,.bool p.will,.int .i64 p.keep,.string (bs p.client),.bool p.present,.int .i64 p.code,.bool p.dup,.int .i64 p.qos,.bool p.retain,.string (bs p.topic),.string (bs p.payload),.int .i64 p.id,.slice f1 f2 f3,.slice c1 c2 c3]).setCells cb 2 cs).heap[g]?=w1.heap[g]?:=fun g hg=>(setCells_ne hg cs _ 2).trans (setCells_ne hg [.pointer (some ⟨sb,0,none⟩),.int .i64 p.kind,.bool p.clean,.bool p.will,.int .i64 p.keep,.string (bs p.client),.bool p.present,.int .i64 p.code,.bool p.dup,.int .i64 p.qos,.bool p.retain,.string (bs p.topic),.string (bs p.payload),.int .i64 p.id,.slice f1 f2 f3,.slice c1 c2 c3] w1 18)
 have hbl:=setCells_blk cs _ 2 _ (setCells_blk [.pointer (some ⟨sb,0,none⟩),.int .i64 p.kind,.bool p.clean,.bool p.will,.int .i64 p.keep,.string (bs p.client),.bool p.present,.int .i64 p.code,.bool p.dup,.int .i64 p.qos,.bool p.retain,.string (bs p.topic),.string (bs p.payload),.int .i64 p.id,.slice f1 f2 f3,.slice c1 c2 c3] w1 18 _ HB1.out)
 have hbc:∀ g,w.heap.size≤g→g≠cb:=fun g hg=>by omega
 obtain ⟨l1,l2,l3,l4⟩:=HL.out
 exact HN.out _ a b a' b' _ _ _ _ _ _ _ _ _ _ _ _ _ _ _ _ _ _ _ _ _ _ _ _ _ _ _ _ _ _ _ _ _ _ _ _ _ _ _ _ _ _ _ _ _ _ _ _ _ _ _ _ _ _ _ _ _ _ _ _ _ _ _ _ _ _ _ _ _ _ _ _ _ _ _ _ _ _ _ _ _ _ _ _ _ _ _ _ _ _ _ _ _ ((But.of_below HB.out).trans hb1 (fun _ _ h=>h)) (by rw [← HCS.out];exact hbl) (HK1.out.keep (hbx _ (hbc _ l1)) (hbx _ (hbc _ l2))) (HK2.out.keep (hbx _ (hbc _ l3)) (hbx _ (hbc _ l4))) l1 l2 l3 l4
end br
namespace br
open Go.RowKit topPlain topWalks Go.Conc
theorem infoMsg:(Tryz.prog.info? 206).map (fun i=>i.bytes)=some 48:=by kernel_rfl
theorem mkChan (n:Nat) (w:World) (h:n≤100):(Instr.makeChan 185 (.int .i64 (n:Int))).run Tryz.prog w=.ok (.chan (some w.heap.size)) (w.alloc (.chan n #[] false 0 0 false)):=by
 obtain ⟨i,hi,hb⟩:=Option.map_eq_some_iff.1 infoMsg
 exact run_makeChan (P:=Tryz.prog) (w:=w) Tryz.underlying185 hi .i64 n (by omega) (by rw [hb];omega)
def newS (win:Int) (que:Nat):Ses:=⟨[],[],win,que,[],[],0⟩
def SNewPost (win:Int) (que:Nat) (w:World) (e:Ending) (w':World):Prop:=∃ sb V,e=.returned (.pointer (some ⟨sb,0,none⟩))∧Below w.heap.size w w'∧SesAt w' sb V (newS win que)∧V.snd=none∧∀ b,V.has sb b→w.heap.size≤b
theorem ses_new {W:World} {sb kb cb:Nat} {win:Int} {que:Nat} (h1:W.heap[sb]?=some (.cells #[.slice none 0 0,.map (some kb),.nilFunc,.int .i64 win,.chan (some cb),.slice none 0 0,.int .i64 0] 188)) (h2:W.heap[kb]?=some (.map #[] 0)) (h3:W.heap[cb]?=some (.chan que #[] false 0 0 false)) :
 SesAt W sb ⟨.slice none 0 0,kb,none,cb,.slice none 0 0⟩ (newS win que):=
 ⟨h1,⟨rfl,Or.inl ⟨rfl,rfl⟩⟩,⟨rfl,Or.inl ⟨rfl,rfl⟩⟩,⟨.map [],⟨#[],0,h2,⟨by simp,Go.MapKept.stamped_empty 0,by simp⟩,Nat.le_refl _,rfl⟩,fun id _=>rfl⟩,⟨0,0,h3⟩⟩
set_option maxHeartbeats 400000 in
theorem snew_any (win:Int) (que:Nat) (w:World) (hq:que≤8) :
 Calls Tryz.prog 129 #[.agg #[.int .i64 win,.int .i64 (que:Int)]] w (SNewPost win que w):=by
 have hmm:=@run_makeMap Tryz.prog
 have hmc:=fun w=>mkChan que w (by omega)
 clear hq
 go_enter Tryz.func129,Tryz.ntmps129
 go_wp2
 go_region_held3 (fun w'=>w'.cell? ⟨w.heap.size,0,none⟩=some (.int .i64 win)∧w'.cell? ⟨w.heap.size,1,none⟩=some (.int .i64 (que:Int))) (go_keep) (fail)
 all_goals
  go_wp2
  go_ret
 · have hb:Below w.heap.size w ((((w.alloc (.cells #[.int .i64 win,.int .i64 (que:Int)] 40)).alloc (.map #[] 0)).alloc (.chan que #[] false 0 0 false)).alloc (.cells #[.slice none 0 0,.map (some (w.heap.size+1)),.nilFunc,.int .i64 win,.chan (some (w.heap.size+1+1)),.slice none 0 0,.int .i64 0] 188)).drew:=(((((Below.refl w.heap.size w).alloc (Nat.le_refl _) _).alloc (by simp) _).alloc (by simp;omega) _).alloc (by simp;omega) _).drew
   refine ⟨w.heap.size+1+1+1,_,rfl,hb,ses_new (kb:=w.heap.size+1) (cb:=w.heap.size+1+1) (que:=que) (win:=win) ?_ ?_ ?_,rfl,?_⟩
   · have:=heap_alloc_new (((w.alloc (.cells #[.int .i64 win,.int .i64 (que:Int)] 40)).alloc (.map #[] 0)).alloc (.chan que #[] false 0 0 false)) (.cells #[.slice none 0 0,.map (some (w.heap.size+1)),.nilFunc,.int .i64 win,.chan (some (w.heap.size+1+1)),.slice none 0 0,.int .i64 0] 188)
     simpa [World.drew] using this
   · show (World.alloc _ _).heap[_]?=_
     rw [Below.heap_alloc _ _ _ (by simp),Below.heap_alloc _ _ _ (by simp)]
     have:=heap_alloc_new (w.alloc (.cells #[.int .i64 win,.int .i64 (que:Int)] 40)) (.map #[] 0)
     simpa using this
   · show (World.alloc _ _).heap[_]?=_
     rw [Below.heap_alloc _ _ _ (by simp)]
     have:=heap_alloc_new ((w.alloc (.cells #[.int .i64 win,.int .i64 (que:Int)] 40)).alloc (.map #[] 0)) (.chan que #[] false 0 0 false)
     simpa using this
   · rintro b (rfl | hb | rfl | rfl | hb)
     · omega
     · cases hb
     · simp only;omega
     · simp only;omega
     · cases hb
 · have hb:Below w.heap.size w ((((w.alloc (.cells #[.int .i64 win,.int .i64 (que:Int)] 40)).alloc (.chan que #[] false 0 0 false)).alloc (.map #[] 0)).alloc (.cells #[.slice none 0 0,.map (some (w.heap.size+1+1)),.nilFunc,.int .i64 win,.chan (some (w.heap.size+1)),.slice none 0 0,.int .i64 0] 188)).drew:=(((((Below.refl w.heap.size w).alloc (Nat.le_refl _) _).alloc (by simp) _).alloc (by simp;omega) _).alloc (by simp;omega) _).drew
   refine ⟨w.heap.size+1+1+1,_,rfl,hb,ses_new (kb:=w.heap.size+1+1) (cb:=w.heap.size+1) (que:=que) (win:=win) ?_ ?_ ?_,rfl,?_⟩
   · have:=heap_alloc_new (((w.alloc (.cells #[.int .i64 win,.int .i64 (que:Int)] 40)).alloc (.chan que #[] false 0 0 false)).alloc (.map #[] 0)) (.cells #[.slice none 0 0,.map (some (w.heap.size+1+1)),.nilFunc,.int .i64 win,.chan (some (w.heap.size+1)),.slice none 0 0,.int .i64 0] 188)
     simpa [World.drew] using this
   · show (World.alloc _ _).heap[_]?=_
     rw [Below.heap_alloc _ _ _ (by simp)]
     have:=heap_alloc_new ((w.alloc (.cells #[.int .i64 win,.int .i64 (que:Int)] 40)).alloc (.chan que #[] false 0 0 false)) (.map #[] 0)
     simpa using this
   · show (World.alloc _ _).heap[_]?=_
     rw [Below.heap_alloc _ _ _ (by simp),Below.heap_alloc _ _ _ (by simp)]
     have:=heap_alloc_new (w.alloc (.cells #[.int .i64 win,.int .i64 (que:Int)] 40)) (.chan que #[] false 0 0 false)
     simpa using this
   · rintro b (rfl | hb | rfl | rfl | hb)
     · omega
     · cases hb
     · simp only;omega
     · simp only;omega
     · cases hb
end br
namespace br
open Go.RowKit topPlain topWalks decPlain Go.Maps
theorem keyStr:Keyed Tryz.prog 9:=string_keyed Tryz.underlying9
theorem key_bs (l:List UInt8) (h:l.length≤1000):keyOf Tryz.prog 9 (.string (bs l))=some (.string l):=by
 have hs:(bs l).size=l.length:=by simp [bs,ByteArray.size]
 exact Go.WideMaps.keyOf_string_mk Tryz.underlying9 (s:=bs l) (by rw [hs];unfold maxLen;omega)
theorem zeroPtr (w:World):(zeroValue 135).run Tryz.prog w=.ok (.pointer none) w:=by kernel_rfl
theorem ptr_inv {v:Value} {z:List MemPlace} (h:ptrElem v=some (.nil,z)):v=.pointer none:=by
 unfold ptrElem at h
 split at h
 · cases h
 · rfl
 · cases h
theorem atKey_none {D:DataW Unit} {k:Lit} (h:Maps.has D k=false):D.atKey k .nil=.nil:=Maps.atKey_of_not_has h .nil
set_option maxHeartbeats 1600000 in
set_option maxRecDepth 100000 in
theorem cn_new (B cb x y pb m:Nat) (que:Nat) (client:List UInt8) (D:DataW Unit) (BV:BrV) (ov:Value) (L:List (OutS×Value)) (w:World) (R:Ending→World→Prop) (hb:Boxes w B cb x y) (h:BlkAt w B BV ov L) (hp4:w.cell? ⟨pb,4,none⟩=some (.string (bs client)))
 (hM:w.ownsMap Tryz.prog 9 ptrElem BV.mb m D) (hD:Maps.has D (.string client)=false) (hm:m < 1000) (hcl:client.length≤1000) (hq:BV.que=(que:Int)) (hq8:que≤8)
 (hN:∀ (w':World) (sb:Nat) (V:SesV) (u0 u1 u2 u6 u9 u10 u11 u12 u13 u14 u15 u16 u17 u18 u19 u20 u21 u22 u23 u24 u25 u26 u27 u28 u29 u30 u31 u32 u33 u34 u35 u36 u37 u38 u39 u40 u41 u42 u43 u44 u45 u46 u47 u48 u49 u50 u51 u52 u53 u54 u55 u56 u57 u58 u59 u60 u61 u62 u63 u64 u65 u66 u67 u68 u69 u70 u71 u72 u73 u74 u75 u76 u77 u78 u79 u80 u81 u82 u83 u84 u85 u86 u87 u88 u89 u90 u91 u92 u93 u94 u95 u96:Value),But (fun g=>g=BV.mb) w w'→w'.ownsMap Tryz.prog 9 ptrElem BV.mb (m+1) (D.put (.string client) (.lit (.int .i64 (sb:Int))))→SesAt w' sb V (newS BV.win que)→V.snd=none→(∀ g,V.has sb g→w.heap.size≤g)→Code.wp Tryz.prog (dropS 7 (Tryz.f90.body.getD .skip)) (bodyPost Tryz.prog Tryz.f90 R) ⟨#[u0,u1,u2,.pointer (some ⟨x,0,none⟩),.pointer (some ⟨y,0,none⟩),.pointer (some ⟨pb,0,none⟩),u6,.pointer (some ⟨sb,0,none⟩),.bool false,u9,u10,u11,u12,u13,u14,u15,u16,u17,u18,u19,u20,u21,u22,u23,u24,u25,u26,u27,u28,u29,u30,u31,u32,u33,u34,u35,u36,u37,u38,u39,u40,u41,u42,u43,u44,u45,u46,u47,u48,u49,u50,u51,u52,u53,u54,u55,u56,u57,u58,u59,u60,u61,u62,u63,u64,u65,u66,u67,u68,u69,u70,u71,u72,u73,u74,u75,u76,u77,u78,u79,u80,u81,u82,u83,u84,u85,u86,u87,u88,u89,u90,u91,u92,u93,u94,u95,u96],[]⟩ w')
 (u0 u1 u2 u6 u7 u8 u9 u10 u11 u12 u13 u14 u15 u16 u17 u18 u19 u20 u21 u22 u23 u24 u25 u26 u27 u28 u29 u30 u31 u32 u33 u34 u35 u36 u37 u38 u39 u40 u41 u42 u43 u44 u45 u46 u47 u48 u49 u50 u51 u52 u53 u54 u55 u56 u57 u58 u59 u60 u61 u62 u63 u64 u65 u66 u67 u68 u69 u70 u71 u72 u73 u74 u75 u76 u77 u78 u79 u80 u81 u82 u83 u84 u85 u86 u87 u88 u89 u90 u91 u92 u93 u94 u95 u96:Value) :
 Code.wp Tryz.prog (dropS 5 (Tryz.f90.body.getD .skip)) (bodyPost Tryz.prog Tryz.f90 R) ⟨#[u0,u1,u2,.pointer (some ⟨x,0,none⟩),.pointer (some ⟨y,0,none⟩),.pointer (some ⟨pb,0,none⟩),u6,u7,u8,u9,u10,u11,u12,u13,u14,u15,u16,u17,u18,u19,u20,u21,u22,u23,u24,u25,u26,u27,u28,u29,u30,u31,u32,u33,u34,u35,u36,u37,u38,u39,u40,u41,u42,u43,u44,u45,u46,u47,u48,u49,u50,u51,u52,u53,u54,u55,u56,u57,u58,u59,u60,u61,u62,u63,u64,u65,u66,u67,u68,u69,u70,u71,u72,u73,u74,u75,u76,u77,u78,u79,u80,u81,u82,u83,u84,u85,u86,u87,u88,u89,u90,u91,u92,u93,u94,u95,u96],[]⟩ w:=by
 have cx:w.cell? ⟨x,0,none⟩=some (.pointer (some ⟨B,0,none⟩)):=blk_cell hb.bx rfl
 have b10:w.cell? ⟨B,10,none⟩=some (.map (some BV.mb)):=blk_cell h.blk rfl
 have b0:w.cell? ⟨B,0,none⟩=some (.int .i64 BV.win):=blk_cell h.blk rfl
 have b1:w.cell? ⟨B,1,none⟩=some (.int .i64 (que:Int)):=by rw [← hq];exact blk_cell h.blk rfl
 have hlx:=blk_lt hb.bx
 have hlB:=blk_lt h.blk
 have hlp:=cell_blt hp4
 simp only at hlp
 have hMd:w.drew.ownsMap Tryz.prog 9 ptrElem BV.mb m D:=by obtain ⟨es,cl,k1,k2⟩:=hM;exact ⟨es,cl,k1,k2⟩
 have hlk:∀ W:World,W.ownsMap Tryz.prog 9 ptrElem BV.mb m D→(Instr.lookup 126 (.map (some BV.mb)) (.string (bs client)) true).run Tryz.prog W=.ok (.tuple #[.pointer none,.bool false]) W:=fun W hW=>by
  obtain ⟨v,ps,hrun,hv⟩:=hW.look_ok (t:=126) (e:=135) keyStr Tryz.underlying126 (zeroPtr _) (zd:=.nil) (zp:=[]) rfl (key_bs client hcl)
  rw [atKey_none hD] at hv
  obtain rfl:=ptr_inv hv
  rw [hD] at hrun
  exact hrun
 have cS:=hide fun w=>snew_any BV.win que w hq8
 have HN:=hide hN
 have HM:=hide hM
 clear hb h hN hM
 conv=>arg 2;whnf
 refine wp_seq_k fun K aK=>?_
 have HK:=hide aK
 clear aK
 go_region_held3 (fun w'=>w'.cell? ⟨x,0,none⟩=some (.pointer (some ⟨B,0,none⟩))∧w'.cell? ⟨B,10,none⟩=some (.map (some BV.mb))∧w'.cell? ⟨pb,4,none⟩=some (.string (bs client))∧w'.ownsMap Tryz.prog 9 ptrElem BV.mb m D) (go_keep) (fail)
 go_wp2_with fail
 refine HK.out _ _ ?_
 clear hlk hMd HK K
 refine wp_seq_k fun K2 aK2=>?_
 have HK2:=hide aK2
 clear aK2
 go_wp2_with fail
 refine (cS.out _).mono ?_
 rintro e w1 ⟨sb,V,rfl,hB1,hs1,hsn,hfr⟩
 have hB:Below w.heap.size w w1:=(Below.refl w.heap.size w).drew.trans hB1
 have dx:w1.cell? ⟨x,0,none⟩=some (.pointer (some ⟨B,0,none⟩)):=by rw [hB.cell hlx];exact cx
 have d10:w1.cell? ⟨B,10,none⟩=some (.map (some BV.mb)):=by rw [hB.cell hlB];exact b10
 have d4:w1.cell? ⟨pb,4,none⟩=some (.string (bs client)):=by rw [hB.cell hlp];exact hp4
 have hM1:w1.ownsMap Tryz.prog 9 ptrElem BV.mb m D:=by obtain ⟨es,cl,k1,k2⟩:=HM.out;exact ⟨es,cl,(hB.block _ (blk_lt k1)).trans k1,k2⟩
 have hM1d:w1.drew.ownsMap Tryz.prog 9 ptrElem BV.mb m D:=by obtain ⟨es,cl,k1,k2⟩:=hM1;exact ⟨es,cl,k1,k2⟩
 obtain ⟨w2,hrun2,hM2,hg2⟩:=hM1d.update (t:=126) (e:=135) keyStr Tryz.underlying126 (by unfold maxLen;omega) (key_bs client hcl) (val:=.pointer (some ⟨sb,0,none⟩)) (d:=.lit (.int .i64 (sb:Int))) (ps:=[]) rfl
 have hg2:w1.grownBy w2 (some BV.mb):=⟨hg2.os,hg2.tape,hg2.output,hg2.size,hg2.block⟩
 have hmapb:∃ es cl,w1.heap[BV.mb]?=some (.map es cl):=by obtain ⟨es,cl,k1,_⟩:=hM1;exact ⟨es,cl,k1⟩
 obtain ⟨es,cl,hmb⟩:=hmapb
 have hnm:∀ (b i:Nat) (v:Value),w1.cell? ⟨b,i,none⟩=some v→w2.cell? ⟨b,i,none⟩=some v:=fun b i v hv=>by
  have hne:b≠BV.mb:=fun e=>by subst e;simp [World.cell?,hmb] at hv
  rw [World.cell?_of_block (w:=w1) (hg2.block b (cell_blt hv) (fun e=>hne (Option.some.inj e)))];exact hv
 have e1:=hnm _ _ _ dx
 have e2:=hnm _ _ _ d10
 have e3:=hnm _ _ _ d4
 have hlm:BV.mb < w.heap.size:=by obtain ⟨es,cl,k1,_⟩:=HM.out;exact blk_lt k1
 have hb2:But (fun g=>g=BV.mb) w w2:=(But.of_below hB).trans (But.of_grown (F:=fun g=>g=BV.mb) hg2 (fun b hb=>(Option.some.inj hb).symm)) (fun _ _ h=>h)
 have hs2:SesAt w2 sb V (newS BV.win que):=hs1.keep (fun g hg=>by
  have hne:g≠BV.mb:=fun e=>by have:=hfr g hg;have h2:w.drew.heap.size=w.heap.size:=rfl;omega
  exact hg2.block g (hs1.lt hg) (fun e=>hne (Option.some.inj e)))
 have HF:Hid (∀ g,V.has sb g→w.heap.size≤g):=fun g hg=>hfr g hg
 have HB2:=hide hb2
 have HS2:=hide hs2
 have HM2:=hide hM2
 have HSN:=hide hsn
 clear hs1 hsn hfr hB1 hB hM1 hM1d hM2 hg2 hb2 hs2 hnm hmb cx b10 hp4
 go_wp2_with fail
 go_region_held3 (fun w'=>w'.cell? ⟨x,0,none⟩=some (.pointer (some ⟨B,0,none⟩))∧w'.cell? ⟨B,10,none⟩=some (.map (some BV.mb))∧w'.cell? ⟨pb,4,none⟩=some (.string (bs client))) (go_keep) (fail)
 go_wp2_with fail
 refine HK2.out _ _ ?_
 exact HN.out w2 sb V _ _ _ _ _ _ _ _ _ _ _ _ _ _ _ _ _ _ _ _ _ _ _ _ _ _ _ _ _ _ _ _ _ _ _ _ _ _ _ _ _ _ _ _ _ _ _ _ _ _ _ _ _ _ _ _ _ _ _ _ _ _ _ _ _ _ _ _ _ _ _ _ _ _ _ _ _ _ _ _ _ _ _ _ _ _ _ _ _ _ _ _ HB2.out HM2.out HS2.out HSN.out HF.out
end br
namespace br
open Go.RowKit topPlain topWalks Go.Maps Go.Sort
structure PubRound (n:Nat) (m:Msg) (J:Nat→World→Prop) (k:Nat) (sb:Nat) (q:Int) (a:Bool):Prop where
 asks:∀ w',J k w'→Calls Tryz.prog 144 #[.pointer (some ⟨sb,0,none⟩),.string (bs m.topic)] w' fun e w''=>e=.returned (.tuple #[.int .i64 q,.bool a])∧Below w'.heap.size w' w''
 tell:a=true→∀ w',J k w'→Calls Tryz.prog 145 #[.pointer (some ⟨sb,0,none⟩),msgV (toldS m q false)] w' fun e w''=>e=.returned (.tuple #[])∧J (k+1) w''∧Keep n w' w''
 no:a=false→∀ w',J k w'→J (k+1) w'
theorem own_from {w:World} {C:Nat} {e:TypeId} {sz:Nat} {q:Option Addr} {cap n:Nat} {xs:List Value} (h:w.ownsRow C e sz (.slice q n cap) n xs) {g i:Nat} (hq:q=some ⟨g,i,none⟩):C≤g:=by
 obtain ⟨_,⟨h1,_⟩ | ⟨g',cap',cur,h1,h2,_⟩⟩:=h
 · subst hq;cases h1
 · subst hq;cases h1;exact h2
theorem ptr_lit {v:Value} {z:List MemPlace} {sb:Nat} (h:ptrElem v=some (.lit (.int .i64 ((sb:Nat):Int)),z)):v=.pointer (some ⟨sb,0,none⟩):=by
 unfold ptrElem at h
 split at h
 · simp at h;obtain ⟨h1,_⟩:=h;rw [Int.ofNat.inj h1]
 · simp at h
 · cases h
theorem Keep.trans {n:Nat} {a b c:World} (h:Keep n a b) (k:Keep n b c):Keep n a c:=⟨Nat.le_trans h.1 k.1,fun g h1 h2=>(k.2 g h1 (Nat.lt_of_lt_of_le h2 h.1)).trans (h.2 g h1 h2)⟩
theorem Keep.of_below {n:Nat} {a b:World} (h:RowKit.Below a.heap.size a b):Keep n a b:=⟨h.size,fun g _ h2=>h.block g h2⟩
theorem Keep.refl (n:Nat) (a:World):Keep n a a:=⟨Nat.le_refl _,fun _ _ _=>rfl⟩
set_option maxHeartbeats 800000 in
set_option maxRecDepth 100000 in
theorem publish_any (B mb nn:Nat) (m:Msg) (D:DataW Unit) (ks:List (List UInt8)) (w:World) (J:Nat→World→Prop) (hr:m.retain=false)
 (hks:∀ ss:List (List UInt8),ss.Perm (strKeys D)→ss.mergeSort (fun x y=>decide (x≤y))=ks) (hsz:Maps.size D≤1000000)
 (hJ0:∀ w',Below w.heap.size w w'→J 0 w') (hJm:∀ k w',J k w'→w'.cell? ⟨B,10,none⟩=some (.map (some mb))∧w'.ownsMap Tryz.prog 9 (ptrElem) mb nn D)
 (hJs:∀ k a b,J k a→Below a.heap.size a b→J k b)
 (hR:∀ k c,ks[k]?=some c→c.length≤1000∧∃ sb q a,D.atKey (.string c) .nil=.lit (.int .i64 ((sb:Nat):Int))∧PubRound w.heap.size m J k sb q a) :
 Calls Tryz.prog 110 #[.pointer (some ⟨B,0,none⟩),msgV m] w fun e w'=>e=.returned (.tuple #[])∧J ks.length w':=by
 have HJ0:=hide hJ0
 have HJM:=hide hJm
 have HJS:=hide hJs
 have HR:=hide hR
 have HKS:=hide hks
 have HB:=hide fun o=>(Below.refl w.heap.size w).alloc (Nat.le_refl _) o
 have b10:=(hJm 0 w (hJ0 w (Below.refl _ _))).1
 have hA:=fun o=>alloc_cell b10 o
 clear hJ0 hJm hJs hR hks
 unfold msgV
 rw [hr]
 have HRT:=hide hr
 clear hr
 go_enter Tryz.func110,Tryz.ntmps110
 go_wp2_with fail
 have hA1:=HB.out (.cells #[.string (bs m.topic),.string (bs m.payload),.int .i64 m.qos,.bool false] 206)
 have hnew:=heap_alloc_new w (.cells #[.string (bs m.topic),.string (bs m.payload),.int .i64 m.qos,.bool false] 206)
 clear hA HB
 generalize w.alloc (.cells #[.string (bs m.topic),.string (bs m.payload),.int .i64 m.qos,.bool false] 206)=W0 at *
 refine (keys_any _ _).mono ?_
 rintro e w1 ⟨rfl,hw1⟩
 have hA2:RowKit.Below W0.heap.size W0 w1:=by rw [hw1];exact (Below.refl W0.heap.size W0).alloc (Nat.le_refl _) _
 have hx:w1.heap[W0.heap.size]?=some (.cells #[.map (some mb)] 126):=by rw [hw1];exact heap_alloc_new _ _
 have hB1:RowKit.Below w.heap.size w w1:=hA1.trans (hA2.mono hA1.size)
 have hn1:w1.heap[w.heap.size]?=some (.cells #[.string (bs m.topic),.string (bs m.payload),.int .i64 m.qos,.bool false] 206):=(hA2.block _ (blk_lt hnew)).trans hnew
 have HJ1:=hide (HJ0.out _ hB1)
 have HN1:=hide hn1
 have hl1:=blk_lt hn1
 have cS:=hide (sorted_any W0.heap.size mb nn D ptrElem w1 hx (HJM.out _ _ HJ1.out).2 hsz)
 clear hw1 hA2 hx hB1 hn1 hA1 hnew
 go_wp2_with fail
 refine cS.out.mono ?_
 rintro e w2 ⟨v,ss,rfl,hperm,hrow,hB2⟩
 rw [HKS.out ss hperm] at hrow
 have hlen:ss.length=ks.length:=by rw [← HKS.out ss hperm];simp
 rw [hlen] at hrow
 obtain ⟨q,kap,rfl⟩:=own_form hrow
 have hn2:=(hB2.block _ hl1).trans HN1.out
 have HROW:=hide hrow
 have HJ2:=hide (HJS.out _ _ _ HJ1.out hB2)
 have HN2:=hide hn2
 have HBS:=hide hB2.size
 clear hperm hlen hrow hB2 hn2 cS
 go_wp2_with fail
 go_loopw [23] (fun i wx=>∃ k:Nat,k≤ks.length∧i=.int .i64 k∧J k wx∧Keep w.heap.size w2 wx) (fun i _=>ks.length - (intOf i).toNat)
 case atStart=>exact ⟨0,Nat.zero_le _,rfl,HJ2.out,Keep.refl _ _⟩
 case round =>
  obtain ⟨k,hk,rfl,hJ,hKp⟩:=hrel
  have HJ:=hide hJ
  have HKP:=hide hKp
  clear hJ hKp
  by_cases hlt:k < ks.length
  · obtain ⟨c,hcc⟩:∃ c,ks[k]?=some c:=⟨_,List.getElem?_eq_getElem hlt⟩
    obtain ⟨hc1000,sb,qq,aa,hat,hrd⟩:=HR.out k c hcc
    obtain ⟨g,hqg,hg,hkc,hcm,hcell⟩:=own_at HROW.out (by omega)
    have hge:=own_from HROW.out hqg
    subst hqg
    unfold maxLen at hcm
    have hci:wr.cell? ⟨g,k,none⟩=some (.string (bs c)):=by
     rw [World.cell?_of_block (w:=w2) (HKP.out.2 g (by omega) hg)]
     exact hcell k _ (by simp [hcc];rfl)
    obtain ⟨hm10,hmap⟩:=HJM.out k wr HJ.out
    have hnm:wr.heap[w.heap.size]?=_:=(HKP.out.2 w.heap.size (Nat.le_refl _) (by have:=HBS.out;omega)).trans HN2.out
    have p0:wr.cell? ⟨w.heap.size,0,none⟩=some (.string (bs m.topic)):=blk_cell hnm rfl
    have hlk:(Instr.lookup 126 (.map (some mb)) (.string (bs c)) false).run Tryz.prog wr=.ok (.pointer (some ⟨sb,0,none⟩)) wr:=by
     obtain ⟨v,ps,hrun,hv⟩:=hmap.lookup (t:=126) (e:=135) keyStr Tryz.underlying126 (zeroPtr _) (zd:=.nil) (zp:=[]) rfl (key_bs c hc1000)
     rw [hat] at hv
     rw [ptr_lit hv] at hrun
     exact hrun
    have HNM:=hide hnm
    have HRD:=hide hrd
    have HGE:=hide hge
    have hlm:=blk_lt hnm
    clear hcc hc1000 hat hrd hcell hmap hnm hge
    go_wp2_with fail
    refine (HRD.out.asks _ HJ.out).mono ?_
    rintro e w3 ⟨rfl,hB3⟩
    have hn3:=(hB3.block _ hlm).trans HNM.out
    have HJ3:=hide (HJS.out _ _ _ HJ.out hB3)
    have HK3:=hide (HKP.out.trans (Keep.of_below (n:=w.heap.size) hB3))
    have r0:w3.cell? ⟨w.heap.size,0,none⟩=some (.string (bs m.topic)):=blk_cell hn3 rfl
    have r1:w3.cell? ⟨w.heap.size,1,none⟩=some (.string (bs m.payload)):=blk_cell hn3 rfl
    have r2:w3.cell? ⟨w.heap.size,2,none⟩=some (.int .i64 m.qos):=blk_cell hn3 rfl
    have r3:w3.cell? ⟨w.heap.size,3,none⟩=some (.bool false):=blk_cell hn3 rfl
    clear hB3 hn3 p0 hci hm10 hlk
    cases aa with
    | false =>
      have HJ4:=hide (HRD.out.no rfl _ HJ3.out)
      go_wp2_with fail
      exact ⟨⟨k+1,by omega,by go_num,HJ4.out,HK3.out⟩,by simp [intOf];omega⟩
    | true =>
      have cT:=hide (HRD.out.tell rfl)
      have cO:=hide fun w=>told_any m qq false w
      rw [HRT.out] at cO
      clear HRD
      simp only [msgV,toldS] at cT
      go_wp2_with fail
      refine (cO.out _).mono ?_
      rintro e w4 ⟨rfl,hB4⟩
      have HJ4:=hide (HJS.out _ _ _ HJ3.out hB4)
      have HK4:=hide (HK3.out.trans (Keep.of_below (n:=w.heap.size) hB4))
      clear hB4 r0 r1 r2 r3
      go_wp2_with fail
      refine (cT.out _ HJ4.out).mono ?_
      rintro e w5 ⟨rfl,hJ5,hK5⟩
      have HJ5:=hide hJ5
      have HK5:=hide (HK4.out.trans hK5)
      clear hJ5 hK5
      go_wp2_with fail
      exact ⟨⟨k+1,by omega,by go_num,HJ5.out,HK5.out⟩,by simp [intOf];omega⟩
  · go_wp2
    go_end0
    have hkl:k=ks.length:=by omega
    subst hkl
    exact ⟨rfl,HJ.out⟩
end br
end Go.Proofs.YtnmfmoimjkoieaaGreatDoor
