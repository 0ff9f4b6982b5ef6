import Derived.Test.YtnmfmoimjkoieaaGreatDoorF01
import Derived.Test.YtnmfmoimjkoieaaGreatDoorF41
namespace Go.Proofs.YtnmfmoimjkoieaaGreatDoor
namespace kp
open Go.RowKit topPlain topWalks decPlain br
def msgP (q id:Int) (pay:List UInt8):Pkt:={ zP with kind:=3,qos:=q,id:=id,topic:=[116],payload:=pay }
structure HeardK (w:World) (lb k g cap:Nat) (V:LineV) (kind id:Int):Prop where
 line:LineAt w lb V
 got:V.got k=.slice (some ⟨g,0,none⟩) 1 cap
 cap1:1≤cap
 capm:cap≤maxLen
 kind:w.cell? ⟨g,0,none⟩=some (.int .i64 kind)
 id:w.cell? ⟨g,12,none⟩=some (.int .i64 id)
 ne:g≠lb
set_option maxHeartbeats 1600000 in
set_option maxRecDepth 100000 in
theorem spoken1 (b lb:Nat) (id:Int) (pay:List UInt8) (w:World) (R:World→Prop) (hc:w.cell? ⟨b,0,none⟩=some (.pointer (some ⟨lb,0,none⟩)))
 (hS:∀ w',Below w.heap.size w w'→Calls Tryz.prog 50 #[.pointer (some ⟨lb,0,none⟩),.int .i64 1,.agg (pkK (msgP 1 id pay))] w' fun e w''=>e=.returned (.tuple #[])∧R w''∧w''.cell? ⟨b,0,none⟩=some (.pointer (some ⟨lb,0,none⟩))∧∃ g cap V',HeardK w'' lb 1 g cap V' 4 id) :
 Calls Tryz.prog 61 #[.pointer (some ⟨b,0,none⟩),.int .i64 1,.int .i64 id,.string (bs pay)] w fun e w'=>∃ w1,e=.returned (.bool true)∧R w1∧w'=w1.setCell ⟨lb,2,none⟩ (.slice none 0 0):=by
 have HS:=hide hS
 have hlt:=cell_blt hc
 simp only at hlt
 simp only [pkK,msgP,zP] at HS
 clear hS
 go_enter Tryz.func61,Tryz.ntmps61
 go_wp2_with fail
 obtain ⟨W1,hW1⟩:∃ W1,W1=w.alloc (.cells #[.int .i64 3,.bool false,.bool false,.int .i64 0,.string ⟨#[]⟩,.bool false,.int .i64 0,.bool false,.int .i64 1,.bool false,.string ⟨#[116]⟩,.string (bs pay),.int .i64 id,.slice none 0 0,.slice none 0 0] 36):=⟨_,rfl⟩
 have hn1:W1.heap[w.heap.size]?=some (.cells #[.int .i64 3,.bool false,.bool false,.int .i64 0,.string ⟨#[]⟩,.bool false,.int .i64 0,.bool false,.int .i64 1,.bool false,.string ⟨#[116]⟩,.string (bs pay),.int .i64 id,.slice none 0 0,.slice none 0 0] 36):=by rw [hW1];exact heap_alloc_new _ _
 have hB1:Below w.heap.size w W1:=by rw [hW1];exact (Below.refl w.heap.size w).alloc (Nat.le_refl _) _
 rw [← hW1]
 have c0:W1.cell? ⟨b,0,none⟩=some (.pointer (some ⟨lb,0,none⟩)):=by rw [hB1.cell hlt];exact hc
 obtain ⟨d0,d1,d2,d3,d4,d5,d6,d7,d8,d9,d10,d11,d12,d13,d14⟩:=cells15 hn1
 have hl1:=blk_lt hn1
 have hlb1:b < W1.heap.size:=by omega
 have cH:=hide (HS.out _ hB1.drew)
 clear hW1 hn1 hB1
 go_region_with (
  refine cH.out.mono ?_
  rintro e w2 ⟨rfl,hR,hb0,g,cap,V',hH⟩
  have HR:=hide hR
  have HH:=hide hH
  have cHd:=hide (heard_any lb 1 V' w2 hH.line (by omega) ⟨_,_,_,hH.got⟩)
  rw [hH.got] at cHd
  clear hR hH c0 d0 d1 d2 d3 d4 d5 d6 d7 d8 d9 d10 d11 d12 d13 d14)
 all_goals
  go_wp2_with fail
  refine cHd.out.mono ?_
  rintro e w3 ⟨rfl,hw3,hl3⟩
  have m0:w3.cell? ⟨g,0,none⟩=some (.int .i64 4):=by
   rw [hw3,World.cell?_of_block (w:=w2) (Below.heap_setCell _ _ _ _ HH.out.ne)];exact HH.out.kind
  have m12:w3.cell? ⟨g,12,none⟩=some (.int .i64 id):=by
   rw [hw3,World.cell?_of_block (w:=w2) (Below.heap_setCell _ _ _ _ HH.out.ne)];exact HH.out.id
  have hcap1:=HH.out.cap1
  have hcapm:cap≤9223372036854775807:=by have:=HH.out.capm;unfold maxLen at this;omega
  have HW3:=hide hw3
  clear hw3 hl3 cHd
  go_wp2_with fail
  go_ret
  exact ⟨w2,rfl,HR.out,HW3.out⟩
set_option maxHeartbeats 1600000 in
set_option maxRecDepth 100000 in
theorem spoken2 (b lb:Nat) (id:Int) (pay:List UInt8) (w:World) (R:World→Prop) (hc:w.cell? ⟨b,0,none⟩=some (.pointer (some ⟨lb,0,none⟩)))
 (hS:∀ w',Below w.heap.size w w'→Calls Tryz.prog 50 #[.pointer (some ⟨lb,0,none⟩),.int .i64 1,.agg (pkK (msgP 2 id pay))] w' fun e w''=>e=.returned (.tuple #[])∧R w''∧w''.cell? ⟨b,0,none⟩=some (.pointer (some ⟨lb,0,none⟩))∧∃ g cap V',HeardK w'' lb 1 g cap V' 5 id) :
 Calls Tryz.prog 61 #[.pointer (some ⟨b,0,none⟩),.int .i64 2,.int .i64 id,.string (bs pay)] w fun e w'=>∃ w1,e=.returned (.bool true)∧R w1∧w'=w1.setCell ⟨lb,2,none⟩ (.slice none 0 0):=by
 have HS:=hide hS
 have hlt:=cell_blt hc
 simp only at hlt
 simp only [pkK,msgP,zP] at HS
 clear hS
 go_enter Tryz.func61,Tryz.ntmps61
 go_wp2_with fail
 obtain ⟨W1,hW1⟩:∃ W1,W1=w.alloc (.cells #[.int .i64 3,.bool false,.bool false,.int .i64 0,.string ⟨#[]⟩,.bool false,.int .i64 0,.bool false,.int .i64 2,.bool false,.string ⟨#[116]⟩,.string (bs pay),.int .i64 id,.slice none 0 0,.slice none 0 0] 36):=⟨_,rfl⟩
 have hn1:W1.heap[w.heap.size]?=some (.cells #[.int .i64 3,.bool false,.bool false,.int .i64 0,.string ⟨#[]⟩,.bool false,.int .i64 0,.bool false,.int .i64 2,.bool false,.string ⟨#[116]⟩,.string (bs pay),.int .i64 id,.slice none 0 0,.slice none 0 0] 36):=by rw [hW1];exact heap_alloc_new _ _
 have hB1:Below w.heap.size w W1:=by rw [hW1];exact (Below.refl w.heap.size w).alloc (Nat.le_refl _) _
 rw [← hW1]
 have c0:W1.cell? ⟨b,0,none⟩=some (.pointer (some ⟨lb,0,none⟩)):=by rw [hB1.cell hlt];exact hc
 obtain ⟨d0,d1,d2,d3,d4,d5,d6,d7,d8,d9,d10,d11,d12,d13,d14⟩:=cells15 hn1
 have hl1:=blk_lt hn1
 have hlb1:b < W1.heap.size:=by omega
 have cH:=hide (HS.out _ hB1.drew)
 clear hW1 hn1 hB1
 go_region_with (
  refine cH.out.mono ?_
  rintro e w2 ⟨rfl,hR,hb0,g,cap,V',hH⟩
  have HR:=hide hR
  have HH:=hide hH
  have cHd:=hide (heard_any lb 1 V' w2 hH.line (by omega) ⟨_,_,_,hH.got⟩)
  rw [hH.got] at cHd
  clear hR hH c0 d0 d1 d2 d3 d4 d5 d6 d7 d8 d9 d10 d11 d12 d13 d14)
 all_goals
  go_wp2_with fail
  refine cHd.out.mono ?_
  rintro e w3 ⟨rfl,hw3,hl3⟩
  have m0:w3.cell? ⟨g,0,none⟩=some (.int .i64 5):=by
   rw [hw3,World.cell?_of_block (w:=w2) (Below.heap_setCell _ _ _ _ HH.out.ne)];exact HH.out.kind
  have m12:w3.cell? ⟨g,12,none⟩=some (.int .i64 id):=by
   rw [hw3,World.cell?_of_block (w:=w2) (Below.heap_setCell _ _ _ _ HH.out.ne)];exact HH.out.id
  have hcap1:=HH.out.cap1
  have hcapm:cap≤9223372036854775807:=by have:=HH.out.capm;unfold maxLen at this;omega
  have HW3:=hide hw3
  clear hw3 hl3 cHd
  go_wp2_with fail
  go_ret
  exact ⟨w2,rfl,HR.out,HW3.out⟩
end kp
namespace kp
open Go.RowKit topPlain topWalks decPlain br
open rd (ints)
def ackK (k id:Int):Pkt:={ zP with kind:=k,id:=id }
structure SeesOk (b lb:Nat) (R:World→Prop) (w:World) (q:Option Addr) (n c:Nat) (V:LineV):Prop where
 line:LineAt w lb V
 cell:w.cell? ⟨b,0,none⟩=some (.pointer (some ⟨lb,0,none⟩))
 ne:b≠lb
 got:V.got 0=.slice q n c
 see:∀ w1,Below w.heap.size w w1→Calls Tryz.prog 63 #[.pointer (some ⟨b,1,none⟩),.slice q n c,.bool false] (w1.setCell ⟨lb,1,none⟩ (.slice none 0 0)) fun e w3=>e=.returned (.bool true)∧R w3
theorem so {w:World} {b i j:Nat} {v:Value} {x:Option Value} (h:j≠i) (hx:w.cell? ⟨b,i,none⟩=x):(w.setCell ⟨b,j,none⟩ v).cell? ⟨b,i,none⟩=x:=by
 rw [← hx]
 apply World.cell?_setCell_other
 intro e
 cases e
 exact h rfl
theorem ss {w:World} {a:Addr} {u v:Value} (h:w.cell? a=some u):(w.setCell a v).cell? a=some v:=by apply World.cell?_setCell_same;exact h
def pickN (c:Int) (n:Nat):Nat:=if c < 0 then (-(c+1)).toNat % n else c.toNat % n
theorem pickN_lt (c:Int) {n:Nat} (h:0 < n):pickN c n < n:=by unfold pickN;split<;>exact Nat.mod_lt _ h
theorem pick_is (c:Int) (n:Nat) (w:World) (hn:0 < n) (h1:-9223372036854775808≤c) (h2:c≤9223372036854775807) (hm:n≤9223372036854775807) :
 Calls Tryz.prog 21 #[.int .i64 c,.int .i64 (n:Int)] w fun e w'=>e=.returned (.int .i64 (pickN c n:Int))∧Below w.heap.size w w':=by
 go_enter Tryz.func21,Tryz.ntmps21
 by_cases h:c < 0
 · go_wp2
   go_ret
   obtain ⟨k,hk⟩:=Int.eq_ofNat_of_zero_le (show 0≤-(c+1) by omega)
   refine ⟨?_,Below.refl _ _⟩
   show Ending.returned (.int .i64 (-((c+1).tmod (n:Int))))=_
   rw [← Int.neg_tmod,pickN,if_pos h,hk]
   rfl
 · go_wp2
   go_ret
   obtain ⟨k,rfl⟩:=Int.eq_ofNat_of_zero_le (show 0≤c by omega)
   refine ⟨?_,Below.refl _ _⟩
   rw [pickN,if_neg (by omega)]
   rfl
theorem shut_stg (b r:Nat) (V:StgV) (T Sn:List Int) (O:List Pkt) (w:World) (h:StgAt w b V T O Sn) (hO:O.length≤1000) (hr:r < O.length) :
 Calls Tryz.prog 67 #[.pointer (some ⟨b,1,none⟩),.int .i64 (r:Int)] w fun e w'=>e=.returned (.tuple #[])∧∃ v',StgAt w' b { V with pv:=v' } T (O.eraseIdx r) Sn∧But (fun g=>g=b) w w'∧∀ g,v'.ownBlock=some g→w.heap.size≤g:=by
 refine (shut_any b r V.pv O w (blk_cell h.blk rfl) (blk_frozen h.blk) h.opn h.shp (by omega) hr).mono ?_
 rintro e w4 ⟨rfl,v',w5,hB5,hO5,rfl⟩
 exact ⟨rfl,v',h.setOpn (But.of_below hB5) (own_zero hO5).1 (fun p hp=>h.shp p (List.mem_of_mem_eraseIdx hp)),(But.of_below hB5).trans (But.set (F:=fun g=>g=b) _ _ _ rfl) (fun _ _ f=>f),(own_zero hO5).2⟩
theorem ack_none (b:Nat) (V:StgV) (T Sn:List Int) (n:Int) (w:World) (h:StgAt w b V T [] Sn) :
 Calls Tryz.prog 28 #[.pointer (some ⟨b,0,none⟩),.int .i64 n] w fun e w'=>e=.returned (.bool true)∧Below w.heap.size w w':=by
 obtain ⟨q,kap,hq⟩:=own_form h.opn
 have c3:w.cell? ⟨b,3,none⟩=some (.slice q 0 kap):=by rw [blk_cell h.blk (i:=3) (v:=V.pv) rfl,hq];rfl
 clear h hq
 go_enter Tryz.func28,Tryz.ntmps28
 go_wp2
 go_ret
 exact ⟨rfl,Below.refl _ _⟩
end kp
namespace kp
open Go.RowKit topPlain topWalks decPlain br
set_option maxHeartbeats 1600000 in
set_option maxRecDepth 100000 in
theorem spoken0 (b lb:Nat) (id:Int) (pay:List UInt8) (w:World) (R:World→Prop) (hc:w.cell? ⟨b,0,none⟩=some (.pointer (some ⟨lb,0,none⟩)))
 (hS:∀ w',Below w.heap.size w w'→Calls Tryz.prog 50 #[.pointer (some ⟨lb,0,none⟩),.int .i64 1,.agg (pkK (msgP 0 0 pay))] w' fun e w''=>e=.returned (.tuple #[])∧R w''∧w''.cell? ⟨b,0,none⟩=some (.pointer (some ⟨lb,0,none⟩))∧∃ V',LineAt w'' lb V'∧V'.got 1=.slice none 0 0) :
 Calls Tryz.prog 61 #[.pointer (some ⟨b,0,none⟩),.int .i64 0,.int .i64 id,.string (bs pay)] w fun e w'=>∃ w1,e=.returned (.bool true)∧R w1∧w'=w1.setCell ⟨lb,2,none⟩ (.slice none 0 0):=by
 have HS:=hide hS
 have hlt:=cell_blt hc
 simp only at hlt
 simp only [pkK,msgP,zP] at HS
 clear hS
 go_enter Tryz.func61,Tryz.ntmps61
 go_wp2_with fail
 obtain ⟨W1,hW1⟩:∃ W1,W1=w.alloc (.cells #[.int .i64 3,.bool false,.bool false,.int .i64 0,.string ⟨#[]⟩,.bool false,.int .i64 0,.bool false,.int .i64 0,.bool false,.string ⟨#[116]⟩,.string (bs pay),.int .i64 0,.slice none 0 0,.slice none 0 0] 36):=⟨_,rfl⟩
 have hn1:W1.heap[w.heap.size]?=some (.cells #[.int .i64 3,.bool false,.bool false,.int .i64 0,.string ⟨#[]⟩,.bool false,.int .i64 0,.bool false,.int .i64 0,.bool false,.string ⟨#[116]⟩,.string (bs pay),.int .i64 0,.slice none 0 0,.slice none 0 0] 36):=by rw [hW1];exact heap_alloc_new _ _
 have hB1:Below w.heap.size w W1:=by rw [hW1];exact (Below.refl w.heap.size w).alloc (Nat.le_refl _) _
 rw [← hW1]
 have c0:W1.cell? ⟨b,0,none⟩=some (.pointer (some ⟨lb,0,none⟩)):=by rw [hB1.cell hlt];exact hc
 obtain ⟨d0,d1,d2,d3,d4,d5,d6,d7,d8,d9,d10,d11,d12,d13,d14⟩:=cells15 hn1
 have hl1:=blk_lt hn1
 have hlb1:b < W1.heap.size:=by omega
 have cH:=hide (HS.out _ hB1.drew)
 clear hW1 hn1 hB1
 go_region_with (
  refine cH.out.mono ?_
  rintro e w2 ⟨rfl,hR,hb0,V',hL,hG⟩
  have HR:=hide hR
  have cHd:=hide (heard_any lb 1 V' w2 hL (by omega) ⟨_,_,_,hG⟩)
  rw [hG] at cHd
  clear hR hL hG c0 d0 d1 d2 d3 d4 d5 d6 d7 d8 d9 d10 d11 d12 d13 d14)
 all_goals
  go_wp2_with fail
  refine cHd.out.mono ?_
  rintro e w3 ⟨rfl,hw3,hl3⟩
  have HW3:=hide hw3
  clear hw3 hl3 cHd
  go_wp2_with fail
  go_ret
  exact ⟨w2,rfl,HR.out,HW3.out⟩
end kp
end Go.Proofs.YtnmfmoimjkoieaaGreatDoor
