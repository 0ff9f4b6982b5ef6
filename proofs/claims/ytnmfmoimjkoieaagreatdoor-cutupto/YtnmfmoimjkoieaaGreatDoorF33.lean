import Derived.Test.YtnmfmoimjkoieaaGreatDoorF23
import Derived.Test.YtnmfmoimjkoieaaGreatDoorF06
import Derived.Test.YtnmfmoimjkoieaaGreatDoorF31
import Derived.Test.YtnmfmoimjkoieaaGreatDoorF32
import Derived.Test.YtnmfmoimjkoieaaGreatDoorF27
import Derived.Test.YtnmfmoimjkoieaaGreatDoorF26
namespace Go.Proofs.YtnmfmoimjkoieaaGreatDoor
namespace ew
open Go.RowKit topPlain topWalks decPlain encPlain rd
open rf (FilV IntV)
def CePost (w:World) (R:Option (List UInt8)) (e:Ending) (w':World):Prop:=
 Below w.heap.size w w'∧match R with
  | none=>e=.returned (.tuple #[.slice none 0 0,.int .i64 2])
  | some b=>∃ v,e=.returned (.tuple #[v,.int .i64 0])∧w'.ownsRow w.heap.size 5 1 v b.length (u8s b)
set_option maxHeartbeats 1600000 in
set_option maxRecDepth 100000 in
theorem cEncode_x (ash aw:Addr) (p:Pkt) (fs:List (List UInt8×Int)) (cs:List Int) (w:World) (hf:FilW w p.fv fs) (hc:IntW w p.cv cs) (hE:Errs ash aw w) (hEnv:Env aw w.heap.size w) :
 Calls Tryz.prog 19 #[.agg (pkCells p)] w (CePost w (encL (fwW p) (cbW p) p fs cs)):=by
 have HE:=hide hE
 have cE:=hide fun o=>pEncode_x ash aw p fs cs (w.alloc o) (filW_below hf ((Below.refl _ _).alloc (Nat.le_refl _) o)) (intW_below hc ((Below.refl _ _).alloc (Nat.le_refl _) o)) (hE.below ((Below.refl _ _).alloc (Nat.le_refl _) o)) (by
  have hn:=hEnv.below ((Below.refl _ _).alloc (Nat.le_refl _) o)
  exact ⟨Nat.le_trans hn.low (by simp),Nat.le_refl _,hn.err,hn.inv⟩)
 clear hf hc hE hEnv
 generalize encL (fwW p) (cbW p) p fs cs=R at *
 obtain ⟨kind,clean,will,keep,client,present,code,dup,qos,retain,topic,payload,id,fv,cv⟩:=p
 simp only [pkCells] at cE ⊢
 go_enter Tryz.func19,Tryz.ntmps19
 go_wp2_with fail
 refine (cE.out _).mono ?_
 rintro e w1 ⟨hb1,h1⟩
 have HB1:Hid (Below w.heap.size w w1):=((Below.refl w.heap.size w).alloc (Nat.le_refl _) _).trans (hb1.mono (by simp))
 clear hb1 cE
 cases R with
 | none =>
   obtain ⟨v,n,rfl,hn⟩:=h1
   obtain ⟨wh,c2,rfl,hn2⟩:=hn
   have cN:=hide (errno_wrong ash aw (n+1) (.iface 171 (.agg #[.string wh,c2])) w1 (HE.out.below HB1.out) ⟨wh,c2,rfl,hn2⟩)
   clear hn2
   go_wp2_with (go_at_call 54;refine cN.out.mono ?_;rintro e w2 ⟨rfl,hb2⟩)
   have HB2:=hide (HB1.out.trans (hb2.mono HB1.out.size))
   go_ret2
   exact ⟨HB2.out,rfl⟩
 | some b =>
   obtain ⟨v,rfl,ho⟩:=h1
   have HO:=hide ho
   obtain ⟨q,cap,rfl⟩:=own_slice ho
   clear ho
   have cN:=hide (errno_nil w1)
   go_wp2_with (go_at_call 54;refine cN.out.mono ?_;rintro e w2 ⟨rfl,rfl⟩)
   go_ret2
   exact ⟨HB1.out,_,rfl,own_base HO.out (by simp)⟩
theorem cEncode_any (ash aw:Addr) (p:Pkt) (fs:List (List UInt8×Int)) (cs:List Int) (w:World) (hf:FilV w p.fv fs) (hc:IntV w p.cv cs) (hE:Errs ash aw w) (hEnv:Env aw w.heap.size w) :
 Calls Tryz.prog 19 #[.agg (pkCells p)] w (CePost w (encL (fwW p) (cbW p) p fs cs)):=cEncode_x ash aw p fs cs w (filW_of hf) (intW_of hc) hE hEnv
end ew
namespace br
open Go.RowKit topPlain topWalks decPlain rd ew encPlain rf
theorem ConAt.not {w:World} {B:Nat} {n:Int} {V:ConV} {C:Con} (h:ConAt w B n V C) {b:Nat} {c:Array Value} {t:TypeId} (hb:w.heap[b]?=some (.cells c t)) (ht:t≠137∧t≠5∧t≠55∧t≠124):¬ V.has b:=by
 rintro (rfl | hw | rfl | rfl | rfl | rfl)
 · have:=h.blk;rw [hb] at this;simp at this;exact ht.1 this.2
 · obtain ⟨cur,hc⟩:=own_blk h.wai hw;rw [hb] at hc;simp at hc;exact ht.2.1 hc.2
 · have:=h.b1.bx;rw [hb] at this;simp at this;exact ht.2.2.1 this.2
 · have:=h.b1.by_;rw [hb] at this;simp at this;exact ht.2.2.2 this.2
 · have:=h.b2.bx;rw [hb] at this;simp at this;exact ht.2.2.1 this.2
 · have:=h.b2.by_;rw [hb] at this;simp at this;exact ht.2.2.2 this.2
theorem ConAt.notMap {w:World} {B:Nat} {n:Int} {V:ConV} {C:Con} (h:ConAt w B n V C) {b:Nat} {es:_} {k:Nat} (hb:w.heap[b]?=some (.map es k)):¬ V.has b:=by
 rintro (rfl | hw | rfl | rfl | rfl | rfl)
 · have:=h.blk;rw [hb] at this;simp at this
 · obtain ⟨cur,hc⟩:=own_blk h.wai hw;rw [hb] at hc;simp at hc
 · have:=h.b1.bx;rw [hb] at this;simp at this
 · have:=h.b1.by_;rw [hb] at this;simp at this
 · have:=h.b2.bx;rw [hb] at this;simp at this
 · have:=h.b2.by_;rw [hb] at this;simp at this
theorem SesAt.not {w:World} {sb:Nat} {V:SesV} {S:Ses} (k:SesAt w sb V S) {b:Nat} {c:Array Value} {t:TypeId} (hb:w.heap[b]?=some (.cells c t)) (ht:t≠188∧t≠95∧t≠252):¬ V.has sb b:=by
 rintro (rfl | hh | rfl | rfl | hh)
 · have:=k.blk;rw [hb] at this;simp at this;exact ht.1 this.2
 · obtain ⟨cur,hc⟩:=own_blk k.fil hh;rw [hb] at hc;simp at hc;exact ht.2.1 hc.2
 · obtain ⟨D,⟨es,clock,hk,_⟩,_⟩:=k.kno;rw [hb] at hk;simp at hk
 · obtain ⟨s,r,hk⟩:=k.chn;rw [hb] at hk;simp at hk
 · obtain ⟨cur,hc⟩:=own_blk k.und hh;rw [hb] at hc;simp at hc;exact ht.2.2 hc.2
theorem SesAt.notMap {w:World} {sb:Nat} {V:SesV} {S:Ses} (k:SesAt w sb V S) {b:Nat} {es:_} {n:Nat} (hb:w.heap[b]?=some (.map es n)) (hne:b≠V.kb):¬ V.has sb b:=by
 rintro (rfl | hh | rfl | rfl | hh)
 · have:=k.blk;rw [hb] at this;simp at this
 · obtain ⟨cur,hc⟩:=own_blk k.fil hh;rw [hb] at hc;simp at hc
 · exact hne rfl
 · obtain ⟨s,r,hk⟩:=k.chn;rw [hb] at hk;simp at hk
 · obtain ⟨cur,hc⟩:=own_blk k.und hh;rw [hb] at hc;simp at hc
theorem BlkAt.not {w:World} {B:Nat} {BV:BrV} {ov:Value} {L:List (OutS×Value)} (h:BlkAt w B BV ov L) {b:Nat} {c:Array Value} {t:TypeId} (hb:w.heap[b]?=some (.cells c t)) (ht:t≠131∧t≠66∧t≠5):¬ OutHas B ov b∧∀ o,o∈L→o.2.ownBlock≠some b:=by
 refine ⟨?_,fun o ho e=>?_⟩
 · rintro (rfl | hh)
   · have:=h.blk;rw [hb] at this;simp at this;exact ht.1 this.2
   · obtain ⟨cur,hc⟩:=own_blk h.out.row hh;rw [hb] at hc;simp at hc;exact ht.2.1 hc.2
 · obtain ⟨cur,hc⟩:=own_blk (h.out.dat o ho) e;rw [hb] at hc;simp at hc;exact ht.2.2 hc.2
theorem conC_wv (n:Int) (V:ConV) (C:Con) (v:Value):(conC n V C).setIfInBounds 1 v=conC n { V with wv:=v } C:=by
 obtain ⟨wt,hd,hl⟩:=C
 cases hl<;>kernel_rfl
theorem ConAt.cleared {w:World} {B N:Nat} {n:Int} {V:ConV} {C:Con} {v:Value} (h:ConAt w B n V C) (hC:C.waiting = []) (hv:w.ownsRow N 5 1 v 0 []):ConAt (w.setCell ⟨V.cb,1,none⟩ v) B n { V with wv:=v } C:=by
 have hk:∀ b,b≠V.cb→(w.setCell ⟨V.cb,1,none⟩ v).heap[b]?=w.heap[b]?:=fun b hb=>Below.heap_setCell _ _ _ _ (fun e=>hb e)
 have hbox:∀ {b:Nat} {c:Array Value} {t:TypeId},w.heap[b]?=some (.cells c t)→t≠137→(w.setCell ⟨V.cb,1,none⟩ v).heap[b]?=w.heap[b]?:=fun hb ht=>hk _ (fun e=>by subst e;have:=h.blk;rw [hb] at this;simp at this;exact ht this.2)
 refine ⟨by rw [← conC_wv];exact blk_set _ h.blk,?_,h.b1.keep (hbox h.b1.bx (by decide)) (hbox h.b1.by_ (by decide)),h.b2.keep (hbox h.b2.bx (by decide)) (hbox h.b2.by_ (by decide))⟩
 rw [hC]
 exact own_keep (own_lower hv (Nat.zero_le _)) (fun b hb=>by obtain ⟨cur,hc⟩:=own_blk hv hb;exact hbox hc (by decide))
theorem Sink.cleared {w:World} {B cb x y:Nat} {n:Int} (h:Sink w B cb x y n) (v:Value):Sink (w.setCell ⟨cb,1,none⟩ v) B cb x y n:=by
 obtain ⟨cc,h1,h2⟩:=h.num
 have hk:∀ b,b≠cb→(w.setCell ⟨cb,1,none⟩ v).heap[b]?=w.heap[b]?:=fun b hb=>Below.heap_setCell _ _ _ _ (fun e=>hb e)
 refine ⟨(hk _ (fun e=>?_)).trans h.bx,(hk _ (fun e=>?_)).trans h.by_,_,blk_set _ h1,by simpa using h2⟩
 · subst e;have:=h.bx;rw [h1] at this;simp at this
 · subst e;have:=h.by_;rw [h1] at this;simp at this
structure SideV where
 cv:ConV
 sv:SesV
 x:Nat
 y:Nat
structure Side (w:World) (B k:Nat) (X:SideV) (p:Pkt) (S:Ses):Prop where
 con:ConAt w B (k:Int) X.cv ⟨[],0,some p⟩
 wv:∃ q,X.cv.wv=.slice q 0 0
 ses:SesAt w X.cv.sp X.sv S
 snd:X.sv.snd=some (X.x,X.y)
 snk:Sink w B X.cv.cb X.x X.y (k:Int)
def SideV.has (X:SideV) (b:Nat):Prop:=X.cv.has b∨X.sv.has X.cv.sp b∨b=X.x∨b=X.y
theorem Side.keep {w w':World} {B k:Nat} {X:SideV} {p:Pkt} {S:Ses} (h:Side w B k X p S) (hk:∀ b,X.has b→w'.heap[b]?=w.heap[b]?):Side w' B k X p S:=
 ⟨h.con.keep (fun b hb=>hk b (Or.inl hb)),h.wv,h.ses.keep (fun b hb=>hk b (Or.inr (Or.inl hb))),h.snd,h.snk.keep (hk _ (Or.inr (Or.inr (Or.inl rfl)))) (hk _ (Or.inr (Or.inr (Or.inr rfl)))) (hk _ (Or.inl (Or.inl rfl)))⟩
theorem Side.lt {w:World} {B k:Nat} {X:SideV} {p:Pkt} {S:Ses} (h:Side w B k X p S) {b:Nat} (hb:X.has b):b < w.heap.size:=by
 rcases hb with hb | hb | rfl | rfl
 · exact h.con.lt hb
 · exact h.ses.lt hb
 · exact blk_lt h.snk.bx
 · exact blk_lt h.snk.by_
theorem Side.below {w w':World} {B k:Nat} {X:SideV} {p:Pkt} {S:Ses} (h:Side w B k X p S) (hb:Below w.heap.size w w'):Side w' B k X p S:=h.keep (fun b hx=>hb.block b (h.lt hx))
theorem Side.but {F:Nat→Prop} {w w':World} {B k:Nat} {X:SideV} {p:Pkt} {S:Ses} (h:Side w B k X p S) (hb:But F w w') (hn:∀ b,X.has b→¬ F b):Side w' B k X p S:=h.keep (fun b hx=>hb.keep b (h.lt hx) (hn b hx))
theorem Side.not {w:World} {B k:Nat} {X:SideV} {p:Pkt} {S:Ses} (h:Side w B k X p S) {b:Nat} {c:Array Value} {t:TypeId} (hb:w.heap[b]?=some (.cells c t)) (h1:t≠137∧t≠5∧t≠55∧t≠124) (h2:t≠188∧t≠95∧t≠252):¬ X.has b:=by
 rintro (hh | hh | rfl | rfl)
 · exact h.con.not hb h1 hh
 · exact h.ses.not hb h2 hh
 · have:=h.snk.bx;rw [hb] at this;simp at this;exact h1.2.2.1 this.2
 · have:=h.snk.by_;rw [hb] at this;simp at this;exact h1.2.2.2 this.2
theorem Side.notMap {w:World} {B k:Nat} {X:SideV} {p:Pkt} {S:Ses} (h:Side w B k X p S) {b:Nat} {es:_} {n:Nat} (hb:w.heap[b]?=some (.map es n)) (hne:b≠X.sv.kb):¬ X.has b:=by
 rintro (hh | hh | rfl | rfl)
 · exact h.con.notMap hb hh
 · exact h.ses.notMap hb hne hh
 · have:=h.snk.bx;rw [hb] at this;simp at this
 · have:=h.snk.by_;rw [hb] at this;simp at this
structure Room (N0:Nat) (ash aw:Addr) (w:World) (B:Nat) (BV:BrV) (m:Nat) (D:DataW Unit):Prop where
 gd:Gd N0 ash aw w
 blk:BlkAt w B BV (.slice none 0 0) []
 B0:N0≤B
 mb0:N0≤BV.mb
 clk:BV.clk=0
 win:1≤BV.win
 que:BV.que≤8
 rv:BV.rv=.slice none 0 0
 map:w.ownsMap Tryz.prog 9 ptrElem BV.mb m D
structure LineOf (N0:Nat) (w:World) (lb B:Nat) (V:LineV) (G:Nat→Prop):Prop where
 line:LineAt w lb V
 lb0:N0≤lb
 b:V.b=B
 bad:V.bad=false
 off:∀ n,V.off n=false
 got:∀ n,¬ G n→V.got n=.slice none 0 0
theorem map_keep {w w':World} {b m:Nat} {D:DataW Unit} {t:TypeId} {R:Value→Option (DataW Unit×List MemPlace)} (h:w.ownsMap Tryz.prog t R b m D) (hk:w'.heap[b]?=w.heap[b]?):w'.ownsMap Tryz.prog t R b m D:=by
 obtain ⟨es,cl,k1,k2⟩:=h;exact ⟨es,cl,hk.trans k1,k2⟩
theorem map_blk {w:World} {b m:Nat} {D:DataW Unit} {t:TypeId} {R:Value→Option (DataW Unit×List MemPlace)} (h:w.ownsMap Tryz.prog t R b m D):∃ es cl,w.heap[b]?=some (.map es cl):=by
 obtain ⟨es,cl,k1,k2⟩:=h;exact ⟨es,cl,k1⟩
theorem Room.but {N0:Nat} {ash aw:Addr} {w w':World} {B:Nat} {BV:BrV} {m:Nat} {D:DataW Unit} {F:Nat→Prop} (h:Room N0 ash aw w B BV m D) (hb:But F w w') (h1:¬ F B) (h2:¬ F BV.mb) (h3:∀ b,F b→N0≤b):Room N0 ash aw w' B BV m D:=
 ⟨h.gd.below (hb.below h3 h.gd.env.size),⟨hb.blk h1 h.blk.blk,OutsAt.nil _⟩,h.B0,h.mb0,h.clk,h.win,h.que,h.rv,by obtain ⟨es,cl,hm⟩:=map_blk h.map;exact map_keep h.map (hb.keep _ (blk_lt hm) h2)⟩
theorem LineOf.but {N0:Nat} {w w':World} {lb B:Nat} {V:LineV} {G:Nat→Prop} {F:Nat→Prop} (h:LineOf N0 w lb B V G) (hb:But F w w') (hn:¬ F lb):LineOf N0 w' lb B V G:=⟨hb.blk hn h.line,h.lb0,h.b,h.bad,h.off,h.got⟩
theorem LineOf.seen {N0:Nat} {w:World} {lb B:Nat} {V:LineV} {G:Nat→Prop} (h:LineOf N0 w lb B V G) (k:Nat) (hk:k < 8):LineOf N0 (w.setCell ⟨lb,1+k,none⟩ (.slice none 0 0)) lb B (V.setGot k (.slice none 0 0)) (fun n=>G n∧n≠k):=by
 have hb:w.heap[lb]?=some (.cells (lineC V) 60):=h.line
 refine ⟨?_,h.lb0,h.b,h.bad,h.off,fun n hn=>?_⟩
 · show (w.setCell ⟨lb,1+k,none⟩ (.slice none 0 0)).heap[lb]?=_
   rw [blk_set _ hb,lineC_setGot V hk]
 · show (if n=k then _ else V.got n)=_
   by_cases hnk:n=k
   · rw [if_pos hnk]
   · rw [if_neg hnk];exact h.got n (fun g=>hn ⟨g,hnk⟩)
theorem Room.lb_ne {N0:Nat} {ash aw:Addr} {w:World} {lb B:Nat} {V:LineV} {BV:BrV} {m:Nat} {D:DataW Unit} (h:Room N0 ash aw w B BV m D) (hl:LineAt w lb V):B≠lb∧BV.mb≠lb∧BV.mb≠B:=by
 have hb:w.heap[lb]?=some (.cells (lineC V) 60):=hl
 obtain ⟨es,cl,hm⟩:=map_blk h.map
 refine ⟨fun e=>?_,fun e=>?_,fun e=>?_⟩
 · have:=h.blk.blk;rw [e,hb] at this;simp at this
 · rw [e,hb] at hm;simp at hm
 · have:=h.blk.blk;rw [← e,hm] at this;simp at this
theorem line_but {F:Nat→Prop} {w w':World} {lb:Nat} {V:LineV} (h:LineAt w lb V) (hb:But F w w') (hn:¬ F lb):LineAt w' lb V:=hb.blk hn h
theorem send_all {N0:Nat} {ash aw:Addr} (lb B k:Nat) (p:Pkt) (fs:List (List UInt8×Int)) (cs:List Int) (l:List UInt8) (V:LineV) (R:Nat→Dec) (w:World) (FP:World→World→Value→List (OutS×Value)→Prop)
 (hG:Gd N0 ash aw w) (hlb:N0≤lb) (h:LineAt w lb V) (hb:V.b=B) (hbad:V.bad=false) (hf:FilV w p.fv fs) (hc:IntV w p.cv cs) (hl:encL (fwW p) (cbW p) p fs cs=some l) (hl0:0 < l.length)
 (hF:∀ w' g c,Below w.heap.size w w'→(∀ j x,l[j]?=some x→w'.cell? ⟨g,0+j,none⟩=some (.int .u8 (x.toNat:Int)))→Calls Tryz.prog 24 #[.pointer (some ⟨B,0,none⟩),.int .i64 (k:Int),.slice (some ⟨g,0,none⟩) l.length c] w' fun e w''=>∃ ov L,e=.returned (.tuple #[ov,.int .i64 0])∧FP w' w'' ov L)
 (hFP:∀ w' w'' ov L,Below w.heap.size w w'→FP w' w'' ov L→Gd N0 ash aw w''∧LineAt w'' lb V∧OutsAt w'' ov L∧(∀ (j:Nat) o,L[j]?=some o→o.1.closed=false∧decL o.1.data=.inr (R j,o.1.data.length)∧0 < o.1.data.length∧o.1.data.length≤1000000∧∃ n:Nat,n < 2∧o.1.conn=(n:Int)∧V.got n=.slice none 0 0∧V.off n=false)∧∀ (i j:Nat) (o o':OutS×Value),L[i]?=some o→L[j]?=some o'→o.1.conn=o'.1.conn→i=j) :
 Calls Tryz.prog 50 #[.pointer (some ⟨lb,0,none⟩),.int .i64 (k:Int),.agg (pkK p)] w fun e w'=>e=.returned (.tuple #[])∧∃ w1 w2 ov L,Below w.heap.size w w1∧FP w1 w2 ov L∧Took lb V L R w2 L.length w':=by
 have hblk:w.heap[lb]?=some (.cells (lineC V) 60):=h
 refine sends_any lb B (k:Int) p w (fun w' v=>∃ g c,v=.slice (some ⟨g,0,none⟩) l.length c∧Below w.heap.size w w'∧w'.ownsRow 0 5 1 v l.length (u8s l)) (fun w'' ov=>∃ w1 L,Below w.heap.size w w1∧FP w1 w'' ov L) _ ?_ ?_ ?_ ?_ ?_ ?_ ?_
 · obtain ⟨q,cap,e,_⟩:=hf;exact ⟨_,_,_,e⟩
 · obtain ⟨q,cap,e,_⟩:=hc;exact ⟨_,_,_,e⟩
 · intro w' hb'
   have hG':Gd N0 ash aw w':=hG.below (hb'.mono hG.env.size)
   refine (cEncode_any ash aw p fs cs w' (filV_below hf hb') (intV_below hc hb') hG'.errs hG'.env').mono ?_
   rintro e w'' ⟨hB,hR⟩
   rw [hl] at hR
   obtain ⟨v,rfl,ho⟩:=hR
   obtain ⟨q,cap,rfl⟩:=own_form ho
   obtain ⟨g,rfl,_⟩:=own_at ho hl0
   exact ⟨_,_,_,rfl,g,cap,rfl,hb'.trans (hB.mono hb'.size),own_lower ho (Nat.zero_le _)⟩
 · rintro w' v ⟨g,c,rfl,hb',ho⟩
   rw [← hb]
   exact blk_cell ((hb'.block _ (blk_lt hblk)).trans hblk) rfl
 · rintro w' v ⟨g,c,rfl,hb',ho⟩
   exact ⟨g,c,rfl,hb'.trans (below_drew _ _),own_keep ho (fun _ _=>rfl)⟩
 · rintro w' q n c ⟨g,c',e,hb',ho⟩
   cases e
   refine (hF w' g c hb' ?_).mono ?_
   · intro j x hx
     obtain ⟨b,off,cap,e1,_,_,_,h5⟩:=bytesV_own ho
     cases e1
     exact h5 j x hx
   · rintro e w'' ⟨ov,L,rfl,hP⟩
     exact ⟨ov,rfl,w',L,hb',hP⟩
 · rintro w' ov ⟨w1,L,hb1,hP⟩
   obtain ⟨g1,g2,g3,g4,g5⟩:=hFP w1 w' ov L hb1 hP
   refine (takes_all lb ov L V R w' g1 hlb g3 g2 hbad g4 g5).mono ?_
   rintro e w'' ⟨rfl,hT⟩
   exact ⟨rfl,rfl,w1,w',ov,L,hb1,hP,hT⟩
theorem ConO.but {F:Nat→Prop} {w w':World} {B j:Nat} {V:BrV} {o:Option (ConV×Con)} (h:ConO w B V j o) (hb:But F w w') (hn:∀ CVj Cj,o=some (CVj,Cj)→∀ b,CVj.has b→¬ F b):ConO w' B V j o:=by
 cases o with
 | none=>exact h
 | some x=>obtain ⟨CVj,Cj⟩:=x;exact ⟨h.1,h.2.but hb (hn _ _ rfl)⟩
theorem map_one {M:List (OutS×Value)} {o:OutS} (h:M.map Prod.fst = [o]):∃ dv,M = [(o,dv)]:=by
 match M,h with
 | [(a,dv)],h=>simp at h;subst h;exact ⟨dv,rfl⟩
 | [],h=>simp at h
 | _ :: _ :: _,h=>simp at h
def SideC (B k m que:Nat) (p:Pkt) (D:DataW Unit) (BV:BrV) (CV:ConV) (w w':World):Prop:=
 ∃ X fv cv,Side w' B k X { p with fv:=fv,cv:=cv } (newS BV.win que)∧X.cv.cb=CV.cb∧(∀ g,X.has g→g=CV.cb∨w.heap.size≤g)∧w'.ownsMap Tryz.prog 9 ptrElem BV.mb (m+1) (D.put (.string p.client) (.lit (.int .i64 (X.cv.sp:Int))))∧But (fun g=>g=B∨g=BV.mb∨g=CV.cb) w w'
def FdC (B k m que:Nat) (p:Pkt) (d:List UInt8) (D:DataW Unit) (BV:BrV) (CV:ConV) (w w':World) (ov:Value) (L:List (OutS×Value)):Prop:=
 (∃ dv,L = [(⟨(k:Int),d,false⟩,dv)])∧OutsAt w' ov L∧BlkAt w' B BV (.slice none 0 0) []∧SideC B k m que p D BV CV w w'
theorem feed_conn {N0:Nat} {ash aw:Addr} (B k m que:Nat) (p:Pkt) (l d:List UInt8) (D:DataW Unit) (BV:BrV) (CV:ConV) (cs:Nat→Option (ConV×Con)) (db dc:Nat) (w:World) (hG:Gd N0 ash aw w) (h:BlkAt w B BV (.slice none 0 0) []) (hc:ConAt w B (k:Int) CV ⟨[],0,none⟩) (hWv:∃ q,CV.wv=.slice q 0 0) (hk:k < 8) (hv:BV.cv k=.pointer (some ⟨CV.cb,0,none⟩)) (hclk:BV.clk=0) (hl0:0 < l.length) (hl:l.length≤1000000)
 (hd:∀ j x,l[j]?=some x→w.cell? ⟨db,0+j,none⟩=some (.int .u8 (x.toNat:Int))) (hdec:decL l=.inr ((p,[],[]),l.length)) (hkind:p.kind=1) (hN0:∀ g,CV.has g→N0≤g) (hNm:N0≤BV.mb) (hNB:N0≤B)
 (hcs:∀ j,j < 8→j≠k→ConO w B BV j (cs j)∧∀ CVj Cj,cs j=some (CVj,Cj)→¬ CVj.has CV.cb) (hn:∀ j,j < 8→j≠k→notFor p.client (cs j)) (hne:p.client≠[])
 (hM:w.ownsMap Tryz.prog 9 ptrElem BV.mb m D) (hD:Maps.has D (.string p.client)=false) (hm:Maps.size D < 8) (hm2:m < 1000) (hcl:p.client.length≤1000) (hq:BV.que=(que:Int)) (hq8:que≤8) (hdd:encD (ackS false 0) [] []=d) :
 Calls Tryz.prog 24 #[.pointer (some ⟨B,0,none⟩),.int .i64 (k:Int),.slice (some ⟨db,0,none⟩) l.length dc] w fun e w'=>∃ ov L,e=.returned (.tuple #[ov,.int .i64 0])∧FdC B k m que p d D BV CV w w' ov L:=by
 obtain ⟨HP,hHP⟩:∃ HP:World→World→Prop,HP=fun w1 w2=>∃ w0 sb V CV' x y f1 f2 f3 c1 c2 c3,But (fun g=>g=BV.mb) w1 w0∧w1.heap.size≤x∧w1.heap.size≤y∧CnPost w0 B (k:Int) d { p with fv:=.slice f1 f2 f3,cv:=.slice c1 c2 c3 } que m D BV (.slice none 0 0) [] CV ⟨[],0,none⟩ w2 sb V CV' x y:=⟨_,rfl⟩
 have hcb0:N0≤CV.cb:=hN0 _ (Or.inl rfl)
 have gd1:∀ w' w1 fv cv,Below w.heap.size w w'→ReadPre w' B k BV CV ⟨[],0,none⟩ [] [] w1 fv cv→Gd N0 ash aw w1:=fun w' w1 fv cv hb hpre=>by
  have hG':Gd N0 ash aw w':=hG.below (hb.mono hG.env.size)
  exact hG'.below (hpre.but.below (fun b e=>by subst e;exact hcb0) hG'.env.size)
 have hread:∀ w',Below w.heap.size w w'→Calls Tryz.prog 59 #[.pointer (some ⟨B,0,none⟩),.pointer (some ⟨CV.cb,0,none⟩),.slice (some ⟨db,0,none⟩) l.length dc] w' (ReadPost w' B k BV CV ⟨[],0,none⟩ [] [] HP):=by
  intro w' hb
  refine read_conn (N0:=N0) (ash:=ash) (aw:=aw) B k BV CV ⟨[],0,none⟩ p [] [] l db 0 dc w' HP (hG.below (hb.mono hG.env.size)) (h.below hb) (hc.below hb) rfl hWv rfl hk hv hl0 hl (fun j x hx=>by have:=hd j x hx;rw [hb.cell (cell_blt this)];exact this) hdec hkind hN0 ?_ ?_
  · intro w1 fv cv hpre
    have hG1:=gd1 w' w1 fv cv hb hpre
    obtain ⟨f1,f3,rfl⟩:=own_form hpre.fil
    obtain ⟨c1,c3,rfl⟩:=own_form hpre.cod
    have hcon:ConAt w1 B (k:Int) CV ⟨[],0,none⟩:=by have:=hpre.con;rw [hclk] at this;exact this
    refine h_conn B CV.cb CV.x' CV.y' { p with fv:=.slice f1 ([]:List (List UInt8×Int)).length f3,cv:=.slice c1 ([]:List Int).length c3 } w1 _ hcon.b2 ⟨_,_,_,rfl⟩ ⟨_,_,_,rfl⟩ ?_
    intro w1' hb1
    have hG1':Gd N0 ash aw w1':=hG1.below (hb1.mono hG1.env.size)
    have hE:EncOK N0 w1' (ackS false 0) d:=by rw [← hdd];exact hG1'.enc _ rfl rfl
    have hcsw:∀ j,j < 8→ConO w1' B BV j ((fun j=>if j=k then some (CV,(⟨[],0,none⟩:Con)) else cs j) j):=by
     intro j hj
     show ConO w1' B BV j (if j=k then some (CV,(⟨[],0,none⟩:Con)) else cs j)
     by_cases hjk:j=k
     · subst hjk;rw [if_pos rfl];exact ⟨hv,hcon.below hb1⟩
     · rw [if_neg hjk]
       obtain ⟨h1,h2⟩:=hcs j hj hjk
       have s1:ConO w' B BV j (cs j):=h1.but (But.of_below (F:=fun _=>False) hb) (fun _ _ _ _ _ f=>f)
       have s2:ConO w1 B BV j (cs j):=s1.but hpre.but (fun CVj Cj e b hb' f=>by subst f;exact h2 CVj Cj e hb')
       exact s2.but (But.of_below (F:=fun _=>False) hb1) (fun _ _ _ _ _ f=>f)
    have hnw:∀ j,j < 8→notFor p.client ((fun j=>if j=k then some (CV,(⟨[],0,none⟩:Con)) else cs j) j):=by
     intro j hj
     show notFor p.client (if j=k then some (CV,(⟨[],0,none⟩:Con)) else cs j)
     by_cases hjk:j=k
     · rw [if_pos hjk];intro q hq;cases hq
     · rw [if_neg hjk];exact hn j hj hjk
    have hMw:w1'.ownsMap Tryz.prog 9 ptrElem BV.mb m D:=by
     obtain ⟨es,cl,hmb⟩:=map_blk hM
     have hmb':=(hb.block _ (blk_lt hmb)).trans hmb
     have e2:w1.heap[BV.mb]?=w'.heap[BV.mb]?:=hpre.but.keep _ (blk_lt hmb') (fun e=>by have:=(hc.below hb).blk;rw [← e,hmb'] at this;simp at this)
     exact map_keep (map_keep (map_keep hM (hb.block _ (blk_lt hmb))) e2) (hb1.block _ (blk_lt (e2.trans hmb')))
    refine (conn_fresh (N0:=N0) B m (k:Int) que p f1 _ f3 c1 _ c3 d D BV (.slice none 0 0) [] CV ⟨[],0,none⟩ (fun j=>if j=k then some (CV,(⟨[],0,none⟩:Con)) else cs j) w1' hE (hpre.blk.below hb1) (hcon.below hb1) rfl hcsw hnw hne hMw hD hm hm2 hcl hq hq8 (by simp) ⟨hcb0,hNm⟩).mono ?_
    rintro e w2 ⟨rfl,w0,sb,V,CV',x,y,hb0,hx,hy,hpost⟩
    refine ⟨rfl,rfl,?_⟩
    rw [hHP]
    exact ⟨w0,sb,V,CV',x,y,f1,_,f3,c1,_,c3,(But.of_below hb1).trans hb0 (fun _ _ f=>f),Nat.le_trans hb1.size hx,Nat.le_trans hb1.size hy,hpost⟩
  · intro w1 w2 fv cv hpre hHp
    rw [hHP] at hHp
    obtain ⟨w0,sb,V,CV',x,y,f1,f2,f3,c1,c2,c3,hb0,hx,hy,hpost⟩:=hHp
    obtain ⟨ov',M,k1,k2,k3,k4,k5⟩:=hpost.out
    have hG1:=gd1 w' w1 fv cv hb hpre
    have hG0:Gd N0 ash aw w0:=hG1.below (hb0.below (fun b e=>by subst e;exact hNm) hG1.env.size)
    refine ⟨hG0.below (k3.below (fun b e=>?_) hG0.env.size),Nat.le_trans hb0.size k3.size,⟨BV,ov',k1.blk,hv⟩,CV',_,by rw [← hpost.cb];exact hpost.con.blk⟩
    rcases e with (rfl | rfl) | rfl | e
    · exact hcb0
    · exact hNm
    · exact hNB
    · cases e
 refine (feed_any B k CV.cb (some ⟨db,0,none⟩) l.length dc BV _ w (fun w' w''=>ReadPost w' B k BV CV ⟨[],0,none⟩ [] [] HP (.returned (.tuple #[])) w'') (fun w' w'' BV' ov' L'=>BV'=BV∧(∃ dv,L' = [(⟨(k:Int),d,false⟩,dv)])∧SideC B k m que p D BV CV w' w'') h.blk hk hv ?_ ?_).mono ?_
 · intro w' hb
   refine (hread w' hb).mono ?_
   rintro e w'' ⟨rfl,hR⟩
   exact ⟨rfl,rfl,hR⟩
 · rintro w' w'' hb ⟨_,w1,fv,cv,w2,w3,v,hpre,hHp,hb3,hv3,⟨qv,rfl⟩,rfl⟩
   rw [hHP] at hHp
   obtain ⟨w0,sb,V,CV',x,y,f1,f2,f3,c1,c2,c3,hb0,hx,hy,hpost⟩:=hHp
   obtain ⟨ov',M,k1,k2,k3,k4,k5⟩:=hpost.out
   obtain ⟨dv,rfl⟩:=map_one k2
   have s1:=hpre.but.size
   have s0:=hb0.size
   have s2:=k3.size
   have hcb3:w3.heap[CV.cb]?=some (.cells (conC (k:Int) CV' ⟨[],0,some { p with fv:=.slice f1 f2 f3,cv:=.slice c1 c2 c3 }⟩) 137):=by rw [← hpost.cb];exact (hpost.con.below hb3).blk
   have hset:But (fun g=>g=CV.cb) w3 (w3.setCell ⟨CV.cb,1,none⟩ (.slice qv 0 0)):=But.set _ _ _ rfl
   have hB3:BlkAt w3 B BV ov' [(⟨(k:Int),d,false⟩,dv)]:=k1.below hb3
   refine ⟨BV,ov',_,hB3.but hset (fun b e=>by subst e;exact hB3.not hcb3 (by decide)),rfl,⟨dv,rfl⟩,⟨{ CV' with wv:=.slice qv 0 0 },{ V with snd:=some (x,y) },x,y⟩,.slice f1 f2 f3,.slice c1 c2 c3,⟨?_,⟨qv,rfl⟩,?_,rfl,?_⟩,hpost.cb,?_,?_,?_⟩
   · rw [← hpost.cb]
     exact (hpost.con.below hb3).cleared rfl hv3
   · show SesAt _ CV'.sp _ _
     rw [hpost.sp]
     exact (hpost.ses.below hb3).but hset (fun b hb' e=>by subst e;exact (hpost.ses.below hb3).not hcb3 (by decide) hb')
   · show Sink _ B CV'.cb x y _
     rw [hpost.cb]
     exact (hpost.snk.below hb3).cleared _
   · rintro g ((rfl | hg | rfl | rfl | rfl | rfl) | hg | rfl | rfl)
     · exact Or.inl hpost.cb
     · have:=(own_zero hv3).2 g hg;exact Or.inr (by omega)
     · exact Or.inr (by have:=hpost.bx.1;simp only;omega)
     · exact Or.inr (by have:=hpost.bx.2.1;simp only;omega)
     · exact Or.inr (by have:=hpost.bx.2.2.1;simp only;omega)
     · exact Or.inr (by have:=hpost.bx.2.2.2;simp only;omega)
     · have hg':V.has sb g:=by have h9:V.has CV'.sp g:=hg;rw [hpost.sp] at h9;exact h9
       exact Or.inr (by have:=hpost.new g hg';omega)
     · exact Or.inr (by omega)
     · exact Or.inr (by omega)
   · show (w3.setCell ⟨CV.cb,1,none⟩ (.slice qv 0 0)).ownsMap Tryz.prog 9 ptrElem BV.mb (m+1) (D.put (.string p.client) (.lit (.int .i64 (CV'.sp:Int))))
     rw [hpost.sp]
     obtain ⟨es,cl,hmb⟩:=map_blk hpost.map
     have hmb3:=(hb3.block _ (blk_lt hmb)).trans hmb
     exact map_keep (map_keep hpost.map (hb3.block _ (blk_lt hmb))) (hset.keep _ (blk_lt hmb3) (fun e=>by rw [e,hcb3] at hmb3;simp at hmb3))
   · have t1:But (fun g=>g=B∨g=BV.mb∨g=CV.cb) w' w1:=hpre.but.wide (fun _ _ e=>Or.inr (Or.inr e))
     have t2:=t1.trans hb0 (fun _ _ e=>Or.inr (Or.inl e))
     have t3:=t2.trans k3 (fun x _ e=>by
      rcases e with (e | e) | e | e
      · exact Or.inr (Or.inr e)
      · exact Or.inr (Or.inl e)
      · exact Or.inl e
      · cases e)
     have t4:=t3.trans (But.of_below (F:=fun _=>False) hb3) (fun _ _ f=>f.elim)
     exact t4.trans hset (fun _ _ e=>Or.inr (Or.inr e))
 · rintro e w' ⟨w1,w2,BV',ov',L',hb1,⟨rfl,hL',X,fv,cv,hS,hcbX,hX,hMp,hBut⟩,hb2,rfl,ho,hblk,hbB⟩
   have hnB:∀ b,X.has b→¬ b=B:=fun b hb e=>by subst e;exact hS.not hb2.blk (by decide) (by decide) hb
   refine ⟨ov',L',rfl,hL',ho,hblk,X,fv,cv,hS.but hbB hnB,hcbX,fun g hg=>(hX g hg).imp id (fun hh=>Nat.le_trans hb1.size hh),?_,?_⟩
   · obtain ⟨es,cl,hmb⟩:=map_blk hMp
     exact map_keep hMp (hbB.keep _ (blk_lt hmb) (fun e=>by have:=hb2.blk;rw [← e,hmb] at this;simp at this))
   · exact ((But.of_below hb1).trans hBut (fun _ _ f=>f)).trans hbB (fun _ _ e=>Or.inl e)
theorem ConO.setCon {w:World} {B j k:Nat} {V:BrV} {o:Option (ConV×Con)} (h:ConO w B V j o) (hjk:j≠k) (v:Value):ConO w B (V.setCon k v) j o:=by
 have e:(V.setCon k v).cv j=V.cv j:=by show (if j=k then v else V.cv j)=_;rw [if_neg hjk]
 cases o with
 | none=>exact e.trans h
 | some x=>obtain ⟨CVj,Cj⟩:=x;exact ⟨e.trans h.1,h.2⟩
theorem one_at {α:Type} {a o:α} {j:Nat} (h:[a][j]?=some o):j=0∧o=a:=by
 match j,h with
 | 0,h=>simp at h;exact ⟨rfl,h.symm⟩
 | n+1,h=>simp at h
theorem GotP.at {N:Nat} {w:World} {v:Value} {r:Dec} (h:GotP N w v r):∃ g cap fv cv,v=.slice (some ⟨g,0,none⟩) 1 cap∧N≤g∧1≤cap∧cap≤maxLen∧(∀ i u,(pkK { r.1 with fv:=fv,cv:=cv })[i]?=some u→w.cell? ⟨g,i,none⟩=some u)∧w.ownsRow N 95 2 fv r.2.1.length (filC r.2.1)∧w.ownsRow N 3 1 cv r.2.2.length (ints r.2.2):=by
 obtain ⟨fv,cv,h1,h2,h3⟩:=h
 obtain ⟨q,cap,rfl⟩:=own_form h1
 obtain ⟨g,rfl,_,k1,k2,k3⟩:=own_at h1 (by omega)
 exact ⟨g,cap,fv,cv,rfl,(own_zero h1).2 g rfl,k1,k2,fun i u hu=>k3 i u (by simpa using hu),h2,h3⟩
theorem join_hall {N0:Nat} {ash aw:Addr} (lb B k m que:Nat) (client:List UInt8) (clean:Bool) (l d:List UInt8) (pd pa:Pkt) (V:LineV) (BV:BrV) (D:DataW Unit) (cs:Nat→Option (ConV×Con)) (w:World) (hR:Room N0 ash aw w B BV m D) (hL:LineOf N0 w lb B V (fun _=>False)) (hk:k < 2) (hv:BV.cv k=.pointer none) (hq:BV.que=(que:Int)) (hq8:que≤8)
 (hcs:∀ j,j < 8→j≠k→ConO w B BV j (cs j)) (hn:∀ j,j < 8→j≠k→notFor client (cs j)) (hne:client≠[]) (hcl:client.length≤1000) (hD:Maps.has D (.string client)=false) (hm:Maps.size D < 8) (hm2:m < 1000)
 (henc:encL (fwW (helloS client clean)) (cbW (helloS client clean)) (helloS client clean) [] []=some l) (hl0:0 < l.length) (hl:l.length≤1000000) (hdec:decL l=.inr ((pd,[],[]),l.length)) (hpk:pd.kind=1) (hpc:pd.client=client)
 (hdd:encD (ackS false 0) [] []=d) (hd0:0 < d.length) (hd1:d.length≤1000000) (hda:decL d=.inr ((pa,[],[]),d.length)) (hpa:pa.kind=2) (hpa0:pa.code=0) :
 Calls Tryz.prog 48 #[.pointer (some ⟨lb,0,none⟩),.int .i64 (k:Int),.string (bs client),.bool clean] w fun e w'=>∃ v,e=.returned (.tuple #[v,.bool true])∧∃ V' X fv cv,LineOf N0 w' lb B V' (fun _=>False)∧Room N0 ash aw w' B (BV.setCon k (.pointer (some ⟨X.cv.cb,0,none⟩))) (m+1) (D.put (.string client) (.lit (.int .i64 (X.cv.sp:Int))))∧Side w' B k X { pd with fv:=fv,cv:=cv } (newS BV.win que)∧(∀ g,X.has g→w.heap.size≤g)∧But (fun g=>g=lb∨g=B∨g=BV.mb) w w':=by
 have hk8:k < 8:=by omega
 have hlb:w.heap[lb]?=some (.cells (lineC V) 60):=hL.line
 obtain ⟨nB,nM,nMB⟩:=hR.lb_ne hL.line
 obtain ⟨es,cl,hmb⟩:=map_blk hR.map
 have hltB:=blk_lt hR.blk.blk
 have hltl:=blk_lt hlb
 have hltm:=blk_lt hmb
 refine (joins_any lb k client clean V w (fun w'=>∃ CV,BlkAt w' B (BV.setCon k (.pointer (some ⟨CV.cb,0,none⟩))) (.slice none 0 0) []∧ConAt w' B (k:Int) CV ⟨[],0,none⟩∧(∀ b,CV.has b→w.heap.size≤b)∧CV.wv=.slice none 0 0∧But (fun b=>b=B) w w') (fun w'=>∃ V' X fv cv,LineOf N0 w' lb B V' (fun n=>n=k)∧Room N0 ash aw w' B (BV.setCon k (.pointer (some ⟨X.cv.cb,0,none⟩))) (m+1) (D.put (.string client) (.lit (.int .i64 (X.cv.sp:Int))))∧Side w' B k X { pd with fv:=fv,cv:=cv } (newS BV.win que)∧(∀ g,X.has g→w.heap.size≤g)∧But (fun g=>g=lb∨g=B∨g=BV.mb) w w') hL.line hk8 ?_ ?_ ?_).mono ?_
 · rw [hL.b]
   exact open_any B k BV (.slice none 0 0) [] w hR.blk hk8 hv
 · rintro w' ⟨CV,_,_,_,_,hb⟩
   exact line_but hL.line hb (fun e=>nB e.symm)
 · rintro w' ⟨CV,b1,b2,b3,b4,hb⟩
   obtain ⟨w9,hw9⟩:∃ w9,w9=w'.setCell ⟨lb,9+k,none⟩ (.bool false):=⟨_,rfl⟩
   rw [← hw9]
   have hlb':w'.heap[lb]?=some (.cells (lineC V) 60):=hb.blk (fun e=>nB e.symm) hlb
   have hs9:But (fun g=>g=lb) w' w9:=by rw [hw9];exact But.set _ _ _ rfl
   have hl9:LineOf N0 w9 lb B (V.setOff k false) (fun _=>False):=by
    refine ⟨?_,hL.lb0,hL.b,hL.bad,fun n=>?_,hL.got⟩
    · show w9.heap[lb]?=_
      rw [hw9,blk_set _ hlb',lineC_setOff V hk8]
    · show (if n=k then false else V.off n)=false
      split
      · rfl
      · exact hL.off n
   have t9:But (fun g=>g=lb∨g=B∨g=BV.mb) w w9:=(hb.wide (fun _ _ e=>Or.inr (Or.inl e))).trans hs9 (fun _ _ e=>Or.inl e)
   have hF0:∀ g,(g=lb∨g=B∨g=BV.mb)→N0≤g:=by
    rintro g (rfl | rfl | rfl)
    · exact hL.lb0
    · exact hR.B0
    · exact hR.mb0
   have hG9:Gd N0 ash aw w9:=hR.gd.below (t9.below hF0 hR.gd.env.size)
   have hB9:BlkAt w9 B (BV.setCon k (.pointer (some ⟨CV.cb,0,none⟩))) (.slice none 0 0) []:=⟨hs9.blk (fun e=>nB e) b1.blk,OutsAt.nil _⟩
   have hC9:ConAt w9 B (k:Int) CV ⟨[],0,none⟩:=b2.but hs9 (fun b hb' e=>by have:=b3 b hb';omega)
   have hm9:w9.heap[BV.mb]?=w.heap[BV.mb]?:=(hs9.keep _ (by have:=hb.size;omega) nM).trans (hb.keep _ hltm nMB)
   have hM9:w9.ownsMap Tryz.prog 9 ptrElem BV.mb m D:=map_keep hR.map hm9
   have hcs9:∀ j,j < 8→j≠k→ConO w9 B (BV.setCon k (.pointer (some ⟨CV.cb,0,none⟩))) j (cs j)∧∀ CVj Cj,cs j=some (CVj,Cj)→¬ CVj.has CV.cb:=by
    intro j hj hjk
    have h0:=hcs j hj hjk
    refine ⟨ConO.setCon (h0.but t9 (fun CVj Cj e b hb' f=>?_)) hjk _,fun CVj Cj e hh=>?_⟩
    · rw [e] at h0
      rcases f with rfl | rfl | rfl
      · exact h0.2.not hlb (by decide) hb'
      · exact h0.2.not hR.blk.blk (by decide) hb'
      · exact h0.2.notMap hmb hb'
    · rw [e] at h0
      have:=h0.2.lt hh
      have:=b3 CV.cb (Or.inl rfl)
      omega
   have s9:=t9.size
   refine (send_all lb B k (helloS client clean) [] [] l (V.setOff k false) (fun _=>(pa,[],[])) w9 (fun w1 w2 ov L=>Below w9.heap.size w9 w1∧FdC B k m que pd d D (BV.setCon k (.pointer (some ⟨CV.cb,0,none⟩))) CV w1 w2 ov L) hG9 hL.lb0 hl9.line hL.b hl9.bad (filV_nil _) (intV_nil _) henc hl0 ?_ ?_).mono ?_
   · intro w1 g c hb1 hby
     refine (feed_conn (N0:=N0) (ash:=ash) (aw:=aw) B k m que pd l d D (BV.setCon k (.pointer (some ⟨CV.cb,0,none⟩))) CV cs g c w1 (hG9.below (hb1.mono hG9.env.size)) (hB9.below hb1) (hC9.below hb1) ⟨_,b4⟩ hk8 (by show (if k=k then _ else _)=_;rw [if_pos rfl]) hR.clk hl0 hl hby hdec hpk (fun g hg=>Nat.le_trans hR.gd.env.size (b3 g hg)) hR.mb0 hR.B0 (fun j hj hjk=>⟨(hcs9 j hj hjk).1.but (But.of_below (F:=fun _=>False) hb1) (fun _ _ _ _ _ f=>f),(hcs9 j hj hjk).2⟩) (by rw [hpc];exact hn) (by rw [hpc];exact hne) (map_keep hM9 (hb1.block _ (by rw [← hm9] at hmb;exact blk_lt hmb))) (by rw [hpc];exact hD) hm hm2 (by rw [hpc];exact hcl) hq hq8 hdd).mono ?_
     rintro e w2 ⟨ov,L,rfl,hF⟩
     exact ⟨ov,L,rfl,hb1,hF⟩
   · rintro w1 w2 ov L hb1 ⟨_,⟨dv,rfl⟩,ho,hblk,X,fv,cv,hS,hcb,hX,hMp,hBut⟩
     have hG1:=hG9.below (hb1.mono hG9.env.size)
     have hcb0:=b3 CV.cb (Or.inl rfl)
     have hN0:=hR.gd.env.size
     refine ⟨hG1.below (hBut.below (fun b e=>?_) hG1.env.size),?_,ho,fun j o hj=>?_,fun i j o o' hi hj _=>(one_at hi).1.trans (one_at hj).1.symm⟩
     · rcases e with rfl | rfl | rfl
       · exact hR.B0
       · exact hR.mb0
       · omega
     · exact line_but (V:=V.setOff k false) ((hb1.block _ (blk_lt hl9.line)).trans hl9.line) hBut (fun e=>by
        rcases e with e | e | e
        · exact nB e.symm
        · exact nM e.symm
        · omega)
     · obtain ⟨rfl,rfl⟩:=one_at hj
       exact ⟨rfl,hda,hd0,hd1,k,hk,rfl,hL.got k (fun f=>f),hl9.off k⟩
   · rintro e w'' ⟨rfl,w1,w2,ov,L,hb1,⟨_,⟨dv,rfl⟩,ho,hblk,X,fv,cv,hS,hcb,hX,hMp,hBut⟩,hT⟩
     have hG1:=hG9.below (hb1.mono hG9.env.size)
     have hcb0:=b3 CV.cb (Or.inl rfl)
     have hN0:=hR.gd.env.size
     have hs1:=hb1.size
     have hs2:=hBut.size
     have hl2:w2.heap[lb]?=some (.cells (lineC (V.setOff k false)) 60):=hBut.blk (fun e=>by
      rcases e with e | e | e
      · exact nB e.symm
      · exact nM e.symm
      · omega) ((hb1.block _ (blk_lt hl9.line)).trans hl9.line)
     have hR2:Room N0 ash aw w2 B (BV.setCon k (.pointer (some ⟨X.cv.cb,0,none⟩))) (m+1) (D.put (.string client) (.lit (.int .i64 (X.cv.sp:Int)))):=by
      refine ⟨hG1.below (hBut.below (fun b e=>?_) hG1.env.size),by rw [hcb];exact hblk,hR.B0,hR.mb0,hR.clk,hR.win,hR.que,hR.rv,by rw [← hpc];exact hMp⟩
      rcases e with rfl | rfl | rfl
      · exact hR.B0
      · exact hR.mb0
      · omega
     obtain ⟨V',l1,l2,l3,l4,l5,l6⟩:=hT.line
     obtain ⟨n,hn1,hgot⟩:=l6 0 _ (by simp) rfl
     have hnk:n=k:=by have:(k:Int)=(n:Int):=hn1;omega
     subst hnk
     obtain ⟨g,cap,fv',cv',e1,e2,e3,e4,e5,_⟩:=hgot.at
     have hlb2:lb < w2.heap.size:=blk_lt hl2
     refine ⟨rfl,⟨V',X,fv,cv,⟨l1,hL.lb0,l2.trans hL.b,l3,fun j=>by rw [l4];exact hl9.off j,fun j hj=>(l5 j (fun i o hi ho' e=>?_)).trans (hL.got j (fun f=>f))⟩,hR2.but hT.but nB nM (fun b e=>by subst e;exact hL.lb0),?_,?_,?_⟩,g,cap,V',⟨l1,l3,e1,e3,e4,?_,?_,by omega⟩⟩
     · obtain ⟨_,rfl⟩:=one_at ho'
       have:(n:Int)=(j:Int):=e
       omega
     · have hS':Side w2 B n X { pd with fv:=fv,cv:=cv } (newS BV.win que):=hS
       exact hS'.but hT.but (fun b hb' e=>by subst e;exact hS'.not hl2 (by decide) (by decide) hb')
     · intro q hq
       rcases hX q hq with rfl | h1
       · exact hcb0
       · omega
     · have t1:But (fun g=>g=lb∨g=B∨g=BV.mb) w w1:=t9.trans (But.of_below (F:=fun _=>False) hb1) (fun _ _ f=>f.elim)
       have t2:=t1.trans hBut (fun x hx e=>by
        rcases e with e | e | e
        · exact Or.inr (Or.inl e)
        · exact Or.inr (Or.inr e)
        · omega)
       exact t2.trans hT.but (fun _ _ e=>Or.inl e)
     · rw [← hpa];exact e5 0 _ rfl
     · rw [← hpa0];exact e5 6 _ rfl
 · rintro e w' ⟨v,w1,rfl,⟨V',X,fv,cv,hl,hr,hs,hx,hb⟩,rfl⟩
   have hset:But (fun g=>g=lb) w1 (w1.setCell ⟨lb,1+k,none⟩ (.slice none 0 0)):=But.set _ _ _ rfl
   have hlw:w1.heap[lb]?=some (.cells (lineC V') 60):=hl.line
   have hh:=hl.seen k hk8
   refine ⟨v,rfl,_,X,fv,cv,⟨hh.line,hh.lb0,hh.b,hh.bad,hh.off,fun n _=>hh.got n (fun e=>e.2 e.1)⟩,hr.but hset nB nM (fun b e=>by subst e;exact hL.lb0),hs.but hset (fun b hb' e=>by subst e;exact hs.not hlw (by decide) (by decide) hb'),hx,hb.trans hset (fun _ _ e=>Or.inl e)⟩
end br
end Go.Proofs.YtnmfmoimjkoieaaGreatDoor
