import Derived.Test.YtnmfmoimjkoieaaGreatDoorF43
import Derived.Test.YtnmfmoimjkoieaaGreatDoorF39
import Derived.Test.YtnmfmoimjkoieaaGreatDoorF46
import Derived.Test.YtnmfmoimjkoieaaGreatDoorF50
import Derived.Test.YtnmfmoimjkoieaaGreatDoorF49
import Derived.Test.YtnmfmoimjkoieaaGreatDoorF42
import Derived.Test.YtnmfmoimjkoieaaGreatDoorF47
namespace Go.Proofs.YtnmfmoimjkoieaaGreatDoor
namespace kw
open Go.RowKit topPlain topWalks decPlain rd ew encPlain rf br kp
def msgQ (q:Int) (k:Nat):Msg:=⟨[116],numB k,q,false⟩
def uwQ (q:Int) (k:Nat):Uw:=⟨(k:Int)+1,q,false,msgQ q k⟩
def lisQ (q:Int) (W Qn a m i:Nat):Ses:=⟨[([35],q)],[],(W:Int),Qn,(List.range' m (i - m)).map (msgQ q),(List.range' a (m - a)).map (uwQ q),(m:Int)⟩
structure Fit (W Qn a m i:Nat):Prop where
 am:a≤m
 mi:m≤i
 win:m - a≤W
 full:m < i→m - a=W
 que:i - m≤Qn
 i16:i≤16
 w1:1≤W
theorem range'_end (a n:Nat):List.range' a (n+1)=List.range' a n ++ [a+n]:=by
 rw [List.range'_concat];simp
theorem not_busy (q:Int) (a n:Nat) (x:Int) (h:(a:Int)+n < x):busy ((List.range' a n).map (uwQ q)) x=false:=by
 unfold busy
 rw [List.any_eq_false]
 intro u hu
 obtain ⟨k,hk,rfl⟩:=List.mem_map.1 hu
 have:=List.mem_range'_1.1 hk
 simp [uwQ]
 omega
theorem next_is (q:Int) (a m:Nat) (ham:a≤m) (hm:m≤16):nextS (m:Int) ((List.range' a (m - a)).map (uwQ q))=(m:Int)+1:=by
 have e:aft (m:Int)=(m:Int)+1:=by unfold aft;omega
 unfold nextS nextF
 rw [e,if_neg (by rw [not_busy q a (m - a) _ (by omega)];simp)]
theorem lis_begin (q:Int) (W Qn a m:Nat) (ham:a≤m) (hm:m≤16) (i:Nat) (r:List Msg) (hr:r=(List.range' (m+1) (i - (m+1))).map (msgQ q)) :
 beginS { lisQ q W Qn a m i with waiting:=r } (msgQ q m)=lisQ q W Qn a (m+1) i:=by
 subst hr
 unfold beginS lisQ
 simp only
 rw [next_is q a m ham hm,show m+1 - a=(m - a)+1 by omega,range'_end,List.map_append,show a+(m - a)=m by omega]
 rfl
theorem tell_begin (q:Int) (hq:q=1∨q=2) (W Qn a m:Nat) (h:Fit W Qn a m m) (hw:m - a < W):tellS true (lisQ q W Qn a m m) (msgQ q m)=lisQ q W Qn a (m+1) (m+1):=by
 have hq0:¬ (msgQ q m).qos=0:=by show ¬ q=0;omega
 have hc:(true && decide (((lisQ q W Qn a m m).under.length:Int) < (lisQ q W Qn a m m).window))=true:=by
  simp [lisQ];omega
 unfold tellS
 rw [if_neg hq0,if_pos hc]
 have:=lis_begin q W Qn a m h.am h.i16 (m+1) [] (by simp)
 rw [← this]
 congr 1
 unfold lisQ
 simp
theorem tell_wait (q:Int) (hq:q=1∨q=2) (W Qn a m i:Nat) (h:Fit W Qn a m i) (hw:¬ m - a < W) (hQ:i - m < Qn):tellS true (lisQ q W Qn a m i) (msgQ q i)=lisQ q W Qn a m (i+1):=by
 have hq0:¬ (msgQ q i).qos=0:=by show ¬ q=0;omega
 have hc:¬ (true && decide (((lisQ q W Qn a m i).under.length:Int) < (lisQ q W Qn a m i).window))=true:=by
  simp [lisQ];omega
 unfold tellS
 rw [if_neg hq0,if_neg hc]
 unfold waitS
 rw [if_pos (by simp [lisQ];exact hQ)]
 unfold lisQ
 simp only
 rw [show i+1 - m=(i - m)+1 by have:=h.mi;omega,range'_end,List.map_append,show m+(i - m)=i by have:=h.mi;omega]
 rfl
theorem end_first (q:Int) (a m:Nat) (p:Uw→Bool) (u:Uw) (hu:p u=true) (hp:∀ k,a < k→p (uwQ q k)=false):(u :: (List.range' (a+1) (m - (a+1))).map (uwQ q)).filter (fun u=>!p u)=(List.range' (a+1) (m - (a+1))).map (uwQ q):=by
 rw [List.filter_cons,if_neg (by rw [hu];simp),List.filter_eq_self]
 intro x hx
 obtain ⟨k,hk,rfl⟩:=List.mem_map.1 hx
 have:=List.mem_range'_1.1 hk
 rw [hp k (by omega)]
 rfl
theorem under_first (q:Int) (a m:Nat) (h:a < m):(List.range' a (m - a)).map (uwQ q)=uwQ q a :: (List.range' (a+1) (m - (a+1))).map (uwQ q):=by
 rw [show m - a=(m - (a+1))+1 by omega,List.range'_succ]
 rfl
def lisE (q:Int) (W Qn a m i:Nat):Ses:=⟨[([35],q)],[],(W:Int),Qn,(List.range' m (i - m)).map (msgQ q),(List.range' (a+1) (m - (a+1))).map (uwQ q),(m:Int)⟩
theorem end_done (W Qn a m i:Nat) (h:a < m):endS (isDone ((a:Int)+1)) (lisQ 1 W Qn a m i)=lisE 1 W Qn a m i:=by
 unfold endS lisQ lisE
 simp only
 rw [under_first 1 a m h,end_first 1 a m _ _ (by simp [isDone,uwQ]) (fun k hk=>by simp [isDone,uwQ];omega)]
def lisR (W Qn a m i:Nat):Ses:={ lisQ 2 W Qn a m i with under:=(lisQ 2 W Qn a m i).under.set 0 (relU ((a:Int)+1)) }
theorem end_comp (W Qn a m i:Nat) (h:a < m):endS (isComp ((a:Int)+1)) (lisR W Qn a m i)=lisE 2 W Qn a m i:=by
 unfold endS lisR lisQ lisE
 simp only
 rw [under_first 2 a m h,List.set_cons_zero,end_first 2 a m _ _ (by simp [br.isComp,relU]) (fun k hk=>by simp [br.isComp,uwQ])]
def upM (m i:Nat):Nat:=if m < i then m+1 else m
theorem go_is (q:Int) (W Qn a m i:Nat) (hf:Fit W Qn a m i) (h:a < m):goS true (lisE q W Qn a m i)=lisQ q W Qn (a+1) (upM m i) i∧goM true (lisE q W Qn a m i)=(if m < i then some (msgQ q m) else none):=by
 have h1:=hf.mi
 have h2:=hf.i16
 have h3:=hf.win
 have h4:=hf.w1
 unfold goS goM upM
 by_cases hmi:m < i
 · have hw:(lisE q W Qn a m i).waiting=msgQ q m :: (List.range' (m+1) (i - (m+1))).map (msgQ q):=by
    show (List.range' m (i - m)).map (msgQ q)=_
    rw [show i - m=(i - (m+1))+1 by omega,List.range'_succ]
    rfl
   have hm:mayS true (lisE q W Qn a m i)=true:=by
    simp [mayS,lisE];omega
   rw [hw]
   simp only [hm,if_true,hmi]
   refine ⟨?_,trivial⟩
   exact lis_begin q W Qn (a+1) m h (by omega) i _ rfl
 · have hw:(lisE q W Qn a m i).waiting = []:=by
    show (List.range' m (i - m)).map (msgQ q)=_
    rw [show i - m=0 by omega]
    rfl
   rw [hw]
   simp only [hmi,if_false]
   exact ⟨rfl,trivial⟩
theorem Fit.ack {W Qn a m i:Nat} (hf:Fit W Qn a m i) (h:a < m):Fit W Qn (a+1) (upM m i) i:=by
 obtain ⟨h1,h2,h3,h4,h5,h6,h7⟩:=hf
 unfold upM
 split<;>constructor<;>omega
def upP (W a m _i:Nat):Nat:=if m - a < W then m+1 else m
theorem Fit.pub {W Qn a m i:Nat} (hf:Fit W Qn a m i) (hi:i < 16) (hQ:i - a < W+Qn):Fit W Qn a (upP W a m i) (i+1):=by
 obtain ⟨h1,h2,h3,h4,h5,h6,h7⟩:=hf
 unfold upP
 split<;>constructor<;>omega
theorem tell_is (q:Int) (hq:q=1∨q=2) (W Qn a m i:Nat) (h:Fit W Qn a m i) (hQ:i - a < W+Qn):tellS true (lisQ q W Qn a m i) (msgQ q i)=lisQ q W Qn a (upP W a m i) (i+1):=by
 obtain ⟨h1,h2,h3,h4,h5,h6,h7⟩:=id h
 unfold upP
 by_cases hw:m - a < W
 · have e:i=m:=by omega
   subst e
   rw [if_pos hw]
   exact tell_begin q hq W Qn a i h hw
 · rw [if_neg hw]
   exact tell_wait q hq W Qn a m i h hw (by omega)
structure Goes (p:Pkt):Prop where
 enc:encL (fwW p) (cbW p) p [] []=some (encD p [] [])
 pos:0 < (encD p [] []).length
 max:(encD p [] []).length≤1000000
 dec:decL (encD p [] [])=.inr ((p,[],[]),(encD p [] []).length)
theorem goes_at (p:Pkt) (h1:encL (fwW p) (cbW p) p [] []=some (encD p [] [])) (h2:decL (encD p [] [])=.inr ((p,[],[]),(encD p [] []).length)) (h3:(encD p [] []).length=9∨(encD p [] []).length=4):Goes p:=⟨h1,by omega,by omega,h2⟩
theorem all16 {P:Nat→Prop} (h0:P 0) (h1:P 1) (h2:P 2) (h3:P 3) (h4:P 4) (h5:P 5) (h6:P 6) (h7:P 7) (h8:P 8) (h9:P 9) (h10:P 10) (h11:P 11) (h12:P 12) (h13:P 13) (h14:P 14) (h15:P 15) (k:Nat) (hk:k < 16):P k:=by
 have:k=0∨k=1∨k=2∨k=3∨k=4∨k=5∨k=6∨k=7∨k=8∨k=9∨k=10∨k=11∨k=12∨k=13∨k=14∨k=15:=by omega
 rcases this with rfl | rfl | rfl | rfl | rfl | rfl | rfl | rfl | rfl | rfl | rfl | rfl | rfl | rfl | rfl | rfl<;>assumption
theorem goes_msg1 (k:Nat) (hk:k < 16):Goes (msgP 1 ((k:Int)+1) (numB k)):=by
 revert k
 refine all16 ?_ ?_ ?_ ?_ ?_ ?_ ?_ ?_ ?_ ?_ ?_ ?_ ?_ ?_ ?_ ?_<;>exact goes_at _ (by kernel_rfl) (by kernel_rfl) (Or.inl (by kernel_rfl))
theorem goes_msg2 (k:Nat) (hk:k < 16):Goes (msgP 2 ((k:Int)+1) (numB k)):=by
 revert k
 refine all16 ?_ ?_ ?_ ?_ ?_ ?_ ?_ ?_ ?_ ?_ ?_ ?_ ?_ ?_ ?_ ?_<;>exact goes_at _ (by kernel_rfl) (by kernel_rfl) (Or.inl (by kernel_rfl))
structure Wh (N0:Nat) (ash aw:Addr) (w0 w:World) (b lb B:Nat) (V:LineV) (BV:BrV) (px py:Pkt) (X Y:SideV) (SX SY:Ses) (G:Nat→Prop) (VS:StgV) (T:List Int) (O:List Pkt) (Sn:List Int):Prop where
 hall:Hall2 N0 ash aw w lb B 0 1 V BV 2 (D2 X.cv.sp Y.cv.sp) px py X Y SX SY G
 stg:StgAt w b VS T O Sn
 vlb:VS.lb=lb
 s0:∀ g,VS.has b g→N0≤g
 apart:∀ g,VS.has b g→¬ InHall lb B BV.mb X Y g
 bel:Below N0 w0 w
theorem Wh.below {N0:Nat} {ash aw:Addr} {w0:World} {w w':World} {b lb B:Nat} {V:LineV} {BV:BrV} {px py:Pkt} {X Y:SideV} {SX SY:Ses} {G:Nat→Prop} {VS:StgV} {T:List Int} {O:List Pkt} {Sn:List Int} (h:Wh N0 ash aw w0 w b lb B V BV px py X Y SX SY G VS T O Sn) (hb:Below w.heap.size w w'):Wh N0 ash aw w0 w' b lb B V BV px py X Y SX SY G VS T O Sn:=
 ⟨h.hall.but (F:=fun _=>False) (But.of_below hb) (fun _ e=>e.elim),h.stg.below hb,h.vlb,h.s0,h.apart,h.bel.trans (hb.mono h.hall.room.gd.env.size)⟩
theorem Wh.stage {N0:Nat} {ash aw:Addr} {w0:World} {w w':World} {b lb B:Nat} {V:LineV} {BV:BrV} {px py:Pkt} {X Y:SideV} {SX SY:Ses} {G:Nat→Prop} {VS VS':StgV} {T T':List Int} {O O':List Pkt} {Sn Sn':List Int} (h:Wh N0 ash aw w0 w b lb B V BV px py X Y SX SY G VS T O Sn) (hb:But (VS.has b) w w') (hs:StgAt w' b VS' T' O' Sn') (hl:VS'.lb=VS.lb) (hh:∀ g,VS'.has b g→VS.has b g∨w.heap.size≤g):Wh N0 ash aw w0 w' b lb B V BV px py X Y SX SY G VS' T' O' Sn':=
 ⟨h.hall.but hb (fun g e=>⟨h.s0 g e,h.apart g e⟩),hs,hl.trans h.vlb,fun g hg=>(hh g hg).elim (h.s0 g) (fun e=>Nat.le_trans h.hall.room.gd.env.size e),fun g hg=>(hh g hg).elim (h.apart g) (fun e i=>by have:=h.hall.lt i;omega),h.bel.trans (hb.below h.s0 h.hall.room.gd.env.size)⟩
theorem Wh.seen {N0:Nat} {ash aw:Addr} {w0:World} {w:World} {b lb B:Nat} {V:LineV} {BV:BrV} {px py:Pkt} {X Y:SideV} {SX SY:Ses} {G:Nat→Prop} {VS:StgV} {T:List Int} {O:List Pkt} {Sn:List Int} (h:Wh N0 ash aw w0 w b lb B V BV px py X Y SX SY G VS T O Sn) (k:Nat) (hk:k < 8):Wh N0 ash aw w0 (w.setCell ⟨lb,1+k,none⟩ (.slice none 0 0)) b lb B (V.setGot k (.slice none 0 0)) BV px py X Y SX SY (fun n=>G n∧n≠k) VS T O Sn:=
 ⟨h.hall.seen k hk,h.stg.keep (fun g hg=>Below.heap_setCell _ _ _ _ (fun e=>h.apart g hg (Or.inl e))),h.vlb,h.s0,h.apart,h.bel.trans ((But.set (F:=fun g=>g=lb) _ _ _ rfl).below (fun g e=>by subst e;exact h.hall.line.lb0) h.hall.room.gd.env.size)⟩
theorem Wh.only {N0:Nat} {ash aw:Addr} {w0:World} {w:World} {b lb B:Nat} {V:LineV} {BV:BrV} {px py:Pkt} {X Y:SideV} {SX SY:Ses} {G G':Nat→Prop} {VS:StgV} {T:List Int} {O:List Pkt} {Sn:List Int} (h:Wh N0 ash aw w0 w b lb B V BV px py X Y SX SY G VS T O Sn) (hG:∀ n,G n→G' n):Wh N0 ash aw w0 w b lb B V BV px py X Y SX SY G' VS T O Sn:=
 ⟨h.hall.only hG,h.stg,h.vlb,h.s0,h.apart,h.bel⟩
structure After (N0:Nat) (ash aw:Addr) (w0 w:World) (b lb B:Nat) (V:LineV) (BV:BrV) (px py:Pkt) (X Y:SideV) (SX SY:Ses) (G:Nat→Prop) (VS:StgV) (T:List Int) (O:List Pkt) (Sn:List Int) (os:List OutS) (R:Nat→Dec) (w':World) (V':LineV) (X' Y':SideV):Prop where
 wh:Wh N0 ash aw w0 w' b lb B V' BV px py X' Y' SX SY (fun n=>G n∨∃ o,o∈os∧o.conn=(n:Int)) VS T O Sn
 old:∀ n:Nat,(∀ o,o∈os→o.conn≠(n:Int))→V'.got n=V.got n
 new:∀ (j:Nat) o,os[j]?=some o→∃ n:Nat,o.conn=(n:Int)∧GotP w.heap.size w' (V'.got n) (R j)
 but:But (InHall lb B BV.mb X Y) w w'
 grow:∀ g,InHall lb B BV.mb X' Y' g→InHall lb B BV.mb X Y g∨w.heap.size≤g
theorem send_zero {N0:Nat} {ash aw:Addr} {w0:World} {b lb B:Nat} {V:LineV} {BV:BrV} {px py:Pkt} {X Y:SideV} {SX SX' SY SY':Ses} {G:Nat→Prop} {VS:StgV} {T:List Int} {O:List Pkt} {Sn:List Int} (ps:Pkt) (os:List OutS) (R:Nat→Dec) (w:World) (H:Wh N0 ash aw w0 w b lb B V BV px py X Y SX SY G VS T O Sn) (hpf:ps.fv=.slice none 0 0) (hpc:ps.cv=.slice none 0 0) (hg:Goes ps) (hos:OutsOk os R G)
 (hF:∀ w1 g c,Hall2 N0 ash aw w1 lb B 0 1 V BV 2 (D2 X.cv.sp Y.cv.sp) px py X Y SX SY G→(∀ j x,(encD ps [] [])[j]?=some x→w1.cell? ⟨g,0+j,none⟩=some (.int .u8 (x.toNat:Int)))→Calls Tryz.prog 24 #[.pointer (some ⟨B,0,none⟩),.int .i64 ((0:Nat):Int),.slice (some ⟨g,0,none⟩) (encD ps [] []).length c] w1 fun e w'=>∃ ov L,e=.returned (.tuple #[ov,.int .i64 0])∧FdW B 0 1 px py BV X Y SX' SY' os w1 w' ov L) :
 Calls Tryz.prog 50 #[.pointer (some ⟨lb,0,none⟩),.int .i64 0,.agg (pkK ps)] w fun e w'=>e=.returned (.tuple #[])∧∃ V' X' Y',After N0 ash aw w0 w b lb B V BV px py X Y SX' SY' G VS T O Sn os R w' V' X' Y':=by
 refine (send_hall ps _ os R w H.hall hpf hpc hg.enc hg.pos hos (fun w1 g c hb hx=>hF w1 g c (H.hall.but (F:=fun _=>False) (But.of_below hb) (fun _ e=>e.elim)) hx)).mono ?_
 rintro e w' ⟨rfl,V',X',Y',hH⟩
 have hbut:But (InHall lb B BV.mb X Y) w w':=hH.but.wide (fun g _ e=>by
  rcases e with e | e | e | e
  · exact Or.inl e
  · exact Or.inr (Or.inl e)
  · exact Or.inr (Or.inr (Or.inr (Or.inl e)))
  · exact Or.inr (Or.inr (Or.inr (Or.inr e))))
 have hgr:∀ g,InHall lb B BV.mb X' Y' g→InHall lb B BV.mb X Y g∨w.heap.size≤g:=fun g i=>by
  rcases i with i | i | i | i | i
  · exact Or.inl (Or.inl i)
  · exact Or.inl (Or.inr (Or.inl i))
  · exact Or.inl (Or.inr (Or.inr (Or.inl i)))
  · exact (hH.hx g i).imp (fun i=>Or.inr (Or.inr (Or.inr (Or.inl i)))) id
  · exact (hH.hy g i).imp (fun i=>Or.inr (Or.inr (Or.inr (Or.inr i)))) id
 refine ⟨rfl,V',X',Y',⟨by rw [hH.spx,hH.spy];exact hH.hall,H.stg.but hbut H.apart,H.vlb,H.s0,fun g hg i=>(hgr g i).elim (H.apart g hg) (fun e=>by have:=H.stg.lt hg;omega),H.bel.trans (hbut.below H.hall.old H.hall.room.gd.env.size)⟩,hH.old,hH.new,hbut,hgr⟩
theorem send_one {N0:Nat} {ash aw:Addr} {w0:World} {b lb B:Nat} {V:LineV} {BV:BrV} {px py:Pkt} {X Y:SideV} {SX SX' SY SY':Ses} {G:Nat→Prop} {VS:StgV} {T:List Int} {O:List Pkt} {Sn:List Int} (ps:Pkt) (os:List OutS) (R:Nat→Dec) (w:World) (H:Wh N0 ash aw w0 w b lb B V BV px py X Y SX SY G VS T O Sn) (hpf:ps.fv=.slice none 0 0) (hpc:ps.cv=.slice none 0 0) (hg:Goes ps) (hos:OutsOk os R G)
 (hF:∀ w1 g c,Hall2 N0 ash aw w1 lb B 1 0 V BV 2 (D2 X.cv.sp Y.cv.sp) py px Y X SY SX G→(∀ j x,(encD ps [] [])[j]?=some x→w1.cell? ⟨g,0+j,none⟩=some (.int .u8 (x.toNat:Int)))→Calls Tryz.prog 24 #[.pointer (some ⟨B,0,none⟩),.int .i64 ((1:Nat):Int),.slice (some ⟨g,0,none⟩) (encD ps [] []).length c] w1 fun e w'=>∃ ov L,e=.returned (.tuple #[ov,.int .i64 0])∧FdW B 1 0 py px BV Y X SY' SX' os w1 w' ov L) :
 Calls Tryz.prog 50 #[.pointer (some ⟨lb,0,none⟩),.int .i64 1,.agg (pkK ps)] w fun e w'=>e=.returned (.tuple #[])∧∃ V' X' Y',After N0 ash aw w0 w b lb B V BV px py X Y SX' SY' G VS T O Sn os R w' V' X' Y':=by
 refine (send_hall ps _ os R w H.hall.turn hpf hpc hg.enc hg.pos hos (fun w1 g c hb hx=>hF w1 g c (H.hall.turn.but (F:=fun _=>False) (But.of_below hb) (fun _ e=>e.elim)) hx)).mono ?_
 rintro e w' ⟨rfl,V',Y',X',hH⟩
 have hbut:But (InHall lb B BV.mb X Y) w w':=hH.but.wide (fun g _ e=>by
  rcases e with e | e | e | e
  · exact Or.inl e
  · exact Or.inr (Or.inl e)
  · exact Or.inr (Or.inr (Or.inr (Or.inr e)))
  · exact Or.inr (Or.inr (Or.inr (Or.inl e))))
 have hgr:∀ g,InHall lb B BV.mb X' Y' g→InHall lb B BV.mb X Y g∨w.heap.size≤g:=fun g i=>by
  rcases i with i | i | i | i | i
  · exact Or.inl (Or.inl i)
  · exact Or.inl (Or.inr (Or.inl i))
  · exact Or.inl (Or.inr (Or.inr (Or.inl i)))
  · exact (hH.hy g i).imp (fun i=>Or.inr (Or.inr (Or.inr (Or.inl i)))) id
  · exact (hH.hx g i).imp (fun i=>Or.inr (Or.inr (Or.inr (Or.inr i)))) id
 refine ⟨rfl,V',X',Y',⟨by rw [hH.spx,hH.spy];exact hH.hall.turn,H.stg.but hbut H.apart,H.vlb,H.s0,fun g hg i=>(hgr g i).elim (H.apart g hg) (fun e=>by have:=H.stg.lt hg;omega),H.bel.trans (hbut.below H.hall.old H.hall.room.gd.env.size)⟩,hH.old,hH.new,hbut,hgr⟩
theorem Wh.cell0 {N0:Nat} {ash aw:Addr} {w0 w:World} {b lb B:Nat} {V:LineV} {BV:BrV} {px py:Pkt} {X Y:SideV} {SX SY:Ses} {G:Nat→Prop} {VS:StgV} {T:List Int} {O:List Pkt} {Sn:List Int} (H:Wh N0 ash aw w0 w b lb B V BV px py X Y SX SY G VS T O Sn):w.cell? ⟨b,0,none⟩=some (.pointer (some ⟨lb,0,none⟩)):=by
 have:=blk_cell H.stg.blk (i:=0) (v:=.pointer (some ⟨VS.lb,0,none⟩)) rfl
 rw [H.vlb] at this
 exact this
theorem seesNone {N0:Nat} {ash aw:Addr} {w0 w:World} {b lb B:Nat} {V:LineV} {BV:BrV} {px py:Pkt} {X Y:SideV} {SX SY:Ses} {VS:StgV} {T:List Int} {O:List Pkt} {Sn:List Int} (H:Wh N0 ash aw w0 w b lb B V BV px py X Y SX SY (fun _=>False) VS T O Sn) :
 SeesOk b lb (fun w3=>∃ V',Wh N0 ash aw w0 w3 b lb B V' BV px py X Y SX SY (fun _=>False) VS T O Sn) w none 0 0 V:=by
 refine ⟨H.hall.line.line,H.cell0,fun e=>H.apart b (Or.inl rfl) (Or.inl e),H.hall.line.got 0 (fun f=>f),fun w1 hb1=>?_⟩
 have H1:=(H.below hb1).seen 0 (by omega)
 refine (sees_none b none 0 _).mono ?_
 rintro e w3 ⟨rfl,hB⟩
 exact ⟨rfl,_,(H1.below hB).only (fun n hn=>hn.1)⟩
structure Cnt (q:Int) (a m i:Nat) (VS:StgV) (T:List Int) (O:List Pkt) (Sn:List Int):Prop where
 told:T=(List.range m).map (fun (k:Nat)=>(k:Int))
 opn:O.map (fun p=>(p.id,p.qos))=(List.range' a (m - a)).map (fun (k:Nat)=>((k:Int)+1,q))
 sent:Sn.length=i
 id:VS.id=(i:Int)
theorem Cnt.len {q:Int} {a m i:Nat} {VS:StgV} {T:List Int} {O:List Pkt} {Sn:List Int} (h:Cnt q a m i VS T O Sn):O.length=m - a:=by
 have:=congrArg List.length h.opn
 simpa using this
theorem Cnt.at {q:Int} {a m i:Nat} {VS:StgV} {T:List Int} {O:List Pkt} {Sn:List Int} (h:Cnt q a m i VS T O Sn) {r:Nat} {p:Pkt} (hp:O[r]?=some p):p.id=(a:Int)+r+1∧p.qos=q∧r < m - a:=by
 have hl:=h.len
 have hr:r < m - a:=by have:=(List.getElem?_eq_some_iff.1 hp).1;omega
 have e:=congrArg (fun l=>l[r]?) h.opn
 simp only [List.getElem?_map,hp,Option.map_some] at e
 rw [List.getElem?_range' hr] at e
 simp at e
 refine ⟨?_,e.2,hr⟩
 rw [e.1]
theorem Cnt.idx_new {q:Int} {a m i:Nat} {VS:StgV} {T:List Int} {O:List Pkt} {Sn:List Int} (h:Cnt q a m i VS T O Sn):idx (fun p=>p.id == (m:Int)+1) O=-1:=by
 refine idx_none (fun j x hx=>?_)
 obtain ⟨e,_,hr⟩:=h.at hx
 simp [e]
 omega
theorem Cnt.idx_at {q:Int} {a m i:Nat} {VS:StgV} {T:List Int} {O:List Pkt} {Sn:List Int} (h:Cnt q a m i VS T O Sn) (r:Nat) (p:Pkt) (hp:O[r]?=some p):idx (fun x=>x.id == p.id) O=(r:Int):=by
 refine idx_some hp (by simp) (fun j y hj hy=>?_)
 have e1:=(h.at hp).1
 have e2:=(h.at hy).1
 simp [e1,e2]
 omega
theorem Cnt.shut {q:Int} {a m i:Nat} {VS VS':StgV} {T:List Int} {O:List Pkt} {Sn:List Int} (h:Cnt q a m i VS T O Sn) (ha:a < m) (hid:VS'.id=VS.id):Cnt q (a+1) m i VS' T (O.eraseIdx 0) Sn:=by
 refine ⟨h.told,?_,h.sent,hid.trans h.id⟩
 have e:=h.opn
 rw [show m - a=(m - (a+1))+1 by omega,List.range'_succ] at e
 cases O with
 | nil=>simp at e
 | cons p r=>simp at e;simpa using e.2
theorem Cnt.add {q:Int} {a m i:Nat} {VS VS':StgV} {T:List Int} {O:List Pkt} {Sn:List Int} (h:Cnt q a m i VS T O Sn) (ha:a≤m) (p:Pkt) (h1:p.id=(m:Int)+1) (h2:p.qos=q) (hid:VS'.id=VS.id):Cnt q a (m+1) i VS' (T ++ [(m:Int)]) (O ++ [p]) Sn:=by
 refine ⟨?_,?_,h.sent,hid.trans h.id⟩
 · rw [h.told,List.range_succ,List.map_append];rfl
 · rw [List.map_append,h.opn,show m+1 - a=(m - a)+1 by omega,range'_end,List.map_append]
   simp [h1,h2]
   omega
def St (N0:Nat) (ash aw:Addr) (w0:World) (b lb:Nat) (q:Int) (W Qn a m i:Nat) (w:World):Prop:=
 ∃ B V BV px py X Y VS T O Sn,Wh N0 ash aw w0 w b lb B V BV px py X Y (lisQ q W Qn a m i) (newS (W:Int) Qn) (fun _=>False) VS T O Sn∧Cnt q a m i VS T O Sn
theorem outs_nil (R:Nat→Dec) (G:Nat→Prop):OutsOk [] R G:=⟨fun j o h=>by simp at h,fun i j o o' h=>by simp at h⟩
theorem outs_one (p:Pkt) (h:Goes p) (n:Nat) (hn:n < 2) (R:Nat→Dec) (hR:R 0=(p,[],[])) (G:Nat→Prop) (hG:¬ G n):OutsOk [⟨(n:Int),encD p [] [],false⟩] R G:=by
 refine ⟨fun j o h1=>?_,fun i j o o' h1 h2 _=>?_⟩
 · match j,h1 with
   | 0,h1 =>
     simp at h1
     subst h1
     exact ⟨rfl,by rw [hR];exact h.dec,h.pos,h.max,n,hn,rfl,hG⟩
 · match i,j,h1,h2 with
   | 0,0,_,_=>rfl
theorem goes_msg {q:Int} (hq:q=1∨q=2) (k:Nat) (hk:k < 16):Goes (msgP q ((k:Int)+1) (numB k)):=by
 rcases hq with rfl | rfl
 · exact goes_msg1 k hk
 · exact goes_msg2 k hk
theorem pub_in {X Y:SideV} {W Qn a m i:Nat} {q:Int} (hq:q=1∨q=2) (hf:Fit W Qn a m i) (id:Int) (kn:List Int):PubIn (D2 X.cv.sp Y.cv.sp) (msgP q id (numB i)) [99] [100] q 0 Y X { newS (W:Int) Qn with known:=kn } (lisQ q W Qn a m i) (encD (msgP q ((m:Int)+1) (numB i)) [] []):=by
 have h1:=hf.mi
 have h2:=hf.i16
 have h3:=hf.am
 refine ⟨rfl,fun ss h=>keys2 h,(by show (2:Nat)≤1000000;decide),(by decide),(by decide),rfl,rfl,(by show (1:Nat)≤65535;decide),?_,(by intro f hf;cases hf),?_,rfl,?_,(by show (0:Int)≤(m:Int);omega),(by simp [lisQ];omega)⟩
 · intro f hf
   have:f=([35],q):=by simpa [lisQ] using hf
   subst this
   show (1:Nat)≤65535
   decide
 · show asksS [116] [([35],q)] 0 false=(q,true)
   rcases hq with rfl | rfl<;>kernel_rfl
 · have e:toldS (ofS (msgP q id (numB i))) q false=msgQ q i:=by
    unfold toldS ofS msgP msgQ
    simp
   have e2:tellId (lisQ q W Qn a m i) (msgQ q i)=(m:Int)+1:=by
    unfold tellId
    rw [if_neg (by show ¬ q=0;omega)]
    exact next_is q a m h3 (by omega)
   rw [e,e2]
   rfl
def outP (q:Int) (W a m _i:Nat):List OutS:=if m - a < W then [⟨((0:Nat):Int),encD (msgP q ((m:Int)+1) (numB m)) [] [],false⟩] else []
theorem tellO_is {x y:Nat} {W Qn a m i:Nat} {q:Int} (hq:q=1∨q=2) (hf:Fit W Qn a m i):tellO ((0:Nat):Int) (some (x,y)) (lisQ q W Qn a m i) (msgQ q i) (encD (msgP q ((m:Int)+1) (numB i)) [] [])=outP q W a m i:=by
 have h1:=hf.mi
 have h2:=hf.full
 unfold tellO outP
 rw [if_neg (by show ¬ q=0;omega)]
 by_cases hw:m - a < W
 · have e:i=m:=by omega
   subst e
   rw [if_pos hw,if_pos (by simp [lisQ];omega)]
   rfl
 · rw [if_neg hw,if_neg (by simp [lisQ];omega)]
theorem told_is {q id:Int} {i:Nat}:toldS (ofS (msgP q id (numB i))) q false=msgQ q i:=by
 unfold toldS ofS msgP msgQ
 simp
theorem Wh.shut {N0:Nat} {ash aw:Addr} {w0 w w':World} {b lb B:Nat} {V:LineV} {BV:BrV} {px py:Pkt} {X Y:SideV} {SX SY:Ses} {G:Nat→Prop} {VS:StgV} {T:List Int} {O O':List Pkt} {Sn:List Int} {v':Value} (h:Wh N0 ash aw w0 w b lb B V BV px py X Y SX SY G VS T O Sn) (hs:StgAt w' b { VS with pv:=v' } T O' Sn) (hb:But (fun g=>g=b) w w') (hv:∀ g,v'.ownBlock=some g→w.heap.size≤g):Wh N0 ash aw w0 w' b lb B V BV px py X Y SX SY G { VS with pv:=v' } T O' Sn:=
 h.stage (hb.wide (fun g _ e=>Or.inl e)) hs rfl (fun g hg=>by
  rcases hg with hg | hg | hg | hg
  · exact Or.inl (Or.inl hg)
  · exact Or.inl (Or.inr (Or.inl hg))
  · exact Or.inr (hv g hg)
  · exact Or.inl (Or.inr (Or.inr (Or.inr hg))))
def Came (w:World) (lb:Nat) (p:Pkt) (v:Value):Prop:=
 ∃ g cap fv cv,v=.slice (some ⟨g,0,none⟩) 1 cap∧g≠lb∧(∃ c,w.heap[g]?=some (.cells c 36))∧1≤cap∧cap≤maxLen∧(∀ i u,(pkK { p with fv:=fv,cv:=cv })[i]?=some u→w.cell? ⟨g,i,none⟩=some u)∧Shaped { p with fv:=fv,cv:=cv }
theorem Came.of {N lb:Nat} {w:World} {v:Value} {p:Pkt} (h:GotP N w v (p,[],[])) (hl:lb < N):Came w lb p v:=by
 obtain ⟨g,cap,fv,cv,e1,hgN,hc1,hcm,hcell,hf,hc⟩:=h.at
 obtain ⟨f1,f3,hfv⟩:=br.own_form hf
 obtain ⟨c1,c3,hcv⟩:=br.own_form hc
 obtain ⟨fv',cv',k1,_,_⟩:=h
 obtain ⟨c,hb⟩:=own_blk k1 (b:=g) (by rw [e1];rfl)
 exact ⟨g,cap,fv,cv,e1,by omega,⟨c,hb⟩,hc1,hcm,hcell,⟨_,_,_,hfv⟩,_,_,_,hcv⟩
theorem Came.but {F:Nat→Prop} {w w':World} {lb:Nat} {v:Value} {p:Pkt} (h:Came w lb p v) (hb:But F w w') (hn:∀ g c,w.heap[g]?=some (.cells c 36)→¬ F g):Came w' lb p v:=by
 obtain ⟨g,cap,fv,cv,e1,hgl,⟨c,hc⟩,hc1,hcm,hcell,hs⟩:=h
 exact ⟨g,cap,fv,cv,e1,hgl,⟨c,hb.blk (hn g c hc) hc⟩,hc1,hcm,fun i u hu=>hb.cell (hn g c hc) (hcell i u hu),hs⟩
theorem Wh.notPkt {N0:Nat} {ash aw:Addr} {w0 w:World} {b lb B:Nat} {V:LineV} {BV:BrV} {px py:Pkt} {X Y:SideV} {SX SY:Ses} {G:Nat→Prop} {VS:StgV} {T:List Int} {O:List Pkt} {Sn:List Int} (H:Wh N0 ash aw w0 w b lb B V BV px py X Y SX SY G VS T O Sn) (g:Nat) (c:Array Value) (hg:w.heap[g]?=some (.cells c 36)):¬ InHall lb B BV.mb X Y g:=by
 rintro (rfl | rfl | rfl | i | i)
 · have h:w.heap[g]?=some (.cells (lineC V) 60):=H.hall.line.line
   rw [hg] at h;simp at h
 · have h:=H.hall.room.blk.blk;rw [hg] at h;simp at h
 · obtain ⟨es,cl,h⟩:=map_blk H.hall.room.map;rw [hg] at h;simp at h
 · exact H.hall.sx.not hg (by decide) (by decide) i
 · exact H.hall.sy.not hg (by decide) (by decide) i
theorem seesCame {N0:Nat} {ash aw:Addr} {w0 w:World} {b lb B:Nat} {V:LineV} {BV:BrV} {px py:Pkt} {X Y:SideV} {SX SY:Ses} {G:Nat→Prop} {VS:StgV} {T:List Int} {O:List Pkt} {Sn:List Int} (q:Int) (hq:q=1∨q=2) (k:Nat) (hk:k < 60000) (H:Wh N0 ash aw w0 w b lb B V BV px py X Y SX SY G VS T O Sn) (hG:∀ n,G n→n=0) (hg:Came w lb (msgP q ((k:Int)+1) (numB k)) (V.got 0)) (hid:idx (fun p=>p.id == (k:Int)+1) O=-1) (hT:T.length≤100000) (hO:O.length≤100000) :
 ∃ qa n c,SeesOk b lb (fun w3=>∃ V' VS' p,Wh N0 ash aw w0 w3 b lb B V' BV px py X Y SX SY (fun _=>False) VS' (T ++ [(k:Int)]) (O ++ [p]) Sn∧VS'.id=VS.id∧p.id=(k:Int)+1∧p.qos=q) w qa n c V:=by
 obtain ⟨g,cap,fv,cv,e1,hgl,⟨c,hc⟩,_,_,hcell,hsh⟩:=hg
 refine ⟨_,_,_,H.hall.line.line,H.cell0,fun e=>H.apart b (Or.inl rfl) (Or.inl e),e1,fun w1 hb1=>?_⟩
 have H1:=(H.below hb1).seen 0 (by omega)
 refine (sees_one b g cap k VS T O Sn { msgP q ((k:Int)+1) (numB k) with fv:=fv,cv:=cv } _ H1.stg (fun i u hu=>?_) rfl rfl hk rfl rfl hq hid hT hO hsh).mono ?_
 · have h:=hcell i u hu
   have hlt:=cell_blt h
   simp only at hlt
   rw [World.cell?_of_block (w:=w) ((Below.heap_setCell _ _ _ _ (fun e=>hgl e)).trans (hb1.block g hlt))]
   exact h
 · rintro e w3 ⟨rfl,tv',pv',hs,hbut,ht,hp⟩
   refine ⟨rfl,_,_,_,(H1.stage hbut hs rfl (fun g hg=>?_)).only (fun n hn=>hn.2 (hG n hn.1)),rfl,rfl,rfl⟩
   rcases hg with hg | hg | hg | hg
   · exact Or.inl (Or.inl hg)
   · rcases ht with e | ⟨g',e1,e2⟩
     · exact Or.inl (Or.inr (Or.inl (e ▸ hg)))
     · have hg2:tv'.ownBlock=some g:=hg
       rw [e1] at hg2;cases hg2
       exact Or.inr e2
   · rcases hp with e | ⟨g',e1,e2⟩
     · exact Or.inl (Or.inr (Or.inr (Or.inl (e ▸ hg))))
     · have hg2:pv'.ownBlock=some g:=hg
       rw [e1] at hg2;cases hg2
       exact Or.inr e2
   · exact Or.inl (Or.inr (Or.inr (Or.inr hg)))
def Heard0 (w:World) (lb:Nat) (q:Int) (W a m:Nat) (V:LineV):Prop:=
 (m - a < W→Came w lb (msgP q ((m:Int)+1) (numB m)) (V.got 0))∧(¬ m - a < W→V.got 0=.slice none 0 0)
theorem see_pub {N0:Nat} {ash aw:Addr} {w0 w:World} {b lb B:Nat} {V:LineV} {BV:BrV} {px py:Pkt} {X Y:SideV} {VS:StgV} {T:List Int} {O:List Pkt} {Sn:List Int} (q:Int) (hq:q=1∨q=2) (W Qn a m i:Nat) (hf:Fit W Qn a m i) (H:Wh N0 ash aw w0 w b lb B V BV px py X Y (lisQ q W Qn a (upP W a m i) (i+1)) (newS (W:Int) Qn) (fun n=>n=0) VS T O Sn) (h0:Heard0 w lb q W a m V) (hC:Cnt q a m (i+1) VS T O Sn) :
 ∃ qa n c,SeesOk b lb (St N0 ash aw w0 b lb q W Qn a (upP W a m i) (i+1)) w qa n c V:=by
 have h16:=hf.i16
 have hmi:=hf.mi
 by_cases hm:m - a < W
 · obtain ⟨qa,n,c,hS⟩:=seesCame q hq m (by omega) H (fun n hn=>hn) (h0.1 hm) hC.idx_new (by rw [hC.told];simp;omega) (by rw [hC.len];omega)
   refine ⟨qa,n,c,hS.line,hS.cell,hS.ne,hS.got,fun w1 hb1=>(hS.see w1 hb1).mono ?_⟩
   rintro e w3 ⟨rfl,V3,VS3,p,hW,h1,h2,h3⟩
   refine ⟨rfl,B,V3,BV,px,py,X,Y,VS3,_,_,Sn,hW,?_⟩
   have:upP W a m i=m+1:=if_pos hm
   rw [this]
   exact hC.add hf.am p h2 h3 h1
 · have hv:=h0.2 hm
   have hw:Wh N0 ash aw w0 w b lb B V BV px py X Y (lisQ q W Qn a (upP W a m i) (i+1)) (newS (W:Int) Qn) (fun _=>False) VS T O Sn:=⟨⟨H.hall.room,⟨H.hall.line.line,H.hall.line.lb0,H.hall.line.b,H.hall.line.bad,H.hall.line.off,fun n _=>by
    by_cases hn:n=0
    · subst hn;exact hv
    · exact H.hall.line.got n hn⟩,H.hall.sx,H.hall.sy,H.hall.x0,H.hall.y0,H.hall.xm,H.hall.ym,H.hall.dis,H.hall.vx,H.hall.vy⟩,H.stg,H.vlb,H.s0,H.apart,H.bel⟩
   have hS:=seesNone hw
   refine ⟨_,_,_,hS.line,hS.cell,hS.ne,hS.got,fun w1 hb1=>(hS.see w1 hb1).mono ?_⟩
   rintro e w3 ⟨rfl,V3,hW⟩
   refine ⟨rfl,B,V3,BV,px,py,X,Y,VS,T,O,Sn,hW,?_⟩
   have:upP W a m i=m:=if_neg hm
   rw [this]
   exact hC
theorem after_pub {N0:Nat} {ash aw:Addr} {w0 w w':World} {b lb B:Nat} {V V':LineV} {BV:BrV} {px py:Pkt} {X Y X' Y':SideV} {SX SY:Ses} {VS:StgV} {T:List Int} {O:List Pkt} {Sn:List Int} (q:Int) (W a m i:Nat) (p:Pkt) (hlb:lb < w.heap.size) (hV:V.got 0=.slice none 0 0)
 (hA:After N0 ash aw w0 w b lb B V BV px py X Y SX SY (fun _=>False) VS T O Sn (outP q W a m i ++ [⟨((1:Nat):Int),encD p [] [],false⟩]) (fun j=>if m - a < W∧j=0 then (msgP q ((m:Int)+1) (numB m),[],[]) else (p,[],[])) w' V' X' Y') :
 Heard0 w' lb q W a m V'∧GotP w.heap.size w' (V'.got 1) (p,[],[]):=by
 by_cases hw:m - a < W
 · have e:outP q W a m i = [⟨((0:Nat):Int),encD (msgP q ((m:Int)+1) (numB m)) [] [],false⟩]:=if_pos hw
   rw [e] at hA
   obtain ⟨n0,e0,hg0⟩:=hA.new 0 _ rfl
   obtain ⟨n1,e1,hg1⟩:=hA.new 1 _ rfl
   have e0':n0=0:=by have:((0:Nat):Int)=(n0:Int):=e0;omega
   have e1':n1=1:=by have:((1:Nat):Int)=(n1:Int):=e1;omega
   subst e0' e1'
   simp only [hw,true_and,if_true] at hg0 hg1
   exact ⟨⟨fun _=>Came.of hg0 hlb,fun h=>(h hw).elim⟩,hg1⟩
 · have e:outP q W a m i = []:=if_neg hw
   rw [e] at hA
   obtain ⟨n1,e1,hg1⟩:=hA.new 0 _ rfl
   have e1':n1=1:=by have:((1:Nat):Int)=(n1:Int):=e1;omega
   subst e1'
   rw [if_neg (by omega)] at hg1
   refine ⟨⟨fun h=>(hw h).elim,fun _=>?_⟩,hg1⟩
   rw [hA.old 0 (fun o ho=>by simp at ho;subst ho;simp),hV]
theorem Wh.mid {N0:Nat} {ash aw:Addr} {w0 w w1:World} {b lb B:Nat} {V:LineV} {BV:BrV} {px py:Pkt} {X Y:SideV} {SX SY:Ses} {G:Nat→Prop} {VS:StgV} {T:List Int} {O:List Pkt} {Sn:List Int} {q:Int} {i:Nat} {v':Value} (h:Wh N0 ash aw w0 w b lb B V BV px py X Y SX SY G VS T O Sn) (hM:Mid b VS T Sn O q i w w1 v'):Wh N0 ash aw w0 w1 b lb B V BV px py X Y SX SY G { VS with sv:=v',id:=(i:Int)+1 } T O (Sn ++ [q]):=
 h.stage hM.but hM.stg rfl (fun g hg=>by
  rcases hg with hg | hg | hg | hg
  · exact Or.inl (Or.inl hg)
  · exact Or.inl (Or.inr (Or.inl hg))
  · exact Or.inl (Or.inr (Or.inr (Or.inl hg)))
  · rcases hM.own with e | ⟨g',e1,e2⟩
    · exact Or.inl (Or.inr (Or.inr (Or.inr (e ▸ hg))))
    · have hg2:v'.ownBlock=some g:=hg
      rw [e1] at hg2;cases hg2
      exact Or.inr e2)
theorem Cnt.mid {q:Int} {a m i:Nat} {VS:StgV} {T:List Int} {O:List Pkt} {Sn:List Int} (h:Cnt q a m i VS T O Sn) (v':Value) (q':Int):Cnt q a m (i+1) { VS with sv:=v',id:=(i:Int)+1 } T O (Sn ++ [q']):=
 ⟨h.told,h.opn,by simp [h.sent],by show (i:Int)+1=((i+1:Nat):Int);omega⟩
theorem heardK {N lb:Nat} {w:World} {V:LineV} {p:Pkt} (hl:LineAt w lb V) (h:GotP N w (V.got 1) (p,[],[])) (hlb:lb < N):∃ g cap V',HeardK w lb 1 g cap V' p.kind p.id:=by
 obtain ⟨g,cap,fv,cv,e1,hgN,hc1,hcm,hcell,_,_⟩:=h.at
 exact ⟨g,cap,V,hl,e1,hc1,hcm,hcell 0 _ rfl,hcell 12 _ rfl,by omega⟩
theorem Heard0.but {F:Nat→Prop} {w w':World} {lb:Nat} {q:Int} {W a m:Nat} {V V':LineV} (h:Heard0 w lb q W a m V) (hb:But F w w') (hn:∀ g c,w.heap[g]?=some (.cells c 36)→¬ F g) (hv:V'.got 0=V.got 0):Heard0 w' lb q W a m V':=by
 unfold Heard0
 rw [hv]
 exact ⟨fun hw=>(h.1 hw).but hb hn,h.2⟩
def vs0 (lb:Nat) (Wi Qi:Int):StgV:=⟨lb,.slice none 0 0,0,.slice none 0 0,.slice none 0 0,0,Wi,Qi⟩
structure BgX (N0:Nat) (w0:World) (Wi Qi:Int) (b lb:Nat) (w:World):Prop where
 bel:Below N0 w0 w
 b0:N0≤b
 stg:w.heap[b]?=some (.cells (stgC (vs0 lb Wi Qi)) 77)
theorem BgX.but {F:Nat→Prop} {N0:Nat} {w0 w w':World} {Wi Qi:Int} {b lb:Nat} (h:BgX N0 w0 Wi Qi b lb w) (hb:But F w w') (hs:N0≤w0.heap.size) (hF:∀ g,F g→N0≤g) (hn:¬ F b):BgX N0 w0 Wi Qi b lb w':=
 ⟨below_of h.bel hb hF hs,h.b0,hb.blk hn h.stg⟩
theorem BgX.cell {N0:Nat} {w0 w:World} {Wi Qi:Int} {b lb:Nat} (h:BgX N0 w0 Wi Qi b lb w):w.cell? ⟨b,0,none⟩=some (.pointer (some ⟨lb,0,none⟩)):=blk_cell h.stg rfl
def BgA (N0:Nat) (ash aw:Addr) (w0:World) (Wi Qi:Int) (b lb:Nat) (w:World):Prop:=
 BgX N0 w0 Wi Qi b lb w∧∃ B V BV,Room N0 ash aw w B BV 0 (.map [])∧LineOf N0 w lb B V (fun _=>False)∧(BV.win=Wi∧BV.que=Qi)∧∀ j,BV.cv j=.pointer none
def BgB (N0:Nat) (ash aw:Addr) (w0:World) (Wi Qi:Int) (S:Ses) (b lb:Nat) (w:World):Prop:=
 BgX N0 w0 Wi Qi b lb w∧∃ B V BV X fv cv,Room N0 ash aw w B BV 1 (D1 X.cv.sp)∧LineOf N0 w lb B V (fun _=>False)∧Side w B 0 X { helloD [99] false with fv:=fv,cv:=cv } S∧(∀ g,X.has g→N0≤g)∧X.sv.kb≠BV.mb∧BV.cv 0=.pointer (some ⟨X.cv.cb,0,none⟩)∧(BV.win=Wi∧BV.que=Qi)∧∀ j,j≠0→BV.cv j=.pointer none
theorem stage_ne {N0:Nat} {ash aw:Addr} {w:World} {b lb B nn:Nat} {V:LineV} {BV:BrV} {D:DataW Unit} {c:Array Value} (hR:Room N0 ash aw w B BV nn D) (hL:LineAt w lb V) (hb:w.heap[b]?=some (.cells c 77)):b≠lb∧b≠B∧b≠BV.mb:=by
 have hl:w.heap[lb]?=some (.cells (lineC V) 60):=hL
 obtain ⟨es,cl,hm⟩:=map_blk hR.map
 refine ⟨fun e=>?_,fun e=>?_,fun e=>?_⟩
 · rw [e,hl] at hb;simp at hb
 · have:=hR.blk.blk;rw [← e,hb] at this;simp at this
 · rw [e,hm] at hb;simp at hb
theorem Side.notS {w:World} {B k:Nat} {X:SideV} {p:Pkt} {S:Ses} (h:Side w B k X p S) {b:Nat} {c:Array Value} (hb:w.heap[b]?=some (.cells c 77)):¬ X.has b:=h.not hb (by decide) (by decide)
end kw
namespace on
open Go.RowKit topPlain topWalks decPlain rd ew encPlain rf br kp kw
theorem top116:topicB [116]=true:=by kernel_rfl
theorem pack_pub (p0:Pkt) (hk:p0.kind=3) (hq:0 < p0.qos) (hi lo x y:UInt8) (h:0 < 256*hi.toNat+lo.toNat) :
 packetS p0 (some [0,1,116,hi,lo,x,y])=({ p0 with topic:=[116],id:=((256*hi.toNat+lo.toNat:Nat):Int),payload:=[x,y] },[],[],some []):=by
 have e:topS (some [0,1,116,hi,lo,x,y])=([116],some [hi,lo,x,y]):=by
  show (([116]:List UInt8),wantS (topicB [116]) (some [hi,lo,x,y]))=_
  rw [top116];rfl
 have e2:idS (some [hi,lo,x,y])=(256*hi.toNat+lo.toNat,some [x,y]):=by
  show (256*hi.toNat+lo.toNat,wantS (decide (0 < 256*hi.toNat+lo.toNat)) (some [x,y]))=_
  rw [decide_eq_true h];rfl
 unfold packetS
 rw [if_neg (by omega),if_neg (by omega),if_pos hk]
 unfold publishS
 rw [if_pos hq,e]
 simp only
 rw [e2]
 rfl
theorem pack_pub0 (p0:Pkt) (hk:p0.kind=3) (hq:¬ 0 < p0.qos) (x y:UInt8) :
 packetS p0 (some [0,1,116,x,y])=({ p0 with topic:=[116],payload:=[x,y] },[],[],some []):=by
 have e:topS (some [0,1,116,x,y])=([116],some [x,y]):=by
  show (([116]:List UInt8),wantS (topicB [116]) (some [x,y]))=_
  rw [top116];rfl
 unfold packetS
 rw [if_neg (by omega),if_neg (by omega),if_pos hk]
 unfold publishS
 rw [if_neg hq,e]
 rfl
theorem pack_ack (p0:Pkt) (hk:p0.kind=4∨p0.kind=5∨p0.kind=6∨p0.kind=7) (hi lo:UInt8) (h:0 < 256*hi.toNat+lo.toNat) :
 packetS p0 (some [hi,lo])=({ p0 with id:=((256*hi.toNat+lo.toNat:Nat):Int) },[],[],some []):=by
 have e2:idS (some [hi,lo])=(256*hi.toNat+lo.toNat,some []):=by
  show (256*hi.toNat+lo.toNat,wantS (decide (0 < 256*hi.toNat+lo.toNat)) (some []))=_
  rw [decide_eq_true h];rfl
 unfold packetS
 rw [if_neg (by omega),if_neg (by omega),if_neg (by omega),if_pos (by omega),e2]
theorem body_of {p0 p:Pkt} {l:List UInt8} (h:packetS p0 (some l)=(p,[],[],some [])):bodyS p0 l=some (p,[],[]):=by
 unfold bodyS
 rw [h]
 rfl
theorem dec_of {c n:UInt8} {l:List UInt8} {p0 p:Pkt} (hc:firstL (c.toNat / 16) (c.toNat % 16)=some p0) (hn:n.toNat=l.length) (hs:l.length < 128) (hb:bodyS p0 l=some (p,[],[])):decL (c :: n :: l)=.inr ((p,[],[]),(c :: n :: l).length):=by
 have hl:lenL (n :: l)=some (some (l.length,1)):=by
  show (if n.toNat < 128 then some (some (n.toNat,1)) else _)=_
  rw [if_pos (by omega),hn]
 unfold decL
 simp only [hc,hl]
 rw [if_neg (by simp only [List.length_cons];omega)]
 have e:((n :: l).drop 1).take l.length=l:=by simp
 rw [e,hb]
 simp
 omega
theorem enc_of {p:Pkt} {c n:UInt8} {l:List UInt8} (hc:fwW p=c) (hl:bodyW (cbW p) p [] []=l) (hn:lenW l.length = [n]) (hs:l.length≤300) (hd:decL (c :: n :: l)=.inr ((p,[],[]),(c :: n :: l).length)):Goes p:=by
 have he:encL (fwW p) (cbW p) p [] []=some (c :: n :: l):=by
  unfold encL
  rw [hl,if_neg (by omega),hc,hn]
  show (match decL (c :: n :: l) with | .inl _=>none | .inr (q,_)=>if sameP p q.1∧[]=q.2.1∧[]=q.2.2 then some (c :: n :: l) else none)=_
  rw [hd]
  simp only
  rw [if_pos (by simp [sameP])]
 have e:encD p [] []=c :: n :: l:=by unfold encD;rw [he];rfl
 exact ⟨by rw [e];exact he,by rw [e];simp,by rw [e];simp;omega,by rw [e];exact hd⟩
theorem byt_hi (id:Int) (h0:0≤id) (h1:id≤65535):256*(byt8 (id / 256)).toNat+(byt8 id).toNat=id.toNat:=by
 unfold byt8
 have a:((id / 256) % 256).toNat < 256:=by omega
 have b:(id % 256).toNat < 256:=by omega
 rw [UInt8.toNat_ofNat_of_lt' a,UInt8.toNat_ofNat_of_lt' b]
 omega
theorem goes_ack (k:Int) (hk:k=4∨k=5∨k=6∨k=7) (id:Int) (h0:1≤id) (h1:id≤65535):Goes ({ zP with kind:=k,id:=id }:Pkt):=by
 have hb:=byt_hi id (by omega) h1
 have hp:0 < 256*(byt8 (id / 256)).toNat+(byt8 id).toNat:=by omega
 have e:((256*(byt8 (id / 256)).toNat+(byt8 id).toNat:Nat):Int)=id:=by rw [hb];omega
 have H:=fun (c:UInt8) (p0:Pkt) (hc:firstL (c.toNat / 16) (c.toNat % 16)=some p0) (hk0:p0.kind=4∨p0.kind=5∨p0.kind=6∨p0.kind=7)=>dec_of (n:=2) (l:=[byt8 (id / 256),byt8 id]) hc rfl (by simp) (body_of (pack_ack p0 hk0 _ _ hp))
 rcases hk with rfl | rfl | rfl | rfl
 · exact enc_of (c:=64) (n:=2) (l:=[byt8 (id / 256),byt8 id]) (by kernel_rfl) (by kernel_rfl) rfl (by simp) (by have:=H 64 { zP with kind:=4 } (by kernel_rfl) (by decide);rw [e] at this;exact this)
 · exact enc_of (c:=80) (n:=2) (l:=[byt8 (id / 256),byt8 id]) (by kernel_rfl) (by kernel_rfl) rfl (by simp) (by have:=H 80 { zP with kind:=5 } (by kernel_rfl) (by decide);rw [e] at this;exact this)
 · exact enc_of (c:=98) (n:=2) (l:=[byt8 (id / 256),byt8 id]) (by kernel_rfl) (by kernel_rfl) rfl (by simp) (by have:=H 98 { zP with kind:=6 } (by kernel_rfl) (by decide);rw [e] at this;exact this)
 · exact enc_of (c:=112) (n:=2) (l:=[byt8 (id / 256),byt8 id]) (by kernel_rfl) (by kernel_rfl) rfl (by simp) (by have:=H 112 { zP with kind:=7 } (by kernel_rfl) (by decide);rw [e] at this;exact this)
def msgD (d:Bool) (q id:Int) (n:Nat):Pkt:={ zP with kind:=3,qos:=q,id:=id,topic:=[116],payload:=numB n,dup:=d }
theorem goes_msg (d:Bool) (q:Int) (hq:q=1∨q=2) (id:Int) (h0:1≤id) (h1:id≤65535) (n:Nat):Goes (msgD d q id n):=by
 have hb:=byt_hi id (by omega) h1
 have hp:0 < 256*(byt8 (id / 256)).toNat+(byt8 id).toNat:=by omega
 have e:((256*(byt8 (id / 256)).toNat+(byt8 id).toNat:Nat):Int)=id:=by rw [hb];omega
 have H:=fun (c:UInt8) (p0:Pkt) (hc:firstL (c.toNat / 16) (c.toNat % 16)=some p0) (hk0:p0.kind=3) (hq0:0 < p0.qos)=>dec_of (n:=7) (l:=[0,1,116,byt8 (id / 256),byt8 id,UInt8.ofNat (n / 250),UInt8.ofNat (n % 250)]) hc rfl (by simp) (body_of (pack_pub p0 hk0 hq0 _ _ _ _ hp))
 rcases hq with rfl | rfl<;>cases d
 · exact enc_of (c:=50) (n:=7) (l:=[0,1,116,byt8 (id / 256),byt8 id,UInt8.ofNat (n / 250),UInt8.ofNat (n % 250)]) (by kernel_rfl) (by kernel_rfl) rfl (by simp) (by have:=H 50 { zP with kind:=3,qos:=1 } (by kernel_rfl) rfl (by decide);rw [e] at this;exact this)
 · exact enc_of (c:=58) (n:=7) (l:=[0,1,116,byt8 (id / 256),byt8 id,UInt8.ofNat (n / 250),UInt8.ofNat (n % 250)]) (by kernel_rfl) (by kernel_rfl) rfl (by simp) (by have:=H 58 { zP with kind:=3,qos:=1,dup:=true } (by kernel_rfl) rfl (by decide);rw [e] at this;exact this)
 · exact enc_of (c:=52) (n:=7) (l:=[0,1,116,byt8 (id / 256),byt8 id,UInt8.ofNat (n / 250),UInt8.ofNat (n % 250)]) (by kernel_rfl) (by kernel_rfl) rfl (by simp) (by have:=H 52 { zP with kind:=3,qos:=2 } (by kernel_rfl) rfl (by decide);rw [e] at this;exact this)
 · exact enc_of (c:=60) (n:=7) (l:=[0,1,116,byt8 (id / 256),byt8 id,UInt8.ofNat (n / 250),UInt8.ofNat (n % 250)]) (by kernel_rfl) (by kernel_rfl) rfl (by simp) (by have:=H 60 { zP with kind:=3,qos:=2,dup:=true } (by kernel_rfl) rfl (by decide);rw [e] at this;exact this)
theorem goes_msg0 (n:Nat):Goes (msgD false 0 0 n):=by
 have H:=dec_of (c:=48) (p0:={ zP with kind:=3 }) (n:=5) (l:=[0,1,116,UInt8.ofNat (n / 250),UInt8.ofNat (n % 250)]) (by kernel_rfl) rfl (by simp) (body_of (pack_pub0 _ rfl (by decide) _ _))
 exact enc_of (c:=48) (n:=5) (l:=[0,1,116,UInt8.ofNat (n / 250),UInt8.ofNat (n % 250)]) (by kernel_rfl) (by kernel_rfl) rfl (by simp) H
structure Led where
 U:List (Nat×Nat×Int)
 Wt:List (Nat×Int)
 TT:List (Nat×Int)
 last:Nat
 n:Nat
def uwE (u:Nat×Nat×Int):Uw:=⟨(u.1:Int),u.2.2,false,msgQ u.2.2 u.2.1⟩
def msgE (x:Nat×Int):Msg:=msgQ x.2 x.1
def ses (q:Int) (W Qn:Nat) (L:Led):Ses:=⟨[([35],q)],[],(W:Int),Qn,L.Wt.map msgE,L.U.map uwE,(L.last:Int)⟩
def add (L:Led):Option (Nat×Nat×Int)→Led
 | none=>L
 | some (id,k,e)=>if e=0 then { L with TT:=L.TT ++ [(k,e)] } else { L with U:=L.U ++ [(id,k,e)],TT:=L.TT ++ [(k,e)],last:=id }
theorem add_some {L:Led} {id k:Nat} {e:Int} (he:e≠0):add L (some (id,k,e)) = { L with U:=L.U ++ [(id,k,e)],TT:=L.TT ++ [(k,e)],last:=id }:=if_neg he
def preP (q:Int) (W Qn:Nat) (s:Int) (L:Led):Led:={ L with n:=L.n+1,Wt:=if min s q=0∨L.U.length < W∨¬ L.Wt.length < Qn then L.Wt else L.Wt ++ [(L.n,min s q)] }
def pubO (q:Int) (W:Nat) (s:Int) (L:Led):Option (Nat×Nat×Int):=if min s q=0 then some (0,L.n,0) else if L.U.length < W then some (L.last+1,L.n,min s q) else none
def preA (r:Nat) (L:Led):Led:={ L with U:=L.U.eraseIdx r,Wt:=L.Wt.tail }
def ackO (L:Led):Option (Nat×Nat×Int):=match L.Wt with
 | []=>none
 | x :: _=>some (L.last+1,x.1,x.2)
structure Ok0 (q:Int) (W Qn:Nat) (Sn:List Int) (L:Led):Prop where
 len:Sn.length=L.n
 n30:L.n≤30000
 last:L.last≤L.n
 ids:L.U.Pairwise (fun a b=>a.1 < b.1)
 idr:∀ u∈L.U,1≤u.1∧u.1≤L.last∧u.2.1 < L.n∧(u.2.2=1∨u.2.2=2)
 wq:∀ x∈L.Wt,x.1 < L.n∧(x.2=1∨x.2=2)
 win:L.U.length≤W
 que:L.Wt.length≤Qn
 w1:1≤W
 w8:W≤8
 q8:Qn≤8
 q3:q=0∨q=1∨q=2
 cnt:L.TT.length+L.Wt.length≤L.n
 lst:L.last+L.Wt.length≤L.n
 up:L.TT.Pairwise (fun a b=>(a.2=0↔b.2=0)→a.1 < b.1)
 tw:∀ a∈L.TT,∀ b∈L.Wt,a.2≠0→a.1 < b.1
 wup:L.Wt.Pairwise (fun a b=>a.1 < b.1)
 tg:∀ x∈L.TT,∃ s,Sn[x.1]?=some s∧x.2=min s q
 wg:∀ x∈L.Wt,∃ s,Sn[x.1]?=some s∧x.2=min s q
structure Ok (q:Int) (W Qn:Nat) (Sn:List Int) (L:Led):Prop extends Ok0 q W Qn Sn L where
 full:L.Wt≠[]→L.U.length=W
theorem Ok0.tn {q:Int} {W Qn:Nat} {Sn:List Int} {L:Led} (h:Ok0 q W Qn Sn L) {x:Nat×Int} (hx:x∈L.TT):x.1 < L.n:=by
 obtain ⟨s,h1,_⟩:=h.tg x hx
 have:=(List.getElem?_eq_some_iff.1 h1).1
 have:=h.len
 omega
theorem next_any (last:Nat) (l:List (Nat×Nat×Int)) (h:∀ u∈l,u.1≤last) (hl:last≤30000):nextS (last:Int) (l.map uwE)=(last:Int)+1:=by
 have e:aft (last:Int)=(last:Int)+1:=by unfold aft;omega
 have hb:busy (l.map uwE) ((last:Int)+1)=false:=by
  unfold busy
  rw [List.any_eq_false]
  intro u hu
  obtain ⟨v,hv,rfl⟩:=List.mem_map.1 hu
  have:=h v hv
  simp [uwE]
  omega
 unfold nextS nextF
 rw [e,if_neg (by rw [hb];simp)]
theorem ses_begin (q:Int) (W Qn:Nat) (L:Led) (k:Nat) (e:Int) (he:e≠0) (h:∀ u∈L.U,u.1≤L.last) (hl:L.last≤30000):beginS (ses q W Qn L) (msgQ e k)=ses q W Qn (add L (some (L.last+1,k,e))):=by
 unfold beginS ses add
 simp only [he,if_false]
 rw [next_any L.last L.U h hl,List.map_append]
 rfl
theorem ids_le {q:Int} {W Qn:Nat} {Sn:List Int} {L:Led} (h:Ok q W Qn Sn L):∀ u∈L.U,u.1≤L.last:=fun u hu=>(h.idr u hu).2.1
theorem last30 {q:Int} {W Qn:Nat} {Sn:List Int} {L:Led} (h:Ok q W Qn Sn L):L.last≤30000:=Nat.le_trans h.last h.n30
theorem tell_is {q:Int} {W Qn:Nat} {Sn:List Int} {L:Led} (h:Ok q W Qn Sn L) (s:Int):tellS true (ses q W Qn L) (msgQ (min s q) L.n)=ses q W Qn (add (preP q W Qn s L) (pubO q W s L)):=by
 by_cases he:min s q=0
 · have e1:tellS true (ses q W Qn L) (msgQ (min s q) L.n)=ses q W Qn L:=if_pos he
   rw [e1]
   simp [ses,add,preP,pubO,he]
 · have hq0:¬ (msgQ (min s q) L.n).qos=0:=he
   unfold tellS
   rw [if_neg hq0]
   by_cases hw:L.U.length < W
   · have hc:(true && decide (((ses q W Qn L).under.length:Int) < (ses q W Qn L).window))=true:=by simp [ses];omega
     rw [if_pos hc,ses_begin q W Qn L _ _ he (ids_le h) (last30 h)]
     simp [ses,add,preP,pubO,he,hw]
   · have hc:¬ (true && decide (((ses q W Qn L).under.length:Int) < (ses q W Qn L).window))=true:=by simp [ses];omega
     rw [if_neg hc]
     unfold waitS
     by_cases hq:L.Wt.length < Qn
     · rw [if_pos (by simp [ses];exact hq)]
       simp [ses,add,preP,pubO,he,hw,hq,msgE]
     · rw [if_neg (by simp [ses];omega)]
       simp [ses,add,preP,pubO,he,hw,hq]
theorem filter_at {α:Type} (p:α→Bool):∀ (l:List α) (r:Nat) (x:α),l[r]?=some x→p x=true→(∀ (j:Nat) y,j≠r→l[j]?=some y→p y=false)→l.filter (fun y=>!p y)=l.eraseIdx r
 | [],r,x,h,_,_=>by simp at h
 | a :: t,0,x,h,hx,ho=>by
   simp at h
   subst h
   rw [List.filter_cons,if_neg (by rw [hx];simp),List.eraseIdx_cons_zero,List.filter_eq_self]
   intro y hy
   obtain ⟨j,hj,e⟩:=List.getElem_of_mem hy
   rw [ho (j+1) y (by omega) (by simp [hj,e])]
   rfl
 | a :: t,r+1,x,h,hx,ho=>by
   rw [List.filter_cons,if_pos (by rw [ho 0 a (by omega) rfl];rfl),List.eraseIdx_cons_succ,filter_at p t r x (by simpa using h) hx (fun j y hj hy=>ho (j+1) y (by omega) (by simpa using hy))]
theorem Ok.id_ne {q:Int} {W Qn:Nat} {Sn:List Int} {L:Led} (h:Ok q W Qn Sn L) {i j:Nat} {a b:Nat×Nat×Int} (hij:i≠j) (ha:L.U[i]?=some a) (hb:L.U[j]?=some b):a.1≠b.1:=by
 have hp:=List.pairwise_iff_getElem.1 h.ids
 obtain ⟨hi,rfl⟩:=List.getElem?_eq_some_iff.1 ha
 obtain ⟨hj,rfl⟩:=List.getElem?_eq_some_iff.1 hb
 rcases Nat.lt_or_gt_of_ne hij with h1 | h1
 · have:=hp i j hi hj h1;omega
 · have:=hp j i hj hi h1;omega
theorem erase_map {α β:Type} (f:α→β):∀ (l:List α) (r:Nat),(l.map f).eraseIdx r=(l.eraseIdx r).map f
 | [],_=>rfl
 | _ :: _,0=>rfl
 | a :: t,r+1=>by
   rw [List.map_cons,List.eraseIdx_cons_succ,List.eraseIdx_cons_succ,List.map_cons,erase_map f t r]
theorem end_done {q:Int} {W Qn:Nat} {Sn:List Int} {L:Led} (h:Ok q W Qn Sn L) {r:Nat} {u:Nat×Nat×Int} (hu:L.U[r]?=some u) (h1:u.2.2=1):endS (isDone (u.1:Int)) (ses q W Qn L)=ses q W Qn { L with U:=L.U.eraseIdx r }:=by
 unfold endS ses
 simp only
 rw [filter_at (isDone (u.1:Int)) (L.U.map uwE) r (uwE u) (by simp [hu]) (by simp [isDone,uwE,h1]) (fun j y hj hy=>?_)]
 · rw [erase_map]
 · rw [List.getElem?_map] at hy
   obtain ⟨v,hv,rfl⟩:=Option.map_eq_some_iff.1 hy
   have:=h.id_ne hj hv hu
   simp [isDone,uwE]
   omega
def sesR (q:Int) (W Qn:Nat) (L:Led) (r:Nat) (id:Int):Ses:={ ses q W Qn L with under:=(ses q W Qn L).under.set r (relU id) }
theorem end_comp {q:Int} {W Qn:Nat} {L:Led} {r:Nat} {u:Nat×Nat×Int} (hu:L.U[r]?=some u):endS (br.isComp (u.1:Int)) (sesR q W Qn L r (u.1:Int))=ses q W Qn { L with U:=L.U.eraseIdx r }:=by
 have hr:r < L.U.length:=(List.getElem?_eq_some_iff.1 hu).1
 unfold endS sesR ses
 simp only
 rw [filter_at (br.isComp (u.1:Int)) ((L.U.map uwE).set r (relU (u.1:Int))) r (relU (u.1:Int)) (by rw [List.getElem?_set];simp [hr]) (by simp [br.isComp,relU]) (fun j y hj hy=>?_)]
 · rw [List.eraseIdx_set_eq,erase_map]
 · rw [List.getElem?_set,if_neg (fun e=>hj e.symm),List.getElem?_map] at hy
   obtain ⟨v,hv,rfl⟩:=Option.map_eq_some_iff.1 hy
   simp [br.isComp,uwE]
theorem go_is {q:Int} {W Qn:Nat} {Sn:List Int} {L:Led} (h:Ok q W Qn Sn L) {r:Nat} (hr:r < L.U.length):goS true (ses q W Qn { L with U:=L.U.eraseIdx r })=ses q W Qn (add (preA r L) (ackO L))∧goM true (ses q W Qn { L with U:=L.U.eraseIdx r })=(ackO L).map (fun x=>msgQ x.2.2 x.2.1)∧((ses q W Qn (add (preA r L) (ackO L))).waiting = []∨mayS true (ses q W Qn (add (preA r L) (ackO L)))=false):=by
 have hl:(L.U.eraseIdx r).length+1=L.U.length:=by rw [List.length_eraseIdx];split<;>omega
 have hw:=h.win
 cases hW:L.Wt with
 | nil =>
   unfold goS goM ackO
   simp [ses,hW,add,preA]
 | cons x t =>
   have hf:=h.full (by rw [hW];simp)
   have hx:=(h.wq x (by rw [hW];simp)).2
   have hx0:x.2≠0:=by omega
   have hm:mayS true (ses q W Qn { L with U:=L.U.eraseIdx r })=true:=by simp [mayS,ses];omega
   have hwt:(ses q W Qn { L with U:=L.U.eraseIdx r }).waiting=msgE x :: t.map msgE:=by simp [ses,hW]
   rw [hW] at hm hwt
   have hb:=ses_begin q W Qn { L with U:=L.U.eraseIdx r,Wt:=t } x.1 x.2 hx0 (fun u hu=>ids_le h u (List.mem_of_mem_eraseIdx hu)) (show L.last≤30000 from last30 h)
   have ea:ackO L=some (L.last+1,x.1,x.2):=by unfold ackO;rw [hW]
   have ep:preA r L = { L with U:=L.U.eraseIdx r,Wt:=t }:=by unfold preA;rw [hW];rfl
   rw [ea,ep]
   refine ⟨?_,?_,Or.inr ?_⟩
   · unfold goS
     rw [hwt]
     simp only [hm,if_true]
     exact hb
   · unfold goM
     rw [hwt]
     simp only [hm,if_true]
     rfl
   · simp [mayS,ses,add,hx0]
     omega
theorem go_none {q:Int} {W Qn:Nat} {Sn:List Int} {L:Led} (h:Ok q W Qn Sn L):goM true (ses q W Qn L)=none∧goS true (ses q W Qn L)=ses q W Qn L:=by
 cases hW:L.Wt with
 | nil =>
   unfold goM goS
   simp [ses,hW]
 | cons x t =>
   have hf:=h.full (by rw [hW];simp)
   have hm:mayS true (ses q W Qn L)=false:=by simp [mayS,ses];omega
   unfold goM goS
   simp [ses,hW] at hm ⊢
   simp [hm]
theorem Ok0.sent {q:Int} {W Qn:Nat} {Sn:List Int} {L:Led} (h:Ok0 q W Qn Sn L) (s:Int) (h30:L.n < 30000):Ok0 q W Qn (Sn ++ [s]) { L with n:=L.n+1 }:=by
 have hg:∀ (k:Nat) (x:Int),Sn[k]?=some x→(Sn ++ [s])[k]?=some x:=fun k x hx=>by
  rw [List.getElem?_append_left (List.getElem?_eq_some_iff.1 hx).1];exact hx
 refine ⟨by simp [h.len],h30,Nat.le_succ_of_le h.last,h.ids,fun u hu=>?_,fun x hx=>?_,h.win,h.que,h.w1,h.w8,h.q8,h.q3,Nat.le_succ_of_le h.cnt,Nat.le_succ_of_le h.lst,h.up,h.tw,h.wup,fun x hx=>?_,fun x hx=>?_⟩
 · obtain ⟨a,b,c,d⟩:=h.idr u hu
   exact ⟨a,b,Nat.lt_succ_of_lt c,d⟩
 · exact ⟨Nat.lt_succ_of_lt (h.wq x hx).1,(h.wq x hx).2⟩
 · obtain ⟨y,h1,h2⟩:=h.tg x hx
   exact ⟨y,hg _ _ h1,h2⟩
 · obtain ⟨y,h1,h2⟩:=h.wg x hx
   exact ⟨y,hg _ _ h1,h2⟩
theorem Ok0.begin {q:Int} {W Qn:Nat} {Sn:List Int} {L:Led} (h:Ok0 q W Qn Sn L) (k:Nat) (e:Int) (he:e=1∨e=2) (hg:∃ s,Sn[k]?=some s∧e=min s q) (hu:L.U.length < W) (h1:∀ a∈L.TT,a.2≠0→a.1 < k) (h2:∀ b∈L.Wt,k < b.1) (hc:L.TT.length+L.Wt.length+1≤L.n) (hl:L.last+1+L.Wt.length≤L.n):Ok0 q W Qn Sn (add L (some (L.last+1,k,e))):=by
 have he0:e≠0:=by omega
 have hk:k < L.n:=by
  obtain ⟨s,hs,_⟩:=hg
  have:=(List.getElem?_eq_some_iff.1 hs).1
  have:=h.len
  omega
 have ea:add L (some (L.last+1,k,e)) = { L with U:=L.U ++ [(L.last+1,k,e)],TT:=L.TT ++ [(k,e)],last:=L.last+1 }:=add_some he0
 rw [ea]
 refine ⟨h.len,h.n30,by show L.last+1≤L.n;omega,?_,?_,h.wq,by simp;omega,h.que,h.w1,h.w8,h.q8,h.q3,by simp;omega,by show L.last+1+L.Wt.length≤L.n;omega,?_,?_,h.wup,?_,h.wg⟩
 · rw [List.pairwise_append]
   refine ⟨h.ids,by simp,fun a ha b hb=>?_⟩
   simp at hb
   subst hb
   have:=(h.idr a ha).2.1
   show a.1 < L.last+1
   omega
 · intro u hu
   rcases List.mem_append.1 hu with hu | hu
   · obtain ⟨a,b,c,d⟩:=h.idr u hu
     exact ⟨a,Nat.le_succ_of_le b,c,d⟩
   · simp at hu
     subst hu
     exact ⟨Nat.succ_pos _,Nat.le_refl _,hk,he⟩
 · rw [List.pairwise_append]
   refine ⟨h.up,by simp,fun a ha b hb hab=>?_⟩
   simp at hb
   subst hb
   exact h1 a ha (fun e0=>he0 (hab.1 e0))
 · intro a ha b hb hab
   rcases List.mem_append.1 ha with ha | ha
   · exact h.tw a ha b hb hab
   · simp at ha
     subst ha
     exact h2 b hb
 · intro x hx
   rcases List.mem_append.1 hx with hx | hx
   · exact h.tg x hx
   · simp at hx
     subst hx
     exact hg
theorem Ok0.zero {q:Int} {W Qn:Nat} {Sn:List Int} {L:Led} (h:Ok0 q W Qn Sn L) (k id:Nat) (hg:∃ s,Sn[k]?=some s∧0=min s q) (h1:∀ a∈L.TT,a.1 < k) (hc:L.TT.length+L.Wt.length+1≤L.n):Ok0 q W Qn Sn (add L (some (id,k,0))):=by
 refine ⟨h.len,h.n30,h.last,h.ids,h.idr,h.wq,h.win,h.que,h.w1,h.w8,h.q8,h.q3,by simp [add];omega,h.lst,?_,?_,h.wup,?_,h.wg⟩
 · show (L.TT ++ [(k,(0:Int))]).Pairwise _
   rw [List.pairwise_append]
   refine ⟨h.up,by simp,fun a ha b hb _=>?_⟩
   simp at hb
   subst hb
   exact h1 a ha
 · intro a ha b hb hab
   rcases List.mem_append.1 (show a∈L.TT ++ [(k,(0:Int))] from ha) with ha | ha
   · exact h.tw a ha b hb hab
   · simp at ha
     subst ha
     exact (hab rfl).elim
 · intro x hx
   rcases List.mem_append.1 (show x∈L.TT ++ [(k,(0:Int))] from hx) with hx | hx
   · exact h.tg x hx
   · simp at hx
     subst hx
     exact hg
theorem Ok0.wait {q:Int} {W Qn:Nat} {Sn:List Int} {L:Led} (h:Ok0 q W Qn Sn L) (k:Nat) (e:Int) (he:e=1∨e=2) (hg:∃ s,Sn[k]?=some s∧e=min s q) (h1:∀ a∈L.TT,a.1 < k) (h2:∀ b∈L.Wt,b.1 < k) (hq:L.Wt.length < Qn) (hc:L.TT.length+L.Wt.length+1≤L.n) (hl:L.last+1+L.Wt.length≤L.n):Ok0 q W Qn Sn { L with Wt:=L.Wt ++ [(k,e)] }:=by
 have hk:k < L.n:=by
  obtain ⟨s,hs,_⟩:=hg
  have:=(List.getElem?_eq_some_iff.1 hs).1
  have:=h.len
  omega
 refine ⟨h.len,h.n30,h.last,h.ids,h.idr,?_,h.win,by simp;omega,h.w1,h.w8,h.q8,h.q3,by simp;omega,by simp;omega,h.up,?_,?_,h.tg,?_⟩
 · intro x hx
   rcases List.mem_append.1 hx with hx | hx
   · exact h.wq x hx
   · simp at hx
     subst hx
     exact ⟨hk,he⟩
 · intro a ha b hb hab
   rcases List.mem_append.1 hb with hb | hb
   · exact h.tw a ha b hb hab
   · simp at hb
     subst hb
     exact h1 a ha
 · rw [List.pairwise_append]
   refine ⟨h.wup,by simp,fun a ha b hb=>?_⟩
   simp at hb
   subst hb
   exact h2 a ha
 · intro x hx
   rcases List.mem_append.1 hx with hx | hx
   · exact h.wg x hx
   · simp at hx
     subst hx
     exact hg
theorem Ok.pub {q:Int} {W Qn:Nat} {Sn:List Int} {L:Led} (h:Ok q W Qn Sn L) (s:Int) (hs:s=0∨s=1∨s=2) (h30:L.n < 30000):Ok q W Qn (Sn ++ [s]) (add (preP q W Qn s L) (pubO q W s L)):=by
 have h0:=h.toOk0.sent s h30
 have hq:=h.q3
 have hw:=h.win
 have hc:=h.cnt
 have hl:=h.lst
 have hgs:(Sn ++ [s])[L.n]?=some s:=by rw [← h.len];simp
 have ht:∀ a∈L.TT,a.1 < L.n:=fun a ha=>h.tn ha
 have hwn:∀ b∈L.Wt,b.1 < L.n:=fun b hb=>(h.wq b hb).1
 by_cases he:min s q=0
 · have e1:preP q W Qn s L = { L with n:=L.n+1 }:=by simp [preP,he]
   have e2:pubO q W s L=some (0,L.n,0):=if_pos he
   rw [e1,e2]
   refine ⟨h0.zero L.n 0 ⟨s,hgs,he.symm⟩ ht (by show L.TT.length+L.Wt.length+1≤L.n+1;omega),?_⟩
   exact h.full
 · have he12:min s q=1∨min s q=2:=by omega
   by_cases hu:L.U.length < W
   · have e1:preP q W Qn s L = { L with n:=L.n+1 }:=by simp [preP,hu]
     have e2:pubO q W s L=some (L.last+1,L.n,min s q):=by unfold pubO;rw [if_neg he,if_pos hu]
     have hW0:L.Wt = []:=by
      by_cases e:L.Wt = []
      · exact e
      · have:=h.full e;omega
     rw [e1,e2]
     refine ⟨h0.begin L.n (min s q) he12 ⟨s,hgs,rfl⟩ hu (fun a ha _=>ht a ha) (fun b hb=>by have:b∈L.Wt:=hb;rw [hW0] at this;cases this) (by show L.TT.length+L.Wt.length+1≤L.n+1;omega) (by show L.last+1+L.Wt.length≤L.n+1;omega),?_⟩
     intro hne
     exfalso
     apply hne
     show (add { L with n:=L.n+1 } (some (L.last+1,L.n,min s q))).Wt = []
     rw [add_some he]
     exact hW0
   · have e2:pubO q W s L=none:=by unfold pubO;rw [if_neg he,if_neg hu]
     rw [e2]
     by_cases hqn:L.Wt.length < Qn
     · have e1:preP q W Qn s L = { L with n:=L.n+1,Wt:=L.Wt ++ [(L.n,min s q)] }:=by simp [preP,he,hu,hqn]
       rw [e1]
       refine ⟨h0.wait L.n (min s q) he12 ⟨s,hgs,rfl⟩ ht hwn hqn (by show L.TT.length+L.Wt.length+1≤L.n+1;omega) (by show L.last+1+L.Wt.length≤L.n+1;omega),fun _=>?_⟩
       show L.U.length=W
       omega
     · have e1:preP q W Qn s L = { L with n:=L.n+1 }:=by simp [preP,hqn]
       rw [e1]
       exact ⟨h0,h.full⟩
theorem Ok.ack {q:Int} {W Qn:Nat} {Sn:List Int} {L:Led} (h:Ok q W Qn Sn L) {r:Nat} (hr:r < L.U.length):Ok q W Qn Sn (add (preA r L) (ackO L)):=by
 have hl:(L.U.eraseIdx r).length+1=L.U.length:=by rw [List.length_eraseIdx];split<;>omega
 have hw:=h.win
 have hc:=h.cnt
 have hls:=h.lst
 have hids:(L.U.eraseIdx r).Pairwise (fun a b=>a.1 < b.1):=h.ids.sublist (List.eraseIdx_sublist _ _)
 have hidr:∀ u∈L.U.eraseIdx r,1≤u.1∧u.1≤L.last∧u.2.1 < L.n∧(u.2.2=1∨u.2.2=2):=fun u hu=>h.idr u (List.mem_of_mem_eraseIdx hu)
 cases hW:L.Wt with
 | nil =>
   have e:add (preA r L) (ackO L) = { L with U:=L.U.eraseIdx r }:=by
    unfold ackO;rw [hW];show preA r L=_;unfold preA;rw [hW];rfl
   rw [e]
   exact ⟨⟨h.len,h.n30,h.last,hids,hidr,h.wq,by show (L.U.eraseIdx r).length≤W;omega,h.que,h.w1,h.w8,h.q8,h.q3,h.cnt,h.lst,h.up,h.tw,h.wup,h.tg,h.wg⟩,fun hne=>(hne hW).elim⟩
 | cons x t =>
   have hf:=h.full (by rw [hW];simp)
   have hx:=(h.wq x (by rw [hW];simp)).2
   have hx0:x.2≠0:=by omega
   have hsub:∀ b,b∈t→b∈L.Wt:=fun b hb=>by rw [hW];exact List.mem_cons_of_mem _ hb
   have hlw:L.Wt.length=t.length+1:=by rw [hW];rfl
   have hup:(x :: t).Pairwise (fun a b=>a.1 < b.1):=by rw [← hW];exact h.wup
   have h0:Ok0 q W Qn Sn { L with U:=L.U.eraseIdx r,Wt:=t }:=by
    have hqn:=h.que
    exact ⟨h.len,h.n30,h.last,hids,hidr,fun b hb=>h.wq b (hsub b hb),by show (L.U.eraseIdx r).length≤W;omega,by show t.length≤Qn;omega,h.w1,h.w8,h.q8,h.q3,by show L.TT.length+t.length≤L.n;omega,by show L.last+t.length≤L.n;omega,h.up,fun a ha b hb=>h.tw a ha b (hsub b hb),(List.pairwise_cons.1 hup).2,h.tg,fun b hb=>h.wg b (hsub b hb)⟩
   have ea:ackO L=some (L.last+1,x.1,x.2):=by unfold ackO;rw [hW]
   have ep:preA r L = { L with U:=L.U.eraseIdx r,Wt:=t }:=by unfold preA;rw [hW];rfl
   rw [ea,ep]
   refine ⟨h0.begin x.1 x.2 hx (h.wg x (by rw [hW];simp)) (by show (L.U.eraseIdx r).length < W;omega) (fun a ha ha0=>h.tw a ha x (by rw [hW];simp) ha0) (fun b hb=>(List.pairwise_cons.1 hup).1 b hb) (by show L.TT.length+t.length+1≤L.n;omega) (by show L.last+1+t.length≤L.n;omega),fun _=>?_⟩
   rw [add_some hx0]
   simp
   omega
structure Rel (W Qn:Nat) (L:Led) (VS:StgV) (T:List Int) (O:List Pkt):Prop where
 told:T=L.TT.map (fun x=>(x.1:Int))
 opn:O.map (fun p=>(p.id,p.qos,p.payload))=L.U.map (fun u=>((u.1:Int),u.2.2,numB u.2.1))
 id:VS.id=(L.n:Int)
 win:VS.win=(W:Int)
 que:VS.que=(Qn:Int)
theorem Rel.len {W Qn:Nat} {L:Led} {VS:StgV} {T:List Int} {O:List Pkt} (h:Rel W Qn L VS T O):O.length=L.U.length:=by
 have:=congrArg List.length h.opn
 simpa using this
theorem Rel.at {W Qn:Nat} {L:Led} {VS:StgV} {T:List Int} {O:List Pkt} (h:Rel W Qn L VS T O) {r:Nat} {p:Pkt} (hp:O[r]?=some p):∃ u,L.U[r]?=some u∧p.id=(u.1:Int)∧p.qos=u.2.2∧p.payload=numB u.2.1:=by
 have hl:=h.len
 have hr:r < L.U.length:=by have:=(List.getElem?_eq_some_iff.1 hp).1;omega
 obtain ⟨u,hu⟩:∃ u,L.U[r]?=some u:=⟨_,List.getElem?_eq_getElem hr⟩
 have e:=congrArg (fun l=>l[r]?) h.opn
 simp only [List.getElem?_map,hp,hu,Option.map_some] at e
 simp at e
 exact ⟨u,hu,e.1,e.2.1,e.2.2⟩
theorem Rel.idx_at {q:Int} {W Qn:Nat} {Sn:List Int} {L:Led} {VS:StgV} {T:List Int} {O:List Pkt} (h:Rel W Qn L VS T O) (hk:Ok q W Qn Sn L) (r:Nat) (p:Pkt) (hp:O[r]?=some p):idx (fun x=>x.id == p.id) O=(r:Int):=by
 refine idx_some hp (by simp) (fun j y hj hy=>?_)
 obtain ⟨u,hu,e1,_⟩:=h.at hp
 obtain ⟨v,hv,e2,_⟩:=h.at hy
 have:=hk.id_ne (by omega) hu hv
 simp [e1,e2]
 omega
theorem Rel.idx_new {W Qn:Nat} {L:Led} {VS:StgV} {T:List Int} {O:List Pkt} (h:Rel W Qn L VS T O) (id:Nat) (hi:∀ u∈L.U,u.1 < id):idx (fun p=>p.id == (id:Int)) O=-1:=by
 refine idx_none (fun j x hx=>?_)
 obtain ⟨u,hu,e1,_⟩:=h.at hx
 have:=hi u (List.mem_of_getElem? hu)
 simp [e1]
 omega
theorem Rel.shut {W Qn:Nat} {L:Led} {VS VS':StgV} {T:List Int} {O:List Pkt} (h:Rel W Qn L VS T O) (r:Nat) (wt:List (Nat×Int)) (h1:VS'.id=VS.id) (h2:VS'.win=VS.win) (h3:VS'.que=VS.que):Rel W Qn { L with U:=L.U.eraseIdx r,Wt:=wt } VS' T (O.eraseIdx r):=by
 refine ⟨h.told,?_,h1.trans h.id,h2.trans h.win,h3.trans h.que⟩
 rw [← erase_map,h.opn,erase_map]
theorem Rel.add {W Qn:Nat} {L:Led} {VS VS':StgV} {T:List Int} {O:List Pkt} (h:Rel W Qn L VS T O) (id k:Nat) (e:Int) (he:e≠0) (p:Pkt) (hp1:p.id=(id:Int)) (hp2:p.qos=e) (hp3:p.payload=numB k) (h1:VS'.id=VS.id) (h2:VS'.win=VS.win) (h3:VS'.que=VS.que):Rel W Qn (on.add L (some (id,k,e))) VS' (T ++ [(k:Int)]) (O ++ [p]):=by
 rw [add_some he]
 refine ⟨?_,?_,h1.trans h.id,h2.trans h.win,h3.trans h.que⟩
 · rw [h.told,List.map_append];rfl
 · rw [List.map_append,h.opn,List.map_append]
   simp [hp1,hp2,hp3]
theorem Rel.add0 {W Qn:Nat} {L:Led} {VS VS':StgV} {T:List Int} {O:List Pkt} (h:Rel W Qn L VS T O) (id k:Nat) (h1:VS'.id=VS.id) (h2:VS'.win=VS.win) (h3:VS'.que=VS.que):Rel W Qn (on.add L (some (id,k,0))) VS' (T ++ [(k:Int)]) O:=by
 refine ⟨?_,h.opn,h1.trans h.id,h2.trans h.win,h3.trans h.que⟩
 show T ++ [(k:Int)]=(L.TT ++ [(k,(0:Int))]).map (fun x=>(x.1:Int))
 rw [h.told,List.map_append]
 rfl
theorem Ok.ord {q:Int} {W Qn:Nat} {Sn:List Int} {L:Led} {VS:StgV} {T:List Int} {O:List Pkt} (h:Ok q W Qn Sn L) (hr:Rel W Qn L VS T O):Ord q T Sn:=by
 have hat:∀ (i:Nat) n,T[i]?=some n→∃ x,L.TT[i]?=some x∧n=(x.1:Int)∧∃ s,Sn[x.1]?=some s∧x.2=min s q:=fun i n hn=>by
  rw [hr.told,List.getElem?_map] at hn
  obtain ⟨x,hx,rfl⟩:=Option.map_eq_some_iff.1 hn
  exact ⟨x,hx,rfl,h.tg x (List.mem_of_getElem? hx)⟩
 have hp:=List.pairwise_iff_getElem.1 h.up
 have hup:∀ (i j:Nat) (x y:Nat×Int),i < j→L.TT[i]?=some x→L.TT[j]?=some y→x.2=y.2→x.1 < y.1:=fun i j x y hij hx hy e=>by
  obtain ⟨hi,rfl⟩:=List.getElem?_eq_some_iff.1 hx
  obtain ⟨hj,rfl⟩:=List.getElem?_eq_some_iff.1 hy
  exact hp i j hi hj hij (by rw [e])
 refine ⟨fun i n hn=>?_,fun i j a b x y hij ha hb hx hy e=>?_,fun i j a b hij ha hb e=>?_⟩
 · obtain ⟨x,hx,rfl,s,hs,_⟩:=hat i n hn
   have:=(List.getElem?_eq_some_iff.1 hs).1
   omega
 · obtain ⟨u,hu,rfl,s,hs,es⟩:=hat i a ha
   obtain ⟨v,hv,rfl,t,ht,et⟩:=hat j b hb
   simp only [Int.toNat_natCast] at hx hy
   rw [hs] at hx
   rw [ht] at hy
   cases hx
   cases hy
   have:=hup i j u v hij hu hv (by rw [es,et,e])
   omega
 · obtain ⟨u,hu,rfl,s,hs,es⟩:=hat i a ha
   obtain ⟨v,hv,e2,t,ht,et⟩:=hat j b hb
   have e3:u.1=v.1:=by omega
   rw [e3,ht] at hs
   cases hs
   have:=hup i j u v hij hu hv (by rw [es,et])
   omega
def pkO (x:Nat×Nat×Int):Pkt:=msgP x.2.2 (x.1:Int) (numB x.2.1)
def outO:Option (Nat×Nat×Int)→List OutS
 | none=>[]
 | some x=>[⟨((0:Nat):Int),encD (pkO x) [] [],false⟩]
def Hear (w:World) (lb:Nat) (v:Value):Option (Nat×Nat×Int)→Prop
 | none=>v=.slice none 0 0
 | some x=>Came w lb (pkO x) v
structure FitO (x:Nat×Nat×Int):Prop where
 num:x.2.1 < 60000
 id:(x.2.2=0∧x.1=0)∨((x.2.2=1∨x.2.2=2)∧1≤x.1∧x.1≤60000)
theorem FitO.goes {x:Nat×Nat×Int} (h:FitO x):Goes (pkO x):=by
 obtain ⟨id,k,e⟩:=x
 rcases h.id with ⟨h1,h2⟩ | ⟨h1,h2,h3⟩
 · have e1:e=0:=h1
   have e2:id=0:=h2
   subst e1 e2
   exact on.goes_msg0 k
 · exact on.goes_msg false e h1 (id:Int) (by have:1≤id:=h2;omega) (by have:id≤60000:=h3;omega) k
theorem Hear.but {F:Nat→Prop} {w w':World} {lb:Nat} {v:Value} {o:Option (Nat×Nat×Int)} (h:Hear w lb v o) (hb:But F w w') (hn:∀ g c,w.heap[g]?=some (.cells c 36)→¬ F g):Hear w' lb v o:=by
 cases o with
 | none=>exact h
 | some x=>exact Came.but h hb hn
def Stays (b lb:Nat) (VS:StgV) (w w':World):Prop:=∀ g,g < w.heap.size→g≠lb→¬ VS.has b g→w'.heap[g]?=w.heap[g]?
def SeenO (N0:Nat) (ash aw:Addr) (w0:World) (b lb B:Nat) (BV:BrV) (px py:Pkt) (X Y:SideV) (SX SY:Ses) (Sn:List Int) (W Qn:Nat) (L:Led) (VS:StgV) (w w3:World):Prop:=
 ∃ V' VS' T' O',Wh N0 ash aw w0 w3 b lb B V' BV px py X Y SX SY (fun _=>False) VS' T' O' Sn∧Rel W Qn L VS' T' O'∧Stays b lb VS w w3
theorem seesOpt {N0:Nat} {ash aw:Addr} {w0 w:World} {b lb B:Nat} {V:LineV} {BV:BrV} {px py:Pkt} {X Y:SideV} {SX SY:Ses} {G:Nat→Prop} {VS:StgV} {T:List Int} {O:List Pkt} {Sn:List Int} {W Qn:Nat} {L:Led} (o:Option (Nat×Nat×Int)) (H:Wh N0 ash aw w0 w b lb B V BV px py X Y SX SY G VS T O Sn) (hG:∀ n,G n→n=0) (hh:Hear w lb (V.got 0) o) (ho:∀ x,o=some x→FitO x) (hR:Rel W Qn L VS T O) (hnew:∀ x,o=some x→x.2.2≠0→∀ u∈L.U,u.1 < x.1) (hT:T.length≤100000) (hO:O.length≤100000) :
 ∃ qa n c,SeesOk b lb (SeenO N0 ash aw w0 b lb B BV px py X Y SX SY Sn W Qn (add L o) VS w) w qa n c V:=by
 have hst:∀ {w1 w3:World} (hb1:Below w.heap.size w w1) (hb:But (VS.has b) (w1.setCell ⟨lb,1,none⟩ (.slice none 0 0)) w3),Stays b lb VS w w3:=fun {w1 w3} hb1 hb g hg hgl hgs=>by
  have hs:(w1.setCell ⟨lb,1,none⟩ (.slice none 0 0)).heap.size=w1.heap.size:=by simp
  rw [hb.keep g (by rw [hs];have:=hb1.size;omega) hgs,Below.heap_setCell _ _ _ _ (fun e=>hgl e),hb1.block g hg]
 have hne:b≠lb:=fun e=>H.apart b (Or.inl rfl) (Or.inl e)
 cases o with
 | none =>
   refine ⟨_,_,_,H.hall.line.line,H.cell0,hne,hh,fun w1 hb1=>?_⟩
   have H1:=(H.below hb1).seen 0 (by omega)
   refine (sees_none b none 0 _).mono ?_
   rintro e w3 ⟨rfl,hB⟩
   exact ⟨rfl,_,VS,T,O,(H1.below hB).only (fun n hn=>hn.2 (hG n hn.1)),hR,hst hb1 (But.of_below hB)⟩
 | some x =>
   obtain ⟨id,k,e⟩:=x
   have hf:=ho _ rfl
   obtain ⟨g,cap,fv,cv,e1,hgl,⟨c,hc⟩,_,_,hcell,hsh⟩:=hh
   refine ⟨_,_,_,H.hall.line.line,H.cell0,hne,e1,fun w1 hb1=>?_⟩
   have H1:=(H.below hb1).seen 0 (by omega)
   have hcell1:∀ (i:Nat) u,(pkK { pkO (id,k,e) with fv:=fv,cv:=cv })[i]?=some u→(w1.setCell ⟨lb,1,none⟩ (.slice none 0 0)).cell? ⟨g,i,none⟩=some u:=fun i u hu=>by
    have h:=hcell i u hu
    have hlt:=cell_blt h
    simp only at hlt
    rw [World.cell?_of_block (w:=w) ((Below.heap_setCell _ _ _ _ (fun e=>hgl e)).trans (hb1.block g hlt))]
    exact h
   rcases hf.id with ⟨hz,_⟩ | ⟨hz,hi1,hi2⟩
   · have hz':e=0:=hz
     subst hz'
     refine (sees_zero b g cap k VS T O Sn { pkO (id,k,0) with fv:=fv,cv:=cv } _ H1.stg hcell1 rfl rfl hf.num rfl rfl rfl hT hsh).mono ?_
     rintro e w3 ⟨rfl,tv',hs,hbut,ht⟩
     refine ⟨rfl,_,_,_,_,(H1.stage hbut hs rfl (fun g hg=>?_)).only (fun n hn=>hn.2 (hG n hn.1)),hR.add0 id k rfl rfl rfl,hst hb1 hbut⟩
     rcases hg with hg | hg | hg | hg
     · exact Or.inl (Or.inl hg)
     · rcases ht with e | ⟨g',e1,e2⟩
       · exact Or.inl (Or.inr (Or.inl (e ▸ hg)))
       · have hg2:tv'.ownBlock=some g:=hg
         rw [e1] at hg2;cases hg2
         exact Or.inr e2
     · exact Or.inl (Or.inr (Or.inr (Or.inl hg)))
     · exact Or.inl (Or.inr (Or.inr (Or.inr hg)))
   · have hz0:e≠0:=by have hz':e=1∨e=2:=hz;omega
     refine (sees_one b g cap k VS T O Sn { pkO (id,k,e) with fv:=fv,cv:=cv } _ H1.stg hcell1 rfl rfl hf.num rfl rfl hz (hR.idx_new id (hnew _ rfl hz0)) hT hO hsh).mono ?_
     rintro e' w3 ⟨rfl,tv',pv',hs,hbut,ht,hp⟩
     refine ⟨rfl,_,_,_,_,(H1.stage hbut hs rfl (fun g hg=>?_)).only (fun n hn=>hn.2 (hG n hn.1)),hR.add id k e hz0 _ rfl rfl rfl rfl rfl rfl,hst hb1 hbut⟩
     rcases hg with hg | hg | hg | hg
     · exact Or.inl (Or.inl hg)
     · rcases ht with e | ⟨g',e1,e2⟩
       · exact Or.inl (Or.inr (Or.inl (e ▸ hg)))
       · have hg2:tv'.ownBlock=some g:=hg
         rw [e1] at hg2;cases hg2
         exact Or.inr e2
     · rcases hp with e | ⟨g',e1,e2⟩
       · exact Or.inl (Or.inr (Or.inr (Or.inl (e ▸ hg))))
       · have hg2:pv'.ownBlock=some g:=hg
         rw [e1] at hg2;cases hg2
         exact Or.inr e2
     · exact Or.inl (Or.inr (Or.inr (Or.inr hg)))
theorem outs0 (o:Option (Nat×Nat×Int)) (h:∀ x,o=some x→FitO x):OutsOk (outO o) (fun _=>(pkO (o.getD (0,0,0)),[],[])) (fun _=>False):=by
 cases o with
 | none=>exact outs_nil _ _
 | some x=>exact outs_one _ (h x rfl).goes 0 (by omega) _ rfl _ (fun f=>f)
theorem hear0 {N0:Nat} {ash aw:Addr} {w0 w w':World} {b lb B:Nat} {V V':LineV} {BV:BrV} {px py:Pkt} {X Y X' Y':SideV} {SX SY:Ses} {VS:StgV} {T:List Int} {O:List Pkt} {Sn:List Int} (o:Option (Nat×Nat×Int)) (hlb:lb < w.heap.size) (hV:V.got 0=.slice none 0 0) (hA:After N0 ash aw w0 w b lb B V BV px py X Y SX SY (fun _=>False) VS T O Sn (outO o) (fun _=>(pkO (o.getD (0,0,0)),[],[])) w' V' X' Y') :
 Hear w' lb (V'.got 0) o∧Wh N0 ash aw w0 w' b lb B V' BV px py X' Y' SX SY (fun n=>n=0) VS T O Sn:=by
 refine ⟨?_,hA.wh.only (fun n hn=>?_)⟩
 · cases o with
   | none=>exact (hA.old 0 (fun o ho=>by cases ho)).trans hV
   | some x =>
     obtain ⟨n,e,hg⟩:=hA.new 0 _ rfl
     have e':n=0:=by have:((0:Nat):Int)=(n:Int):=e;omega
     subst e'
     exact Came.of hg hlb
 · rcases hn with hn | ⟨p,hp,e⟩
   · exact hn.elim
   · cases o with
     | none=>cases hp
     | some x =>
       have:p=⟨((0:Nat):Int),encD (pkO x) [] [],false⟩:=by simpa [outO] using hp
       subst this
       have:((0:Nat):Int)=(n:Int):=e
       omega
structure HelloOf (p:Pkt) (c:List UInt8):Prop where
 client:p.client=c
 clean:p.clean=false
 will:p.will=false
structure StM (N0:Nat) (ash aw:Addr) (w0:World) (b lb B:Nat) (q:Int) (W Qn:Nat) (kn:List Int) (V:LineV) (BV:BrV) (px py:Pkt) (X Y:SideV) (VS:StgV) (T:List Int) (O:List Pkt) (Sn:List Int) (L:Led) (w:World):Prop where
 wh:Wh N0 ash aw w0 w b lb B V BV px py X Y (ses q W Qn L) { newS (W:Int) Qn with known:=kn } (fun _=>False) VS T O Sn
 rel:Rel W Qn L VS T O
 ok:Ok q W Qn Sn L
 hx:HelloOf px [99]
 hy:HelloOf py [100]
 cv:∀ j,2≤j→BV.cv j=.pointer none
theorem outO_some (o:Option (Nat×Nat×Int)):(if (o.map (fun x=>msgQ x.2.2 x.2.1)).isSome=true then [⟨((0:Nat):Int),encD (pkO (o.getD (0,0,0))) [] [],false⟩] else []:List OutS)=outO o:=by
 cases o<;>rfl
theorem ackO_enc {q:Int} {W Qn:Nat} {Sn:List Int} {L:Led} (h:Ok q W Qn Sn L) {r:Nat} {m:Msg} (hm:(ackO L).map (fun x=>msgQ x.2.2 x.2.1)=some m):encD (pktS m (nextS (L.last:Int) ((L.U.eraseIdx r).map uwE))) [] []=encD (pkO ((ackO L).getD (0,0,0))) [] []:=by
 rw [next_any L.last _ (fun u hu=>ids_le h u (List.mem_of_mem_eraseIdx hu)) (last30 h)]
 cases hW:L.Wt with
 | nil=>unfold ackO at hm;rw [hW] at hm;cases hm
 | cons x t =>
   have ea:ackO L=some (L.last+1,x.1,x.2):=by unfold ackO;rw [hW]
   rw [ea] at hm ⊢
   cases hm
   rfl
theorem feed4L {N0:Nat} {ash aw:Addr} {w:World} {lb B:Nat} {V:LineV} {BV:BrV} {D:DataW Unit} {px py:Pkt} {X Y:SideV} {SY:Ses} {G:Nat→Prop} {q:Int} {W Qn:Nat} {Sn:List Int} {L:Led} (hk:Ok q W Qn Sn L) {r:Nat} {u:Nat×Nat×Int} (hu:L.U[r]?=some u) (h1:u.2.2=1) (h:Hall2 N0 ash aw w lb B 0 1 V BV 2 D px py X Y (ses q W Qn L) SY G) (hg:Goes (ackK 4 (u.1:Int))) (g c:Nat) (hd:∀ j x,(encD (ackK 4 (u.1:Int)) [] [])[j]?=some x→w.cell? ⟨g,0+j,none⟩=some (.int .u8 (x.toNat:Int))) :
 Calls Tryz.prog 24 #[.pointer (some ⟨B,0,none⟩),.int .i64 ((0:Nat):Int),.slice (some ⟨g,0,none⟩) (encD (ackK 4 (u.1:Int)) [] []).length c] w fun e w'=>∃ ov Lo,e=.returned (.tuple #[ov,.int .i64 0])∧FdW B 0 1 px py BV X Y (ses q W Qn (add (preA r L) (ackO L))) SY (outO (ackO L)) w w' ov Lo:=by
 have hr:r < L.U.length:=(List.getElem?_eq_some_iff.1 hu).1
 obtain ⟨g1,g2,g3⟩:=go_is hk hr
 have e0:(ackK 4 (u.1:Int)).id=(u.1:Int):=rfl
 have hfd:=feed_ack (N0:=N0) (ash:=ash) (aw:=aw) B 0 1 (ackK 4 (u.1:Int)) px py (encD (ackK 4 (u.1:Int)) [] []) (encD (pkO ((ackO L).getD (0,0,0))) [] []) BV X Y (ses q W Qn L) SY g c w h.room.gd h.room.blk h.sx h.sy h.x0 h.y0 h.room.B0 h.dis (by omega) h.vx h.room.clk hg.pos hg.max hd hg.dec rfl
 rw [e0,end_done hk hu h1,g2,g1,outO_some] at hfd
 refine hfd (fun m hm=>ackO_enc hk hm) (by show (0:Int)≤(L.last:Int);omega) ?_ g3
 have:=hk.win
 have:=hk.w8
 simp [ses]
 omega
theorem feed7L {N0:Nat} {ash aw:Addr} {w:World} {lb B:Nat} {V:LineV} {BV:BrV} {D:DataW Unit} {px py:Pkt} {X Y:SideV} {SY:Ses} {G:Nat→Prop} {q:Int} {W Qn:Nat} {Sn:List Int} {L:Led} (hk:Ok q W Qn Sn L) {r:Nat} {u:Nat×Nat×Int} (hu:L.U[r]?=some u) (h:Hall2 N0 ash aw w lb B 0 1 V BV 2 D px py X Y (sesR q W Qn L r (u.1:Int)) SY G) (hg:Goes (ackK 7 (u.1:Int))) (g c:Nat) (hd:∀ j x,(encD (ackK 7 (u.1:Int)) [] [])[j]?=some x→w.cell? ⟨g,0+j,none⟩=some (.int .u8 (x.toNat:Int))) :
 Calls Tryz.prog 24 #[.pointer (some ⟨B,0,none⟩),.int .i64 ((0:Nat):Int),.slice (some ⟨g,0,none⟩) (encD (ackK 7 (u.1:Int)) [] []).length c] w fun e w'=>∃ ov Lo,e=.returned (.tuple #[ov,.int .i64 0])∧FdW B 0 1 px py BV X Y (ses q W Qn (add (preA r L) (ackO L))) SY (outO (ackO L)) w w' ov Lo:=by
 have hr:r < L.U.length:=(List.getElem?_eq_some_iff.1 hu).1
 obtain ⟨g1,g2,g3⟩:=go_is hk hr
 have e0:(ackK 7 (u.1:Int)).id=(u.1:Int):=rfl
 have hfd:=feed_comp (N0:=N0) (ash:=ash) (aw:=aw) B 0 1 (ackK 7 (u.1:Int)) px py (encD (ackK 7 (u.1:Int)) [] []) (encD (pkO ((ackO L).getD (0,0,0))) [] []) BV X Y (sesR q W Qn L r (u.1:Int)) SY g c w h.room.gd h.room.blk h.sx h.sy h.x0 h.y0 h.room.B0 h.dis (by omega) h.vx h.room.clk hg.pos hg.max hd hg.dec rfl
 rw [e0,end_comp hu,g2,g1,outO_some] at hfd
 refine hfd (fun m hm=>ackO_enc hk hm) (by show (0:Int)≤(L.last:Int);omega) ?_ g3
 have:=hk.win
 have:=hk.w8
 simp [sesR,ses]
 omega
theorem feed5L {N0:Nat} {ash aw:Addr} {w:World} {lb B:Nat} {V:LineV} {BV:BrV} {D:DataW Unit} {px py:Pkt} {X Y:SideV} {SY:Ses} {G:Nat→Prop} {q:Int} {W Qn:Nat} {Sn:List Int} {L:Led} (hk:Ok q W Qn Sn L) {r:Nat} {u:Nat×Nat×Int} (hu:L.U[r]?=some u) (h2:u.2.2=2) (h:Hall2 N0 ash aw w lb B 0 1 V BV 2 D px py X Y (ses q W Qn L) SY G) (hg:Goes (ackK 5 (u.1:Int))) (g c:Nat) (hd:∀ j x,(encD (ackK 5 (u.1:Int)) [] [])[j]?=some x→w.cell? ⟨g,0+j,none⟩=some (.int .u8 (x.toNat:Int))) :
 Calls Tryz.prog 24 #[.pointer (some ⟨B,0,none⟩),.int .i64 ((0:Nat):Int),.slice (some ⟨g,0,none⟩) (encD (ackK 5 (u.1:Int)) [] []).length c] w fun e w'=>∃ ov Lo,e=.returned (.tuple #[ov,.int .i64 0])∧FdW B 0 1 px py BV X Y (sesR q W Qn L r (u.1:Int)) SY [⟨((0:Nat):Int),encD (relS (u.1:Int)) [] [],false⟩] w w' ov Lo:=by
 have hu':(ses q W Qn L).under[r]?=some (uwE u):=by simp [ses,hu]
 refine feed_rec (N0:=N0) (ash:=ash) (aw:=aw) B 0 1 (ackK 5 (u.1:Int)) px py (encD (ackK 5 (u.1:Int)) [] []) (encD (relS (u.1:Int)) [] []) BV X Y (ses q W Qn L) SY (uwE u) r g c w h.room.gd h.room.blk h.sx h.sy h.x0 h.y0 h.room.B0 h.dis (by omega) h.vx h.room.clk hg.pos hg.max hd hg.dec rfl rfl (idx_some hu' (by show ((u.1:Int) == (u.1:Int))=true;simp) (fun j y hj hy=>?_)) hu' h2
 have hy':(L.U.map uwE)[j]?=some y:=hy
 rw [List.getElem?_map] at hy'
 obtain ⟨v,hv,rfl⟩:=Option.map_eq_some_iff.1 hy'
 have:=hk.id_ne (by omega) hu hv
 show ((v.1:Int) == (u.1:Int))=false
 rw [beq_eq_false_iff_ne]
 omega
theorem ackO_fit {q:Int} {W Qn:Nat} {Sn:List Int} {L:Led} (h:Ok q W Qn Sn L) (x:Nat×Nat×Int) (hx:ackO L=some x):FitO x∧x.1=L.last+1:=by
 have h3:=h.n30
 have h4:=h.last
 cases hW:L.Wt with
 | nil=>unfold ackO at hx;rw [hW] at hx;cases hx
 | cons y t =>
   have ea:ackO L=some (L.last+1,y.1,y.2):=by unfold ackO;rw [hW]
   rw [ea] at hx
   cases hx
   have hy:=h.wq y (by rw [hW];simp)
   refine ⟨⟨by have:=hy.1;show y.1 < 60000;omega,Or.inr ⟨hy.2,by show 1≤L.last+1;omega,by show L.last+1≤60000;omega⟩⟩,rfl⟩
theorem ack_on {N0:Nat} {ash aw:Addr} {w0 w:World} {b lb B:Nat} {q:Int} {W Qn:Nat} {kn:List Int} {V:LineV} {BV:BrV} {px py:Pkt} {X Y:SideV} {VS:StgV} {T:List Int} {O:List Pkt} {Sn:List Int} {L:Led} (n:Int) (hn1:-9223372036854775808≤n) (hn2:n≤9223372036854775807) (h:StM N0 ash aw w0 b lb B q W Qn kn V BV px py X Y VS T O Sn L w) (hp0:0 < L.U.length) :
 Calls Tryz.prog 28 #[.pointer (some ⟨b,0,none⟩),.int .i64 n] w fun e w'=>e=.returned (.bool true)∧∃ V' X' Y' VS' T' O',StM N0 ash aw w0 b lb B q W Qn kn V' BV px py X' Y' VS' T' O' Sn (add (preA (pickN n L.U.length) L) (ackO L)) w':=by
 have hW:=h.wh
 have hl:=h.rel.len
 have h8:=h.ok.win
 have h88:=h.ok.w8
 have h30:=h.ok.n30
 have hlst:=h.ok.last
 have hTl:T.length≤100000:=by rw [h.rel.told,List.length_map];have:=h.ok.cnt;omega
 have hlb:lb < w.heap.size:=hW.hall.lt (Or.inl rfl)
 have hr:pickN n L.U.length < L.U.length:=pickN_lt n hp0
 have hfin:∀ {w2 w':World} {V2:LineV} {X2 Y2:SideV} {VS2:StgV},SeenO N0 ash aw w0 b lb B BV px py X2 Y2 (ses q W Qn (add (preA (pickN n L.U.length) L) (ackO L))) { newS (W:Int) Qn with known:=kn } Sn W Qn (add (preA (pickN n L.U.length) L) (ackO L)) VS2 w2 w'→∃ V' X' Y' VS' T' O',StM N0 ash aw w0 b lb B q W Qn kn V' BV px py X' Y' VS' T' O' Sn (add (preA (pickN n L.U.length) L) (ackO L)) w':=fun {w2 w' V2 X2 Y2 VS2} hS=>by
  obtain ⟨V',VS',T',O',k1,k2,_⟩:=hS
  exact ⟨V',X2,Y2,VS',T',O',k1,k2,h.ok.ack hr,h.hx,h.hy,h.cv⟩
 have hsee:∀ {w2 w3:World} {V2 V3:LineV} {X2 Y2 X3 Y3:SideV} {VS2:StgV} (_:After N0 ash aw w0 w2 b lb B V2 BV px py X2 Y2 (ses q W Qn (add (preA (pickN n L.U.length) L) (ackO L))) { newS (W:Int) Qn with known:=kn } (fun _=>False) VS2 T (O.eraseIdx (pickN n L.U.length)) Sn (outO (ackO L)) (fun _=>(pkO ((ackO L).getD (0,0,0)),[],[])) w3 V3 X3 Y3) (_:lb < w2.heap.size) (_:V2.got 0=.slice none 0 0) (_:VS2.id=VS.id) (_:VS2.win=VS.win) (_:VS2.que=VS.que),∃ qa m c V',SeesOk b lb (fun w'=>∃ V' X' Y' VS' T' O',StM N0 ash aw w0 b lb B q W Qn kn V' BV px py X' Y' VS' T' O' Sn (add (preA (pickN n L.U.length) L) (ackO L)) w') w3 qa m c V':=fun {w2 w3 V2 V3 X2 Y2 X3 Y3 VS2} hA hl2 hV2 i1 i2 i3=>by
  obtain ⟨hh,hw⟩:=hear0 (ackO L) hl2 hV2 hA
  obtain ⟨qa,m,c,hS⟩:=seesOpt (W:=W) (Qn:=Qn) (L:=preA (pickN n L.U.length) L) (ackO L) hw (fun _ e=>e) hh (fun x hx=>(ackO_fit h.ok x hx).1) (h.rel.shut _ _ i1 i2 i3) (fun x hx _ u hu=>by
   have e1:=(ackO_fit h.ok x hx).2
   have e2:=ids_le h.ok u (List.mem_of_mem_eraseIdx hu)
   omega) hTl (by rw [List.length_eraseIdx];split<;>omega)
  exact ⟨qa,m,c,V3,hS.line,hS.cell,hS.ne,hS.got,fun w1 hb1=>(hS.see w1 hb1).mono (fun e w' k=>⟨k.1,hfin (V2:=V3) k.2⟩)⟩
 refine ack_one b lb VS T Sn O n w _ hW.stg hW.vlb (by omega) (by omega) hn1 hn2 (h.rel.idx_at h.ok) ?_ ?_
 · rw [hl]
   intro p hp hq1 w' v' hs hbut hv
   obtain ⟨u,hu,e1,e2,_⟩:=h.rel.at hp
   obtain ⟨u1,u2,u3,u4⟩:=h.ok.idr u (List.mem_of_getElem? hu)
   rw [e1]
   have hW':=hW.shut hs hbut hv
   refine (send_zero (ackK 4 (u.1:Int)) (outO (ackO L)) (fun _=>(pkO ((ackO L).getD (0,0,0)),[],[])) w' hW' rfl rfl (on.goes_ack 4 (by omega) (u.1:Int) (by omega) (by omega)) (outs0 _ (fun x hx=>(ackO_fit h.ok x hx).1)) (fun w1 g c hh hx=>feed4L h.ok hu (by omega) hh (on.goes_ack 4 (by omega) (u.1:Int) (by omega) (by omega)) g c hx)).mono ?_
   rintro e w2 ⟨rfl,V2,X2,Y2,hA⟩
   exact ⟨rfl,fun k hk hk'=>hA.but.keep k hk' (fun i=>by have:=hW.hall.lt i;omega),hsee hA (Nat.lt_of_lt_of_le hlb hbut.size) (hW'.hall.line.got 0 (fun f=>f)) rfl rfl rfl⟩
 · rw [hl]
   intro p hp hq1 w' hb'
   obtain ⟨u,hu,e1,e2,_⟩:=h.rel.at hp
   obtain ⟨u1,u2,u3,u4⟩:=h.ok.idr u (List.mem_of_getElem? hu)
   rw [e1]
   have hW':=hW.below hb'
   refine (send_zero (ackK 5 (u.1:Int)) [⟨((0:Nat):Int),encD (relS (u.1:Int)) [] [],false⟩] (fun _=>(relS (u.1:Int),[],[])) w' hW' rfl rfl (on.goes_ack 5 (by omega) (u.1:Int) (by omega) (by omega)) (outs_one _ (on.goes_ack 6 (by omega) (u.1:Int) (by omega) (by omega)) 0 (by omega) _ rfl _ (fun f=>f)) (fun w1 g c hh hx=>feed5L h.ok hu (by omega) hh (on.goes_ack 5 (by omega) (u.1:Int) (by omega) (by omega)) g c hx)).mono ?_
   rintro e w2 ⟨rfl,V2,X2,Y2,hA⟩
   have hlb':lb < w'.heap.size:=Nat.lt_of_lt_of_le hlb hb'.size
   refine ⟨rfl,hA.wh.stg,fun hx=>hW.apart lb hx (Or.inl rfl),fun k hk hk'=>hA.but.keep k hk' (fun i=>by have:=hW.hall.lt i;omega),hA.but.size,hlb,?_,?_⟩
   · obtain ⟨n',e,hg⟩:=hA.new 0 _ rfl
     have e':n'=0:=by have:((0:Nat):Int)=(n':Int):=e;omega
     subst e'
     obtain ⟨g,cap,fv,cv,e1,hgN,hc1,hcm,hcell,_,_⟩:=hg.at
     exact ⟨g,cap,V2,hA.wh.hall.line.line,e1,hc1,hcm,hcell 0 _ rfl,hcell 12 _ rfl,by omega⟩
   · intro w3 v' hs hbut hv
     have hW2:=(hA.wh.seen 0 (by omega)).only (G':=fun _=>False) (fun n hn=>by
      rcases hn with ⟨hn | ⟨o,ho,e⟩,hn0⟩
      · exact hn
      · simp at ho;subst ho
        exact hn0 (by have:((0:Nat):Int)=(n:Int):=e;omega))
     have hsz2:w2.heap.size≤(w2.setCell ⟨lb,1+0,none⟩ (.slice none 0 0)).heap.size:=(But.set (F:=fun _=>True) _ _ _ trivial).size
     have hW3:=hW2.shut hs hbut (fun g hg=>by
      have:=hv g hg
      simpa using this)
     refine (send_zero (ackK 7 (u.1:Int)) (outO (ackO L)) (fun _=>(pkO ((ackO L).getD (0,0,0)),[],[])) w3 hW3 rfl rfl (on.goes_ack 7 (by omega) (u.1:Int) (by omega) (by omega)) (outs0 _ (fun x hx=>(ackO_fit h.ok x hx).1)) (fun w1 g c hh hx=>feed7L h.ok hu hh (on.goes_ack 7 (by omega) (u.1:Int) (by omega) (by omega)) g c hx)).mono ?_
     rintro e w4 ⟨rfl,V4,X4,Y4,hA4⟩
     have hs3:w2.heap.size≤w3.heap.size:=Nat.le_trans hsz2 hbut.size
     have hs2:=hA.but.size
     have hs1:=hb'.size
     refine ⟨rfl,fun k hk hk'=>hA4.but.keep k (by omega) (fun i=>?_),hsee hA4 (by omega) (hW3.hall.line.got 0 (fun f=>f)) rfl rfl rfl⟩
     rcases hA.grow k i with i | i
     · have:=hW.hall.lt i;omega
     · omega
theorem wf_is (n:Int) (h0:0≤n) (h1:n≤65535):(Lit.int .i64 n).wf=true:=by
 have e1:IntKind.i64.min=-9223372036854775808:=by kernel_rfl
 have e2:IntKind.i64.max=9223372036854775807:=by kernel_rfl
 show (decide (IntKind.i64.min≤n) && decide (n≤IntKind.i64.max))=true
 rw [e1,e2,decide_eq_true (show (-9223372036854775808:Int)≤n by omega),decide_eq_true (show n≤(9223372036854775807:Int) by omega)]
 rfl
theorem told_is (s id q:Int) (n:Nat):toldS (ofS (msgP s id (numB n))) q false=msgQ (min s q) n:=rfl
def dO (q s:Int) (W Qn:Nat) (L:Led):List UInt8:=encD (pktS (msgQ (min s q) L.n) (tellId (ses q W Qn L) (msgQ (min s q) L.n))) [] []
theorem pub_in {X Y:SideV} {q:Int} {W Qn:Nat} {Sn:List Int} {L:Led} (h:Ok q W Qn Sn L) (s id:Int) (kn:List Int):PubIn (D2 X.cv.sp Y.cv.sp) (msgP s id (numB L.n)) [99] [100] q 0 Y X { newS (W:Int) Qn with known:=kn } (ses q W Qn L) (dO q s W Qn L):=by
 have hw:=h.win
 have h8:=h.w8
 refine ⟨rfl,fun ss h=>keys2 h,(by show (2:Nat)≤1000000;decide),(by decide),(by decide),rfl,rfl,(by show (1:Nat)≤65535;decide),?_,(by intro f hf;cases hf),?_,rfl,rfl,(by show (0:Int)≤(L.last:Int);omega),(by simp [ses];omega)⟩
 · intro f hf
   have:f=([35],q):=by simpa [ses] using hf
   subst this
   show (1:Nat)≤65535
   decide
 · show asksS [116] [([35],q)] 0 false=(q,true)
   rcases h.q3 with rfl | rfl | rfl<;>kernel_rfl
theorem tellO_is {x y:Nat} {q:Int} {W Qn:Nat} {Sn:List Int} {L:Led} (h:Ok q W Qn Sn L) (s:Int):tellO ((0:Nat):Int) (some (x,y)) (ses q W Qn L) (msgQ (min s q) L.n) (dO q s W Qn L)=outO (pubO q W s L):=by
 unfold tellO pubO dO tellId
 by_cases he:min s q=0
 · simp only [he,if_true]
   rfl
 · have he':¬ (msgQ (min s q) L.n).qos=0:=he
   rw [if_neg he',if_neg he',if_neg he]
   by_cases hu:L.U.length < W
   · rw [if_pos hu,if_pos (by simp [ses];omega)]
     have e:nextS (ses q W Qn L).last (ses q W Qn L).under=(L.last:Int)+1:=next_any L.last L.U (ids_le h) (last30 h)
     rw [e]
     rfl
   · rw [if_neg hu,if_neg (by simp [ses];omega)]
     rfl
theorem feedP0L {N0:Nat} {ash aw:Addr} {w:World} {lb B:Nat} {V:LineV} {BV:BrV} {px py:Pkt} {X Y:SideV} {G:Nat→Prop} {q:Int} {W Qn:Nat} {Sn:List Int} {L:Led} (hk:Ok q W Qn Sn L) (kn:List Int) (h:Hall2 N0 ash aw w lb B 1 0 V BV 2 (D2 X.cv.sp Y.cv.sp) py px Y X { newS (W:Int) Qn with known:=kn } (ses q W Qn L) G) (g c:Nat) (hd:∀ j x,(encD (msgP 0 0 (numB L.n)) [] [])[j]?=some x→w.cell? ⟨g,0+j,none⟩=some (.int .u8 (x.toNat:Int))) :
 Calls Tryz.prog 24 #[.pointer (some ⟨B,0,none⟩),.int .i64 ((1:Nat):Int),.slice (some ⟨g,0,none⟩) (encD (msgP 0 0 (numB L.n)) [] []).length c] w fun e w'=>∃ ov Lo,e=.returned (.tuple #[ov,.int .i64 0])∧FdW B 1 0 py px BV Y X { newS (W:Int) Qn with known:=kn } (ses q W Qn (add (preP q W Qn 0 L) (pubO q W 0 L))) (outO (pubO q W 0 L)) w w' ov Lo:=by
 have hg:Goes (msgP 0 0 (numB L.n)):=on.goes_msg0 L.n
 have hfd:=feed_pub0 (N0:=N0) (ash:=ash) (aw:=aw) B 1 0 2 (msgP 0 0 (numB L.n)) py px [99] [100] (encD (msgP 0 0 (numB L.n)) [] []) _ q 0 (D2 X.cv.sp Y.cv.sp) BV Y X { newS (W:Int) Qn with known:=kn } (ses q W Qn L) g c w h.room.gd h.room.blk h.sx h.sy h.room.map h.x0 h.y0 h.room.B0 h.ym h.dis (by omega) h.vx h.room.clk hg.pos hg.max hd hg.dec rfl rfl (pub_in hk 0 0 kn)
 rw [told_is,tell_is hk,h.sy.snd,tellO_is hk] at hfd
 exact hfd
theorem feedP1L {N0:Nat} {ash aw:Addr} {w:World} {lb B:Nat} {V:LineV} {BV:BrV} {px py:Pkt} {X Y:SideV} {G:Nat→Prop} {q:Int} {W Qn:Nat} {Sn:List Int} {L:Led} (hk:Ok q W Qn Sn L) (kn:List Int) (h:Hall2 N0 ash aw w lb B 1 0 V BV 2 (D2 X.cv.sp Y.cv.sp) py px Y X { newS (W:Int) Qn with known:=kn } (ses q W Qn L) G) (g c:Nat) (hd:∀ j x,(encD (msgP 1 ((L.n:Int)+1) (numB L.n)) [] [])[j]?=some x→w.cell? ⟨g,0+j,none⟩=some (.int .u8 (x.toNat:Int))) :
 Calls Tryz.prog 24 #[.pointer (some ⟨B,0,none⟩),.int .i64 ((1:Nat):Int),.slice (some ⟨g,0,none⟩) (encD (msgP 1 ((L.n:Int)+1) (numB L.n)) [] []).length c] w fun e w'=>∃ ov Lo,e=.returned (.tuple #[ov,.int .i64 0])∧FdW B 1 0 py px BV Y X { newS (W:Int) Qn with known:=kn } (ses q W Qn (add (preP q W Qn 1 L) (pubO q W 1 L))) (outO (pubO q W 1 L) ++ [⟨((1:Nat):Int),encD (packS ((L.n:Int)+1)) [] [],false⟩]) w w' ov Lo:=by
 have h30:=hk.n30
 have hg:Goes (msgP 1 ((L.n:Int)+1) (numB L.n)):=on.goes_msg false 1 (by omega) _ (by omega) (by omega) L.n
 have hfd:=feed_pub1 (N0:=N0) (ash:=ash) (aw:=aw) B 1 0 2 (msgP 1 ((L.n:Int)+1) (numB L.n)) py px [99] [100] (encD (msgP 1 ((L.n:Int)+1) (numB L.n)) [] []) _ _ q 0 (D2 X.cv.sp Y.cv.sp) BV Y X { newS (W:Int) Qn with known:=kn } (ses q W Qn L) g c w h.room.gd h.room.blk h.sx h.sy h.room.map h.x0 h.y0 h.room.B0 h.ym h.dis (by omega) h.vx h.room.clk hg.pos hg.max hd hg.dec rfl rfl rfl (pub_in hk 1 _ kn)
 rw [told_is,tell_is hk,h.sy.snd,tellO_is hk] at hfd
 exact hfd
theorem feedP2L {N0:Nat} {ash aw:Addr} {w:World} {lb B:Nat} {V:LineV} {BV:BrV} {px py:Pkt} {X Y:SideV} {G:Nat→Prop} {q:Int} {W Qn:Nat} {Sn:List Int} {L:Led} (hk:Ok q W Qn Sn L) (h:Hall2 N0 ash aw w lb B 1 0 V BV 2 (D2 X.cv.sp Y.cv.sp) py px Y X { newS (W:Int) Qn with known:=[] } (ses q W Qn L) G) (g c:Nat) (hd:∀ j x,(encD (msgP 2 ((L.n:Int)+1) (numB L.n)) [] [])[j]?=some x→w.cell? ⟨g,0+j,none⟩=some (.int .u8 (x.toNat:Int))) :
 Calls Tryz.prog 24 #[.pointer (some ⟨B,0,none⟩),.int .i64 ((1:Nat):Int),.slice (some ⟨g,0,none⟩) (encD (msgP 2 ((L.n:Int)+1) (numB L.n)) [] []).length c] w fun e w'=>∃ ov Lo,e=.returned (.tuple #[ov,.int .i64 0])∧FdW B 1 0 py px BV Y X { newS (W:Int) Qn with known:=[(L.n:Int)+1] } (ses q W Qn (add (preP q W Qn 2 L) (pubO q W 2 L))) (outO (pubO q W 2 L) ++ [⟨((1:Nat):Int),encD (recS ((L.n:Int)+1)) [] [],false⟩]) w w' ov Lo:=by
 have h30:=hk.n30
 have hg:Goes (msgP 2 ((L.n:Int)+1) (numB L.n)):=on.goes_msg false 2 (by omega) _ (by omega) (by omega) L.n
 have hfd:=feed_pub2 (N0:=N0) (ash:=ash) (aw:=aw) B 1 0 2 (msgP 2 ((L.n:Int)+1) (numB L.n)) py px [99] [100] (encD (msgP 2 ((L.n:Int)+1) (numB L.n)) [] []) _ _ q 0 (D2 X.cv.sp Y.cv.sp) BV Y X { newS (W:Int) Qn with known:=[] } (ses q W Qn L) g c w h.room.gd h.room.blk h.sx h.sy h.room.map h.x0 h.y0 h.room.B0 h.ym h.xm h.dis (by omega) h.vx h.room.clk hg.pos hg.max hd hg.dec rfl rfl (wf_is _ (by show (0:Int)≤(L.n:Int)+1;omega) (by show (L.n:Int)+1≤65535;omega)) rfl (by show (0:Nat) < 100000;decide) rfl (pub_in hk 2 _ [])
 rw [told_is,tell_is hk,h.sy.snd,tellO_is hk] at hfd
 exact hfd
theorem feedPKL {N0:Nat} {ash aw:Addr} {w:World} {lb B:Nat} {V:LineV} {BV:BrV} {D:DataW Unit} {px py:Pkt} {X Y:SideV} {SX:Ses} {G:Nat→Prop} {W Qn:Nat} (n:Nat) (h30:n≤30000) (h:Hall2 N0 ash aw w lb B 1 0 V BV 2 D py px Y X { newS (W:Int) Qn with known:=[(n:Int)+1] } SX G) (g c:Nat) (hd:∀ j x,(encD (msgP 2 ((n:Int)+1) (numB n)) [] [])[j]?=some x→w.cell? ⟨g,0+j,none⟩=some (.int .u8 (x.toNat:Int))) :
 Calls Tryz.prog 24 #[.pointer (some ⟨B,0,none⟩),.int .i64 ((1:Nat):Int),.slice (some ⟨g,0,none⟩) (encD (msgP 2 ((n:Int)+1) (numB n)) [] []).length c] w fun e w'=>∃ ov Lo,e=.returned (.tuple #[ov,.int .i64 0])∧FdW B 1 0 py px BV Y X { newS (W:Int) Qn with known:=[(n:Int)+1] } SX [⟨((1:Nat):Int),encD (recS ((n:Int)+1)) [] [],false⟩] w w' ov Lo:=by
 have hg:Goes (msgP 2 ((n:Int)+1) (numB n)):=on.goes_msg false 2 (by omega) _ (by omega) (by omega) n
 exact feed_pubk (N0:=N0) (ash:=ash) (aw:=aw) B 1 0 (msgP 2 ((n:Int)+1) (numB n)) py px (encD (msgP 2 ((n:Int)+1) (numB n)) [] []) _ BV Y X { newS (W:Int) Qn with known:=[(n:Int)+1] } SX g c w h.room.gd h.room.blk h.sx h.sy h.x0 h.y0 h.room.B0 h.dis (by omega) h.vx h.room.clk hg.pos hg.max hd hg.dec rfl rfl (wf_is _ (by show (0:Int)≤(n:Int)+1;omega) (by show (n:Int)+1≤65535;omega)) (by show List.contains [(n:Int)+1] ((n:Int)+1)=true;simp) rfl
theorem feedRL {N0:Nat} {ash aw:Addr} {w:World} {lb B:Nat} {V:LineV} {BV:BrV} {D:DataW Unit} {px py:Pkt} {X Y:SideV} {SX:Ses} {G:Nat→Prop} {W Qn:Nat} (n:Nat) (h30:n≤30000) (h:Hall2 N0 ash aw w lb B 1 0 V BV 2 D py px Y X { newS (W:Int) Qn with known:=[(n:Int)+1] } SX G) (g c:Nat) (hd:∀ j x,(encD (ackK 6 ((n:Int)+1)) [] [])[j]?=some x→w.cell? ⟨g,0+j,none⟩=some (.int .u8 (x.toNat:Int))) :
 Calls Tryz.prog 24 #[.pointer (some ⟨B,0,none⟩),.int .i64 ((1:Nat):Int),.slice (some ⟨g,0,none⟩) (encD (ackK 6 ((n:Int)+1)) [] []).length c] w fun e w'=>∃ ov Lo,e=.returned (.tuple #[ov,.int .i64 0])∧FdW B 1 0 py px BV Y X { newS (W:Int) Qn with known:=[] } SX [⟨((1:Nat):Int),encD (compS ((n:Int)+1)) [] [],false⟩] w w' ov Lo:=by
 have hg:Goes (ackK 6 ((n:Int)+1)):=on.goes_ack 6 (by omega) _ (by omega) (by omega)
 exact feed_rel (N0:=N0) (ash:=ash) (aw:=aw) B 1 0 (ackK 6 ((n:Int)+1)) py px (encD (ackK 6 ((n:Int)+1)) [] []) (encD (compS ((n:Int)+1)) [] []) BV Y X { newS (W:Int) Qn with known:=[(n:Int)+1] } SX g c w h.room.gd h.room.blk h.sx h.sy h.x0 h.y0 h.room.B0 h.dis (by omega) h.vx h.room.clk hg.pos hg.max hd hg.dec rfl (wf_is _ (by show (0:Int)≤(n:Int)+1;omega) (by show (n:Int)+1≤65535;omega)) rfl rfl
end on
end Go.Proofs.YtnmfmoimjkoieaaGreatDoor
