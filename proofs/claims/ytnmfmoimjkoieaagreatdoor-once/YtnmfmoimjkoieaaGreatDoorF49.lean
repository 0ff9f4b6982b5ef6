import Derived.Test.YtnmfmoimjkoieaaGreatDoorF40
import Derived.Deep.LoopGhost
import Derived.Deep.RegionHeld3
import Derived.Test.YtnmfmoimjkoieaaGreatDoorF46
import Derived.Test.YtnmfmoimjkoieaaGreatDoorF42
import Derived.Test.YtnmfmoimjkoieaaGreatDoorF34
import Derived.Test.YtnmfmoimjkoieaaGreatDoorF32
import Derived.Test.YtnmfmoimjkoieaaGreatDoorF35
namespace Go.Proofs.YtnmfmoimjkoieaaGreatDoor
namespace kp
open Go.RowKit topPlain topWalks decPlain br
open rd (ints)
structure Ord (most:Int) (T Sn:List Int):Prop where
 lt:∀ (i:Nat) n,T[i]?=some n→0≤n∧n < Sn.length
 up:∀ (i j:Nat) a b x y,i < j→T[i]?=some a→T[j]?=some b→Sn[a.toNat]?=some x→Sn[b.toNat]?=some y→min x most=min y most→a < b
 one:∀ (i j:Nat) a b,i < j→T[i]?=some a→T[j]?=some b→a≠b
theorem int_cell {w wr:World} {C g n kap:Nat} {l:List Int} (h:w.ownsRow C 3 1 (.slice (some ⟨g,0,none⟩) n kap) n (ints l)) (hn:0 < n) {k:Nat} {x:Int} (hx:l[k]?=some x) (hb:Below w.heap.size w wr):wr.cell? ⟨g,k,none⟩=some (.int .i64 x):=by
 have e:(ints l)[k]?=some (.int .i64 x):=by simp [ints,hx]
 obtain ⟨_,e1,hg,_,_,hc⟩:=own_at h hn
 cases e1
 rw [hb.cell (p:=⟨g,k,none⟩) hg]
 exact hc k _ e
def LastOf (most q:Int) (T Sn:List Int) (k:Nat) (x:Int):Prop:=x=-1∨∃ (j:Nat) (s:Int),j < k∧T[j]?=some x∧Sn[x.toNat]?=some s∧min s most=q
set_option maxHeartbeats 3200000 in
set_option maxRecDepth 100000 in
theorem ordered_any (b:Nat) (most:Int) (V:StgV) (T Sn:List Int) (O:List Pkt) (w:World) (h:StgAt w b V T O Sn) (hO:Ord most T Sn) (hT:T.length≤100000) (hS:Sn.length≤100000) :
 Calls Tryz.prog 30 #[.pointer (some ⟨b,0,none⟩),.int .i64 most] w fun e w'=>e=.returned (.bool true)∧Below w.heap.size w w':=by
 have HO:=hide hO
 have HT:=hide h
 have hbl:=blk_lt h.blk
 obtain ⟨q1,k1,hq1⟩:=own_form h.told
 obtain ⟨q4,k4,hq4⟩:=own_form h.sent
 have c1:w.cell? ⟨b,1,none⟩=some (.slice q1 T.length k1):=by rw [← hq1];exact blk_cell h.blk rfl
 have c4:w.cell? ⟨b,4,none⟩=some (.slice q4 Sn.length k4):=by rw [← hq4];exact blk_cell h.blk rfl
 have ht:=h.told
 have hs:=h.sent
 rw [hq1] at ht
 rw [hq4] at hs
 have HTR:=hide ht
 have HSR:=hide hs
 clear h hO hq1 hq4 ht hs
 go_enter Tryz.func30,Tryz.ntmps30
 go_wp2_with fail
 go_loopw [5] (fun q wx=>∃ k:Nat,k≤3∧q=.int .i64 k∧Below w.heap.size w wx) (fun q _=>3 - (intOf q).toNat)
 case atStart=>exact ⟨0,by omega,rfl,Below.refl _ _⟩
 case round =>
  obtain ⟨qk,hqk,rfl,hBq⟩:=hrel
  have HBQ:=hide hBq
  clear hBq
  by_cases hq3:qk < 3
  · go_wp2_with fail
    go_loopw [6,7] (fun lv i wx=>∃ (k:Nat) (x:Int),k≤T.length∧lv=.int .i64 x∧i=.int .i64 k∧Below w.heap.size w wx∧LastOf most (qk:Int) T Sn k x) (fun _ i _=>T.length - (intOf i).toNat)
    case atStart=>exact ⟨0,-1,Nat.zero_le _,rfl,rfl,HBQ.out,Or.inl rfl⟩
    case round =>
     obtain ⟨k,x,hk,rfl,rfl,hB,hL⟩:=hrel
     have HB:=hide hB
     have HL:=hide hL
     have d1:=(hB.cell (p:=⟨b,1,none⟩) hbl).trans c1
     have d4:=(hB.cell (p:=⟨b,4,none⟩) hbl).trans c4
     clear hB hL
     by_cases hlt:k < T.length
     · obtain ⟨n,hn⟩:∃ n,T[k]?=some n:=⟨_,List.getElem?_eq_getElem hlt⟩
       obtain ⟨hn0,hn1⟩:=HO.out.lt k n hn
       obtain ⟨m,rfl⟩:=Int.eq_ofNat_of_zero_le hn0
       have hm:m < Sn.length:=by omega
       obtain ⟨s,hs⟩:∃ s,Sn[m]?=some s:=⟨_,List.getElem?_eq_getElem hm⟩
       obtain ⟨g1,rfl,_⟩:=own_at HTR.out (by omega)
       obtain ⟨g4,rfl,_⟩:=own_at HSR.out (by omega)
       have t1:=int_cell HTR.out (by omega) hn HB.out
       have t4:=int_cell HSR.out (by omega) hs HB.out
       have hge:¬ (m:Int)≥(Sn.length:Int):=by omega
       have hnx:min s most=(qk:Int)→¬ (m:Int)≤x:=fun e=>by
        rcases HL.out with rfl | ⟨j,s',h1,h2,h3,h4⟩
        · omega
        · have:=HO.out.up j k x m s' s h1 h2 hn h3 (by simpa using hs) (h4.trans e.symm)
          omega
       have hnw:min s most=(qk:Int)→LastOf most (qk:Int) T Sn (k+1) (m:Int):=fun e=>Or.inr ⟨k,s,by omega,hn,by simpa using hs,e⟩
       have hold:LastOf most (qk:Int) T Sn (k+1) x:=by
        rcases HL.out with e | ⟨j,s',h1,h2,h3,h4⟩
        · exact Or.inl e
        · exact Or.inr ⟨j,s',by omega,h2,h3,h4⟩
       have HNX:=hide hnx
       have HNW:=hide hnw
       have HOLD:=hide hold
       clear hnx hnw hold hn0 hn1 hs hn
       by_cases hsm:s > most
       · have emin:min s most=most:=by omega
         rw [emin] at HNX HNW
         by_cases hq:most=(qk:Int)
         · have h9:=HNX.out hq
           have h8:=HNW.out hq
           have HW:=hide h8
           clear h8
           go_wp2_with fail
           exact ⟨⟨k+1,_,by omega,rfl,by go_num,HB.out,HW.out⟩,by simp [intOf];omega⟩
         · go_wp2_with fail
           exact ⟨⟨k+1,_,by omega,rfl,by go_num,HB.out,HOLD.out⟩,by simp [intOf];omega⟩
       · have emin:min s most=s:=by omega
         rw [emin] at HNX HNW
         by_cases hq:s=(qk:Int)
         · have h9:=HNX.out hq
           have h8:=HNW.out hq
           have HW:=hide h8
           clear h8
           go_wp2_with fail
           exact ⟨⟨k+1,_,by omega,rfl,by go_num,HB.out,HW.out⟩,by simp [intOf];omega⟩
         · go_wp2_with fail
           exact ⟨⟨k+1,_,by omega,rfl,by go_num,HB.out,HOLD.out⟩,by simp [intOf];omega⟩
     · go_wp2_with fail
       exact ⟨⟨qk+1,by omega,by go_num,HB.out⟩,by simp [intOf];omega⟩
  · go_wp2_with fail
    go_loopw [10] (fun i wx=>∃ k:Nat,k≤T.length∧i=.int .i64 k∧Below w.heap.size w wx) (fun i _=>T.length - (intOf i).toNat)
    case atStart=>exact ⟨0,Nat.zero_le _,rfl,HBQ.out⟩
    case round =>
     obtain ⟨k,hk,rfl,hB⟩:=hrel
     have HB:=hide hB
     have d1:=(hB.cell (p:=⟨b,1,none⟩) hbl).trans c1
     clear hB
     by_cases hlt:k < T.length
     · obtain ⟨n,hn⟩:∃ n,T[k]?=some n:=⟨_,List.getElem?_eq_getElem hlt⟩
       have HN:=hide hn
       clear hn
       go_wp2_with fail
       go_loopw [11] (fun i wx=>∃ j:Nat,j≤k∧i=.int .i64 j∧Below w.heap.size w wx) (fun i _=>k - (intOf i).toNat)
       case atStart=>exact ⟨0,Nat.zero_le _,rfl,HB.out⟩
       case round =>
        obtain ⟨j,hj,rfl,hB2⟩:=hrel
        have HB2:=hide hB2
        have d2:=(hB2.cell (p:=⟨b,1,none⟩) hbl).trans c1
        clear hB2
        by_cases hjl:j < k
        · obtain ⟨g1,rfl,_⟩:=own_at HTR.out (by omega)
          obtain ⟨a,ha⟩:∃ a,T[j]?=some a:=⟨_,List.getElem?_eq_getElem (by omega)⟩
          have t1:=int_cell HTR.out (by omega) HN.out HB2.out
          have t2:=int_cell HTR.out (by omega) ha HB2.out
          have hjT:j < T.length:=by omega
          have hne:=HO.out.one j k a n hjl ha HN.out
          clear ha
          go_wp2_with fail
          go_region_held3 (fun w'=>w'.cell? ⟨b,1,none⟩=some (.slice (some ⟨g1,0,none⟩) T.length k1)∧w'.cell? ⟨g1,k,none⟩=some (.int .i64 n)∧w'.cell? ⟨g1,j,none⟩=some (.int .i64 a))
           (go_keep)
           (fail)
          all_goals
           go_wp2_with fail
           exact ⟨⟨j+1,by omega,by go_num,HB2.out.drew⟩,by simp [intOf];omega⟩
        · go_wp2_with fail
          exact ⟨⟨k+1,by omega,by go_num,HB2.out⟩,by simp [intOf];omega⟩
     · go_wp2_with fail
       go_ret
       exact ⟨rfl,HB.out⟩
def MovesAt (w:World) (p:Option Addr) (Ms:List (Int×Int×Int)):Prop:=∀ (i:Nat) m,Ms[i]?=some m→∃ g off,p=some ⟨g,off,none⟩∧g < w.heap.size∧w.cell? ⟨g,off+i*3,none⟩=some (.int .i64 m.1)∧w.cell? ⟨g,off+i*3+1,none⟩=some (.int .i64 m.2.1)∧w.cell? ⟨g,off+i*3+2,none⟩=some (.int .i64 m.2.2)
set_option maxHeartbeats 3200000 in
set_option maxRecDepth 100000 in
theorem once_any (win que qos:Int) (p:Option Addr) (cp:Nat) (Ms:List (Int×Int×Int)) (w:World) (A C B:Nat→Nat→World→Prop) (R:World→Prop) (h1:-9223372036854775808≤qos) (h2:qos≤9223372036854775807) (hMs:MovesAt w p Ms) (hMl:Ms.length≤9223372036854775807)
 (hBe:Calls Tryz.prog 25 #[.int .i64 win,.int .i64 que,.int .i64 qos] w fun e w''=>∃ b,e=.returned (.pointer (some ⟨b,0,none⟩))∧A b 0 w'')
 (sA:∀ b k w' w'',A b k w'→Below w'.heap.size w' w''→A b k w'')
 (bA:∀ b k w',A b k w'→Below w.heap.size w w')
 (hSt:∀ b k w' m,k < 30000→Ms[k]?=some m→A b k w'→Calls Tryz.prog 26 #[.pointer (some ⟨b,0,none⟩),.agg #[.int .i64 m.1,.int .i64 m.2.1,.int .i64 m.2.2]] w' fun e w''=>e=.returned (.bool true)∧C b (k+1) w'')
 (hBd:∀ b k w',C b k w'→Calls Tryz.prog 27 #[.pointer (some ⟨b,0,none⟩)] w' fun e w''=>e=.returned (.bool true)∧A b k w'')
 (hAB:∀ b k w',A b k w'→∃ n,n < 100∧B b n w')
 (hOp:∀ b n w',B b n w'→∃ q l c,w'.cell? ⟨b,3,none⟩=some (.slice q l c)∧(0 < n→0 < l)∧(n=0→l=0))
 (hAck:∀ b n w',B b (n+1) w'→Calls Tryz.prog 28 #[.pointer (some ⟨b,0,none⟩),.int .i64 0] w' fun e w''=>e=.returned (.bool true)∧B b n w'')
 (hEnd:∀ b w',B b 0 w'→∃ lb bb,w'.cell? ⟨b,0,none⟩=some (.pointer (some ⟨lb,0,none⟩))∧w'.cell? ⟨lb,0,none⟩=some (.pointer (some ⟨bb,0,none⟩))∧Calls Tryz.prog 29 #[.pointer (some ⟨bb,0,none⟩),.string ⟨#[99]⟩] w' fun e w''=>(∃ fl:Nat,e=.returned (.agg #[.bool true,.bool true,.int .i64 (fl:Int),.int .i64 0,.int .i64 0]))∧∀ w3,Below w''.heap.size w'' w3→Calls Tryz.prog 30 #[.pointer (some ⟨b,0,none⟩),.int .i64 (pickN qos 3:Int)] w3 fun e w4=>e=.returned (.bool true)∧R w4) :
 Calls Tryz.prog 8 #[.int .i64 win,.int .i64 que,.int .i64 qos,.slice p Ms.length cp] w fun e w'=>e=.returned (.bool true)∧R w':=by
 have cPq:=hide fun w'=>pick_is qos 3 w' (by omega) h1 h2 (by omega)
 have HMs:=hide hMs
 have HBe:=hide hBe
 have HsA:=hide sA
 have HbA:=hide bA
 have HSt:=hide hSt
 have HBd:=hide hBd
 have HAB:=hide hAB
 have HOp:=hide hOp
 have HAck:=hide hAck
 have HEnd:=hide hEnd
 generalize pickN qos 3=pq at *
 clear hMs hBe sA bA hSt hBd hAB hOp hAck hEnd
 go_enter Tryz.func8,Tryz.ntmps8
 go_wp2_with fail
 refine HBe.out.mono ?_
 rintro e w1 ⟨b,rfl,hA1⟩
 have HA1:=hide hA1
 clear hA1
 go_wp2_with fail
 go_loopw [10] (fun i wx=>∃ k:Nat,k≤Ms.length∧k≤30000∧i=.int .i64 k∧A b k wx) (fun i _=>Ms.length - (intOf i).toNat)
 case atStart=>exact ⟨0,Nat.zero_le _,Nat.zero_le _,rfl,HA1.out⟩
 case round =>
  obtain ⟨k,hk,hk3,rfl,hA⟩:=hrel
  have HK3:=hide hk3
  clear hk3
  have HA:=hide hA
  clear hA
  by_cases hkn:k < Ms.length∧k < 30000
  · obtain ⟨ka,kb⟩:=hkn
    have f1:decide ((k:Int) < (Ms.length:Int))=true:=decide_eq_true (by omega)
    have f2:decide ((k:Int) < 30000)=true:=decide_eq_true (by omega)
    have HKB:=hide kb
    obtain ⟨m,hm⟩:∃ m,Ms[k]?=some m:=⟨_,List.getElem?_eq_getElem ka⟩
    obtain ⟨g,off,rfl,hg,m0,m1,m2⟩:=HMs.out k m hm
    have hB:=HbA.out b k _ HA.out
    have d0:=(hB.cell (p:=⟨g,off+k*3,none⟩) hg).trans m0
    have d1:=(hB.cell (p:=⟨g,off+k*3+1,none⟩) hg).trans m1
    have d2:=(hB.cell (p:=⟨g,off+k*3+2,none⟩) hg).trans m2
    have HM:=hide hm
    clear hB m0 m1 m2 hm kb
    go_wp2_with fail
    refine (HSt.out b k _ m HKB.out HM.out HA.out).mono ?_
    rintro e w4 ⟨rfl,hC⟩
    have HC:=hide hC
    clear hC
    go_wp2_with fail
    refine (HBd.out b _ _ HC.out).mono ?_
    rintro e w5 ⟨rfl,hA5⟩
    have HA5:=hide hA5
    have hkk:Hid (k+1≤30000):=HKB.out
    clear hA5
    go_wp2_with fail
    exact ⟨⟨k+1,by omega,hkk.out,by go_num,HA5.out⟩,by simp [intOf];omega⟩
  · obtain ⟨n,hn,hB0⟩:=HAB.out b k _ HA.out
    have HB0:=hide hB0
    clear hB0
    have HKN:=hide hkn
    clear hkn
    rcases Nat.lt_or_ge k Ms.length with hkl | hkl
    all_goals
     first
      | (have f1:decide ((k:Int) < (Ms.length:Int))=true:=decide_eq_true (by omega)
         have f2:decide ((k:Int) < 30000)=false:=decide_eq_false (by have:=HK3.out;have:=HKN.out;omega))
      | have f1:decide ((k:Int) < (Ms.length:Int))=false:=decide_eq_false (by omega)
     go_wp2_with fail
     try clear f2
     clear f1 hkl HKN HK3
     go_loopw [12] (fun i wx=>∃ j t:Nat,j+t < 100∧i=.int .i64 j∧B b t wx) (fun i _=>200 - (intOf i).toNat)
     case atStart=>exact ⟨0,n,by omega,rfl,HB0.out⟩
     case round =>
      obtain ⟨j,t,hjt,rfl,hB⟩:=hrel
      obtain ⟨q3,l3,k3,c3,hl1,hl2⟩:=HOp.out b t _ hB
      have HB:=hide hB
      clear hB
      by_cases ht:t=0
      · subst ht
        have hl:=hl2 rfl
        subst hl
        clear hl1 hl2
        obtain ⟨lb,bb,c0,l0,hC⟩:=HEnd.out b _ HB.out
        have HC:=hide hC
        have hj:decide ((j:Int) < 100)=true:=decide_eq_true (by omega)
        clear hC
        go_wp2_with fail
        refine HC.out.mono ?_
        rintro e w6 ⟨⟨fl,rfl⟩,hO⟩
        have HO:=hide hO
        clear hO c0 l0 c3
        go_wp2_with fail
        have hB7:=(Below.refl w6.heap.size w6).alloc (Nat.le_refl _) (.cells #[.bool true,.bool true,.int .i64 (fl:Int),.int .i64 0,.int .i64 0] 80)
        generalize w6.alloc (.cells #[.bool true,.bool true,.int .i64 (fl:Int),.int .i64 0,.int .i64 0] 80)=W7 at *
        refine (cPq.out _).mono ?_
        rintro e w8 ⟨rfl,hB8⟩
        have hB68:=hB7.trans (hB8.mono hB7.size)
        have cO:=hide (HO.out _ hB68)
        clear hB7 hB8 hB68
        go_wp2_with fail
        refine cO.out.mono ?_
        rintro e w9 ⟨rfl,hR⟩
        go_wp2_with fail
        go_ret
        exact ⟨rfl,hR⟩
      · obtain ⟨t',rfl⟩:∃ t',t=t'+1:=⟨t - 1,by omega⟩
        have hl:=hl1 (by omega)
        clear hl1 hl2
        have hg:decide ((l3:Int) > 0)=true:=by simp;omega
        have hj:decide ((j:Int) < 100)=true:=decide_eq_true (by omega)
        go_wp2_with fail
        refine (HAck.out b t' _ HB.out).mono ?_
        rintro e w6 ⟨rfl,hB6⟩
        have HB6:=hide hB6
        clear hB6
        go_wp2
        exact ⟨⟨j+1,t',by omega,by go_num,HB6.out⟩,by simp [intOf];omega⟩
set_option maxHeartbeats 800000 in
set_option maxRecDepth 100000 in
theorem sees_nil (b:Nat) (q:Option Addr) (c:Nat) (w:World):Calls Tryz.prog 63 #[.pointer (some ⟨b,1,none⟩),.slice q 0 c,.bool true] w fun e w'=>e=.returned (.bool true)∧Below w.heap.size w w':=by
 go_enter Tryz.func63,Tryz.ntmps63
 go_wp2_with fail
 go_loopw [7] (fun i wx=>i=.int .i64 0∧wx=w) (fun _ _=>0)
 case atStart=>exact ⟨rfl,rfl⟩
 case round =>
  obtain ⟨rfl,rfl⟩:=hrel
  go_wp2
  go_ret
  exact ⟨rfl,Below.refl _ _⟩
structure Back (b g:Nat) (V:StgV) (T Sn:List Int) (O Ds:List Pkt) (w:World):Prop where
 stg:StgAt w b V T O Sn
 again:V.again=0
 row:RowAt w g 15 Ds
 ne:g≠b
 len:Ds.length=O.length
 lt:O.length≤1000
 ids:∀ (k:Nat) p o,Ds[k]?=some p→O[k]?=some o→p.id=o.id
 dup:∀ (k:Nat) p,Ds[k]?=some p→DupOf O p
set_option maxHeartbeats 3200000 in
set_option maxRecDepth 100000 in
theorem comes_any (b lb B:Nat) (V:StgV) (T Sn:List Int) (O:List Pkt) (w:World) (Q1:Value→World→Prop) (Q2:World→Prop) (Q3:Nat→World→Prop) (R:World→Prop) (h:StgAt w b V T O Sn) (hlb:V.lb=lb) (hB:w.cell? ⟨lb,0,none⟩=some (.pointer (some ⟨B,0,none⟩)))
 (hC:Calls Tryz.prog 52 #[.pointer (some ⟨B,0,none⟩),.int .i64 0] w fun e w1=>∃ q n c,e=.returned (.tuple #[.slice q n c,.int .i64 0])∧Q1 (.slice q n c) w1∧w1.cell? ⟨b,0,none⟩=some (.pointer (some ⟨lb,0,none⟩)))
 (hT:∀ ov w1,Q1 ov w1→Calls Tryz.prog 65 #[.pointer (some ⟨lb,0,none⟩),ov,.int .i64 0] w1 fun e w2=>e=.returned (.tuple #[])∧Q2 w2∧StgAt w2 b V T O Sn)
 (hJ:∀ w2,Q2 w2→StgAt w2 b V T O Sn→Calls Tryz.prog 48 #[.pointer (some ⟨lb,0,none⟩),.int .i64 0,.string ⟨#[99]⟩,.bool false] (w2.setCell ⟨b,2,none⟩ (.int .i64 0)) fun e w3=>∃ g q c Ds,e=.returned (.tuple #[.slice q O.length c,.bool true])∧(0 < O.length→q=some ⟨g,15,none⟩)∧Q3 g w3∧Back b g { V with again:=0 } T Sn O Ds w3)
 (hR:∀ g w3 w4,Q3 g w3→But (fun g=>g=b) w3 w4→StgAt w4 b { V with again:=(O.length:Int) } T O Sn→R w4) :
 Calls Tryz.prog 64 #[.pointer (some ⟨b,0,none⟩)] w fun e w'=>e=.returned (.bool true)∧R w':=by
 subst hlb
 have c0:w.cell? ⟨b,0,none⟩=some (.pointer (some ⟨V.lb,0,none⟩)):=blk_cell h.blk rfl
 have HC:=hide hC
 have HT:=hide hT
 have HJ:=hide hJ
 have HR:=hide hR
 clear h hC hT hJ hR
 go_enter Tryz.func64,Tryz.ntmps64
 go_wp2_with fail
 refine HC.out.mono ?_
 rintro e w1 ⟨q1,n1,k1,rfl,hq1,c1⟩
 have HQ1:=hide hq1
 clear hq1 c0 hB
 go_wp2_with fail
 refine (HT.out _ _ HQ1.out).mono ?_
 rintro e w2 ⟨rfl,hq2,hS2⟩
 have HQ2:=hide hq2
 obtain ⟨q3,k3,hq3⟩:=own_form hS2.opn
 have c3:w2.cell? ⟨b,3,none⟩=some (.slice q3 O.length k3):=by rw [← hq3];exact blk_cell hS2.blk rfl
 have c2:w2.cell? ⟨b,2,none⟩=some (.int .i64 V.again):=blk_cell hS2.blk rfl
 have f2:w2.frozen? ⟨b,2,none⟩=false:=blk_frozen hS2.blk
 have c02:(w2.setCell ⟨b,2,none⟩ (.int .i64 0)).cell? ⟨b,0,none⟩=some (.pointer (some ⟨V.lb,0,none⟩)):=blk_cell (hS2.setAgain 0).blk rfl
 have HS2:=hide hS2
 clear hq2 hS2 c1
 go_wp2_with fail
 refine (HJ.out _ HQ2.out HS2.out).mono ?_
 rintro e w4 ⟨g,q4,k4,Ds,rfl,hq4,hQ3,hBk⟩
 have HQ3:=hide hQ3
 have HBk:=hide hBk
 have HQ4:=hide hq4
 clear hQ3 hBk hq4 c02 c3 c2 f2
 by_cases h0:O.length=0
 · have hO:=hide h0
   rw [h0] at HQ4 ⊢
   go_wp2_with fail
   go_loopw [8] (fun i wx=>i=.int .i64 0∧wx=w4) (fun _ _=>0)
   case atStart=>exact ⟨rfl,rfl⟩
   case round =>
    obtain ⟨rfl,rfl⟩:=hrel
    go_wp2_with fail
    refine (sees_nil b q4 k4 _).mono ?_
    rintro e w5 ⟨rfl,hB5⟩
    have hS5:=HBk.out.stg.below hB5
    have a5:w5.cell? ⟨b,2,none⟩=some (.int .i64 0):=blk_cell hS5.blk rfl
    have HB5:=hide hB5
    have HS5:=hide hS5
    clear hB5 hS5
    go_wp2_with fail
    go_ret
    have e5:StgAt w5 b { V with again:=(O.length:Int) } T O Sn:=by rw [hO.out];exact HS5.out
    exact ⟨rfl,HR.out g wr w5 HQ3.out (But.of_below HB5.out) e5⟩
 · have hq4:=HQ4.out (by omega)
   subst hq4
   go_wp2_with fail
   go_loopw [8] (fun i wx=>∃ k:Nat,k≤O.length∧i=.int .i64 k∧Below w4.heap.size w4 wx) (fun i _=>O.length - (intOf i).toNat)
   case atStart=>exact ⟨0,Nat.zero_le _,rfl,Below.refl _ _⟩
   case round =>
    obtain ⟨k,hk,rfl,hBr⟩:=hrel
    have hle:=HBk.out.lt
    by_cases hlt:k < O.length
    · obtain ⟨o,ho⟩:∃ o,O[k]?=some o:=⟨_,List.getElem?_eq_getElem hlt⟩
      obtain ⟨p,hp⟩:∃ p,Ds[k]?=some p:=⟨_,List.getElem?_eq_getElem (by have:=HBk.out.len;omega)⟩
      have hid:=HBk.out.ids k p o hp ho
      have hd:=HBk.out.dup k p hp
      have hc:∀ (j:Nat) u,(pkK p)[j]?=some u→wr.cell? ⟨g,15+k*15+j,none⟩=some u:=fun j u hu=>by
       have e:=HBk.out.row k p j u hp hu
       rw [hBr.cell (cell_blt e)]
       exact e
      have p0:wr.cell? ⟨g,15+k*15,none⟩=some (.int .i64 3):=by rw [← hd.kind];exact hc 0 _ rfl
      have p7:wr.cell? ⟨g,15+k*15+7,none⟩=some (.bool true):=by rw [← hd.dup];exact hc 7 _ rfl
      have p12:wr.cell? ⟨g,15+k*15+12,none⟩=some (.int .i64 o.id):=by rw [← hid];exact hc 12 _ rfl
      have hSr:=HBk.out.stg.below hBr
      obtain ⟨q3',k3',hq3'⟩:=own_form hSr.opn
      have hop:=hSr.opn
      rw [hq3'] at hop
      obtain ⟨g3,rfl,hg3,hkc,hcm,_⟩:=own_at hop (by omega)
      have o12:wr.cell? ⟨g3,k*15+12,none⟩=some (.int .i64 o.id):=pk_cell (wr:=wr) hop ho rfl rfl 12 (by omega) (by rfl)
      have t3:wr.cell? ⟨b,3,none⟩=some (.slice (some ⟨g3,0,none⟩) O.length k3'):=by
       have e:wr.cell? ⟨b,3,none⟩=some V.pv:=blk_cell hSr.blk rfl
       rw [e]
       exact congrArg some hq3'
      have HBR:=hide hBr
      clear hop hq3' hSr hc hd hid hp ho hBr hcm hkc
      go_wp2_with fail
      go_region_held3 (fun w'=>w'.cell? ⟨g,15+k*15,none⟩=some (.int .i64 3)∧w'.cell? ⟨g,15+k*15+7,none⟩=some (.bool true)∧w'.cell? ⟨g,15+k*15+12,none⟩=some (.int .i64 o.id)∧w'.cell? ⟨g3,k*15+12,none⟩=some (.int .i64 o.id)∧w'.cell? ⟨b,3,none⟩=some (.slice (some ⟨g3,0,none⟩) O.length k3'))
       (go_keep)
       (fail)
      all_goals
       go_wp2_with fail
       exact ⟨⟨k+1,by omega,by go_num,HBR.out.drew⟩,by simp [intOf];omega⟩
    · have e:k=O.length:=by omega
      subst e
      have hSr:=HBk.out.stg.below hBr
      have hRw:RowAt wr g 15 Ds:=fun j p i u hp hu=>by
       have e:=HBk.out.row j p i u hp hu
       rw [hBr.cell (cell_blt e)]
       exact e
      have cS:=hide (sees_dups b g 15 k4 { V with again:=0 } T O Sn Ds wr hSr hRw HBk.out.ne HBk.out.dup (by rw [HBk.out.len];exact HBk.out.lt) rfl)
      rw [HBk.out.len] at cS
      have HBR:=hide hBr
      clear hSr hRw hBr
      go_wp2_with fail
      refine cS.out.mono ?_
      rintro e w5 ⟨rfl,hS5,hb5⟩
      have a5:w5.cell? ⟨b,2,none⟩=some (.int .i64 (O.length:Int)):=blk_cell hS5.blk rfl
      have HS5:=hide hS5
      have HB5:=hide hb5
      clear hS5 hb5 cS
      go_wp2_with fail
      go_ret
      exact ⟨rfl,HR.out g w4 w5 HQ3.out ((But.of_below HBR.out).trans HB5.out (fun _ _ f=>f)) HS5.out⟩
end kp
namespace br
open Go.RowKit topPlain topWalks decPlain rd ew encPlain rf kp
theorem own_uniq {w:World} {C C':Nat} {e:TypeId} {sz:Nat} {v:Value} {n:Nat} {xs ys:List Value} (h:w.ownsRow C e sz v n xs) (h':w.ownsRow C' e sz v n ys):xs=ys:=by
 obtain ⟨l1,h1⟩:=h
 obtain ⟨l2,h2⟩:=h'
 rcases h1 with ⟨e1,e2⟩ | ⟨g,cap,cur,e1,_,e3,_,_,_,e7⟩
 · subst e2
   rw [Nat.zero_mul] at l1 l2
   rw [List.eq_nil_of_length_eq_zero l1,List.eq_nil_of_length_eq_zero l2]
 · rcases h2 with ⟨f1,f2⟩ | ⟨g',cap',cur',f1,_,f3,_,_,_,f7⟩
   · subst f2
     rw [Nat.zero_mul] at l1 l2
     rw [List.eq_nil_of_length_eq_zero l1,List.eq_nil_of_length_eq_zero l2]
   · rw [e1] at f1
     cases f1
     rw [e3] at f3
     cases f3
     exact e7.symm.trans f7
theorem own_ge {w:World} {C:Nat} {e:TypeId} {sz:Nat} {v:Value} {n:Nat} {xs:List Value} (h:w.ownsRow C e sz v n xs) {b:Nat} (hb:v.ownBlock=some b):C≤b:=by
 obtain ⟨_,h⟩:=h
 rcases h with ⟨rfl,_⟩ | ⟨g,cap,cur,rfl,hC,_⟩
 · cases hb
 · cases hb;exact hC
def ReadAs (r:Pkt) (p:Pkt):Prop:=∃ fv cv,p = { r with fv:=fv,cv:=cv }∧Shaped p
structure TookR (lb:Nat) (V:LineV) (R:Nat→Pkt) (w:World) (i:Nat) (w':World) (v0:Value) (Ps:List Pkt):Prop where
 line:LineAt w' lb (({ V with bad:=false }).setGot 0 v0)
 row:w'.ownsRow w.heap.size 36 15 v0 i (Ps.flatMap pkL)
 len:Ps.length=i
 all:∀ (j:Nat) p,Ps[j]?=some p→ReadAs (R j) p
 but:But (fun g=>g=lb) w w'
theorem lineC_inj {V V':LineV} (h:lineC V=lineC V'):V.got 0=V'.got 0:=by
 have:=congrArg (fun a=>a[1]?) h
 simpa [lineC] using this
theorem take_row {N0:Nat} {ash aw:Addr} (lb:Nat) (ov:Value) (L:List (OutS×Value)) (V:LineV) (R:Nat→Pkt) (w:World) (hG:Gd N0 ash aw w) (hlb:N0≤lb) (hO:OutsAt w ov L) (h:LineAt w lb V) (hbad:V.bad=false) (hoff:V.off 0=false) (hgot:V.got 0=.slice none 0 0) (hLl:L.length≤1000)
 (hL:∀ (j:Nat) o,L[j]?=some o→o.1.closed=false∧decL o.1.data=.inr ((R j,[],[]),o.1.data.length)∧0 < o.1.data.length∧o.1.data.length≤1000000∧o.1.conn=0) :
 Calls Tryz.prog 65 #[.pointer (some ⟨lb,0,none⟩),ov,.int .i64 0] w fun e w'=>e=.returned (.tuple #[])∧∃ v0 Ps,TookR lb V R w L.length w' v0 Ps:=by
 have hblk:w.heap[lb]?=some (.cells (lineC V) 60):=h
 have hlt:lb < w.heap.size:=blk_lt hblk
 have hn1:∀ b,ov.ownBlock=some b→b≠lb:=fun b hb e=>by
  subst e;obtain ⟨cur,hc⟩:=own_blk hO.row hb;rw [hblk] at hc;simp at hc
 have hn2:∀ o b,o∈L→o.2.ownBlock=some b→b≠lb:=fun o b ho hb e=>by
  subst e;obtain ⟨cur,hc⟩:=own_blk (hO.dat o ho) hb;rw [hblk] at hc;simp at hc
 refine takes_zero w.heap.size lb ov L V w (fun i w'=>∃ v0 Ps,TookR lb V R w i w' v0 Ps) (fun i P w''=>ReadAs (R i) P) (by omega) hO h hbad ⟨.slice none 0 0,[],?_,⟨rfl,Or.inl ⟨rfl,rfl⟩⟩,rfl,fun j p hp=>by simp at hp,But.set (F:=fun g=>g=lb) _ _ _ rfl⟩ ?_ ?_ ?_
 · show (w.setCell ⟨lb,17,none⟩ (.bool false)).heap[lb]?=_
   rw [blk_set _ hblk]
   have:({ V with bad:=false }:LineV).setGot 0 (.slice none 0 0) = { V with bad:=false }:=by
    unfold LineV.setGot
    congr 1
    funext j
    by_cases hj:j=0
    · subst hj;rw [if_pos rfl];exact hgot.symm
    · rw [if_neg hj]
   rw [this]
   exact congrArg some (congrArg (fun c=>Obj.cells c 60) (lineC_bad V false))
 · rintro i w' o ⟨v0,Ps,hT⟩ ho
   obtain ⟨_,h2,h3,h4,_⟩:=hL i o ho
   have hGw:Gd N0 ash aw w'.drew:=(hG.below (hT.but.below (fun b e=>by subst e;exact hlb) hG.env.size)).below (below_drew _ _)
   have hmem:o∈L:=List.mem_of_getElem? ho
   have hdat:w'.drew.ownsRow 0 5 1 o.2 o.1.data.length (u8s o.1.data):=own_keep (own_but (hO.dat o hmem) hT.but (fun b hb=>hn2 o b hmem hb)) (fun _ _=>rfl)
   obtain ⟨q,kap,hq⟩:=own_form hdat
   rw [hq] at hdat
   obtain ⟨g,rfl,_⟩:=own_at hdat h3
   rw [hq]
   refine (cDecode_any ash aw w'.drew o.1.data _ (by omega) (Or.inr (bytesV_own hdat)) hGw.errs hGw.env').mono ?_
   rintro e w'' ⟨hB,hR⟩
   rw [h2] at hR
   obtain ⟨fv,cv,rfl,hf,hc⟩:=hR
   have hB':Below w'.heap.size w' w'':=⟨hB.os,hB.tape,hB.output,hB.size,hB.block⟩
   obtain ⟨a1,a2,rfl⟩:=own_form hf
   obtain ⟨c1,c2,rfl⟩:=own_form hc
   exact ⟨_,a1,_,a2,c1,_,c2,rfl,rfl,rfl,hB',_,_,rfl,⟨_,_,_,rfl⟩,_,_,_,rfl⟩
 · rintro i o P w' w1 w8 v0 v' xs ho ⟨v0',Ps,hT⟩ hB hD ⟨V',hz⟩ hbut hrow hv
   have hl1:w'.heap[lb]?=some (.cells (lineC V') 60):=hz.line
   have hl2:w'.heap[lb]?=some (.cells (lineC (({ V with bad:=false }).setGot 0 v0')) 60):=hT.line
   have e0:v0=v0':=by
    rw [hl1] at hl2
    have:=lineC_inj (by simpa using hl2)
    rw [hz.got] at this
    exact this
   subst e0
   have ex:xs=Ps.flatMap pkL:=own_uniq hz.row hT.row
   subst ex
   have hsz:=hT.but.size
   have hB1:But (fun g=>g=lb) w w1:=hT.but.trans (But.of_below (F:=fun _=>False) hB) (fun _ _ f=>f.elim)
   have hB8:But (fun g=>g=lb) w w8:=hB1.trans hbut (fun g hg e=>by
    exfalso
    have:=own_ge hT.row e
    omega)
   have hl8:w8.heap[lb]?=some (.cells (lineC (({ V with bad:=false }).setGot 0 v0)) 60):=hbut.blk (fun e=>by have:=own_ge hT.row e;omega) ((hB.block _ (blk_lt hl2)).trans hl2)
   have hset:But (fun g=>g=lb) w8 (w8.setCell ⟨lb,1,none⟩ v'):=But.set (F:=fun g=>g=lb) _ _ _ rfl
   refine ⟨v',Ps ++ [P],?_,?_,by rw [List.length_append,hT.len];rfl,fun j p hp=>?_,hB8.trans hset (fun _ _ f=>f)⟩
   · show (w8.setCell ⟨lb,1+0,none⟩ v').heap[lb]?=_
     rw [blk_set _ hl8,lineC_setGot _ (by omega)]
     have:((({ V with bad:=false }:LineV).setGot 0 v0).setGot 0 v')=(({ V with bad:=false }:LineV).setGot 0 v'):=by
      unfold LineV.setGot
      congr 1
      funext j
      by_cases hj:j=0
      · subst hj;rw [if_pos rfl,if_pos rfl]
      · rw [if_neg hj,if_neg hj]
        exact if_neg hj
     rw [this]
   · have e:(Ps ++ [P]).flatMap pkL=Ps.flatMap pkL ++ (pkK P).toList:=by simp [pkL]
     rw [e]
     exact own_past hrow hlt hset
   · rcases Nat.lt_or_ge j Ps.length with hj | hj
     · rw [List.getElem?_append_left hj] at hp
       exact hT.all j p hp
     · rw [List.getElem?_append_right hj] at hp
       have hj0:j - Ps.length=0:=by
        have:=(List.getElem?_eq_some_iff.1 hp).1
        simp at this
        omega
       rw [hj0] at hp
       simp at hp
       subst hp
       have:j=i:=by have:=hT.len;omega
       subst this
       exact hD
 · rintro i w' o ⟨v0,Ps,hT⟩ ho
   obtain ⟨h1,_,h3,_,h5⟩:=hL i o ho
   have hmem:o∈L:=List.mem_of_getElem? ho
   have hdat:=hO.dat o hmem
   obtain ⟨q,kap,hq⟩:=own_form hdat
   rw [hq] at hdat
   obtain ⟨g,rfl,_⟩:=own_at hdat h3
   exact ⟨_,v0,_,hT.line,hO.but hT.but hn1 hn2,h5,h1,hoff,rfl,hT.row,hT.but.size,⟨_,_,hq⟩,h3⟩
end br
end Go.Proofs.YtnmfmoimjkoieaaGreatDoor
