import Derived.Test.YtnmfmoimjkoieaaGreatDoorF46
import Derived.Deep.RegionWith
import Derived.Deep.RegionHeld3
import Derived.Deep.LoopGhost
namespace Go.Proofs.YtnmfmoimjkoieaaGreatDoor
namespace br
open Go.RowKit topPlain topWalks decPlain rd ew encPlain rf Go.Maps cu
def helS:Pkt:={ zP with kind:=1,client:=meB }
def allB (data:ByteArray):List UInt8:=helB ++ data.data.toList
def closedL (L:List (OutS×Value)):Bool:=match L.getLast? with
 | some o=>o.1.closed
 | none=>false
structure FedK (N:Nat) (K:Nat→Nat→Nat→Value→Nat→Value→World→Prop) (lb ab kap:Nat) (xv:Value) (at_ n:Nat) (y:Value) (a':World) (lv:Value) (L:List (OutS×Value)) (m:Nat) (ys:List Value):Prop where
 lr:a'.ownsRow 0 66 3 lv L.length (outC L)
 yr:a'.ownsRow 0 66 3 y m ys
 len:m+L.length≤1000000000000
 one:∀ u∈outC L,u.oneCell'=true
 go:∀ v' a2,a2.ownsRow 0 66 3 v' (m+L.length) (ys ++ outC L)→a'.grownBy a2 y.ownBlock→(v'.ownBlock=y.ownBlock∨v'.ownBlock=some a'.heap.size)→K lb ab kap xv (if closedL L then N else at_+n) v' a2∧a2.ownsRow 0 66 3 lv L.length (outC L)
theorem outC_one (L:List (OutS×Value)) (h:∀ o∈L,o.2.oneCell'=true):∀ u∈outC L,u.oneCell'=true:=by
 intro u hu
 simp only [outC,List.mem_flatMap] at hu
 obtain ⟨o,ho,hu⟩:=hu
 simp at hu
 rcases hu with rfl | rfl | rfl
 · rfl
 · exact h o ho
 · rfl
theorem out_cell {L:List (OutS×Value)} {k:Nat} {o:OutS×Value} (h:L[k]?=some o):(outC L)[k*3+2]?=some (.bool o.1.closed):=(outC_at h).2.2
set_option maxHeartbeats 3200000 in
set_option maxRecDepth 100000 in
theorem cut_walk (win que:Int) (data:ByteArray) (N:Nat) (cq:Option Addr) (cc:Nat) (cs:List Int) (w:World) (QA:Nat→World→Prop) (QB QC QD:Nat→Nat→World→Prop) (QE:Nat→Nat→Value→Nat→World→Prop) (K:Nat→Nat→Nat→Value→Nat→Value→World→Prop)
 (hdl:data.size≤1048576) (hN:N=16+data.size) (hcl:cs.length≤1048576) (hcs:∀ (j:Nat) c,cs[j]?=some c→-9223372036854775808≤c∧c≤9223372036854775807)
 (h1:-9223372036854775808≤win) (h2:win≤9223372036854775807) (h3:-9223372036854775808≤que) (h4:que≤9223372036854775807)
 (hS:Calls Tryz.prog 18 #[] w fun e w'=>e=.returned (.bool true)∧Below w.heap.size w w')
 (hA:∀ a,Below w.heap.size w a→Calls Tryz.prog 22 #[.int .i64 (1+(pickC win 8:Int)),.int .i64 (pickC que 9:Int)] a fun e a'=>∃ la,e=.returned (.pointer (some ⟨la,0,none⟩))∧QA la a')
 (hAb:∀ la a b,QA la a→Below a.heap.size a b→QA la b)
 (hB:∀ la a,QA la a→Calls Tryz.prog 22 #[.int .i64 (1+(pickC win 8:Int)),.int .i64 (pickC que 9:Int)] a fun e a'=>∃ lb,e=.returned (.pointer (some ⟨lb,0,none⟩))∧QB la lb a')
 (hBb:∀ la lb a b,QB la lb a→Below a.heap.size a b→QB la lb b)
 (hC:∀ la lb a,QB la lb a→∃ B,a.cell? ⟨la,0,none⟩=some (.pointer (some ⟨B,0,none⟩))∧Calls Tryz.prog 23 #[.pointer (some ⟨B,0,none⟩),.int .i64 3] a fun e a'=>e=.returned (.int .i64 0)∧QC la lb a')
 (hD:∀ la lb a,QC la lb a→∃ B,a.cell? ⟨lb,0,none⟩=some (.pointer (some ⟨B,0,none⟩))∧Calls Tryz.prog 23 #[.pointer (some ⟨B,0,none⟩),.int .i64 3] a fun e a'=>e=.returned (.int .i64 0)∧QD la lb a')
 (hDb:∀ la lb a b,QD la lb a→Below a.heap.size a b→QD la lb b)
 (hEn:∀ la lb a,QD la lb a→Calls Tryz.prog 19 #[.agg (pkCells helS)] a fun e a'=>Below a.heap.size a a'∧∃ v,e=.returned (.tuple #[v,.int .i64 0])∧a'.ownsRow a.heap.size 5 1 v 16 (u8s helB))
 (hE:∀ la lb a0 a ab kap,QD la lb a0→Below a0.heap.size a0 a→a.ownsRow a0.heap.size 5 1 (.slice (some ⟨ab,0,none⟩) N kap) N (u8s (allB data))→∃ B,a.cell? ⟨la,0,none⟩=some (.pointer (some ⟨B,0,none⟩))∧Calls Tryz.prog 24 #[.pointer (some ⟨B,0,none⟩),.int .i64 3,.slice (some ⟨ab,0,none⟩) N kap] a fun e a'=>∃ xq xn xc,e=.returned (.tuple #[.slice xq xn xc,.int .i64 0])∧QE lb ab (.slice xq xn xc) kap a')
 (hK0:∀ lb ab kap xv a,QE lb ab xv kap a→K lb ab kap xv 0 (.slice none 0 0) a)
 (hKb:∀ lb ab kap xv at_ y a,K lb ab kap xv at_ y a→Below w.heap.size w a)
 (hKe:∀ lb ab kap xv at_ y a b,K lb ab kap xv at_ y a→Below a.heap.size a b→K lb ab kap xv at_ y b)
 (hKf:∀ lb ab kap xv at_ y a n,K lb ab kap xv at_ y a→at_ < N→at_+n≤N→∃ B,a.cell? ⟨lb,0,none⟩=some (.pointer (some ⟨B,0,none⟩))∧Calls Tryz.prog 24 #[.pointer (some ⟨B,0,none⟩),.int .i64 3,.slice (some ⟨ab,at_,none⟩) n (kap - at_)] a fun e a'=>∃ lv L m ys,e=.returned (.tuple #[lv,.int .i64 0])∧FedK N K lb ab kap xv at_ n y a' lv L m ys∧a'.cell? ⟨lb,0,none⟩=some (.pointer (some ⟨B,0,none⟩)))
 (hcc:∀ a (j:Nat) c,Below w.heap.size w a→cs[j]?=some c→∃ g o,cq=some ⟨g,o,none⟩∧g < w.heap.size∧cs.length≤cc∧cc≤maxLen∧a.cell? ⟨g,o+j,none⟩=some (.int .i64 c))
 (hkap:∀ lb ab kap xv at_ y a,K lb ab kap xv at_ y a→N≤kap∧kap≤maxLen)
 (hZ:∀ lb ab kap xv y a,K lb ab kap xv N y a→∃ L1 L2,OutsAt a xv L1∧OutsAt a y L2∧L1.map Prod.fst=L2.map Prod.fst∧0 < L1.length∧L1.length≤1000000000000∧∀ o∈L1,o.1.conn=3) :
 Calls Tryz.prog 7 #[.int .i64 win,.int .i64 que,.string data,.slice cq cs.length cc] w fun e w'=>e=.returned (.bool true)∧Below w.heap.size w w':=by
 have cPw:=hide fun a=>pick_c win 8 a (by omega) h1 h2 (by omega)
 have cPq:=hide fun a=>pick_c que 9 a (by omega) h3 h4 (by omega)
 have hpw:(pickC win 8:Int) < 8:=by have:=pickC_lt win (n:=8) (by omega);omega
 have hpw0:(0:Int)≤(pickC win 8:Int):=by omega
 have HA:=hide hA
 have HAB:=hide hAb
 have HBB:=hide hBb
 have HDB:=hide hDb
 have HB:=hide hB
 have HC:=hide hC
 have HD:=hide hD
 have HEN:=hide hEn
 have HE:=hide hE
 have HS:=hide hS
 have HCS:=hide hcs
 have HN:=hide hN
 have HK0:=hide hK0
 have HKB:=hide hKb
 have HKE:=hide hKe
 have HKF:=hide hKf
 have HCC:=hide hcc
 have HKP:=hide hkap
 have HZ:=hide hZ
 clear hA hAb hBb hDb hB hC hD hEn hE hS hcs hN hK0 hKb hKe hKf hcc hkap hZ
 generalize pickC win 8=pw at *
 generalize pickC que 9=pq at *
 have hw1:IntKind.i64.wrap (1+(pw:Int))=1+(pw:Int):=by rw [wrap_c]<;>omega
 go_enter Tryz.func7,Tryz.ntmps7
 go_wp2_with fail
 refine HS.out.mono ?_
 rintro e w1 ⟨rfl,hB1⟩
 have HB1:=hide hB1
 clear hB1
 go_wp2_with fail
 refine (cPw.out _).mono ?_
 rintro e w2 ⟨rfl,hB2⟩
 go_wp2_with fail
 refine (cPq.out _).mono ?_
 rintro e w3 ⟨rfl,hB3⟩
 have HB3:=hide (HB1.out.trans ((hB2.trans (hB3.mono hB2.size)).mono HB1.out.size))
 clear hB2 hB3
 go_wp2_with fail
 refine (HA.out _ HB3.out).mono ?_
 rintro e w4 ⟨la,rfl,hq⟩
 have HQ4:=hide hq
 clear hq
 go_wp2_with fail
 refine (cPw.out _).mono ?_
 rintro e w5 ⟨rfl,hB5⟩
 go_wp2_with fail
 refine (cPq.out _).mono ?_
 rintro e w6 ⟨rfl,hB6⟩
 have HQ6:=hide (HAB.out _ _ _ HQ4.out (hB5.trans (hB6.mono hB5.size)))
 clear hB5 hB6
 go_wp2_with fail
 refine (HB.out _ _ HQ6.out).mono ?_
 rintro e w7 ⟨lb,rfl,hq⟩
 obtain ⟨Ba,hla,cO⟩:=HC.out _ _ _ hq
 have CO:=hide cO
 clear hq cO
 go_wp2_with fail
 refine CO.out.mono ?_
 rintro e w8 ⟨rfl,hq⟩
 obtain ⟨Bb,hlb,cO⟩:=HD.out _ _ _ hq
 have CO2:=hide cO
 clear hq cO hla CO
 go_wp2_with fail
 refine CO2.out.mono ?_
 rintro e w9 ⟨rfl,hq⟩
 have HQ9:=hide hq
 have cEn:=hide (HEN.out _ _ _ hq)
 simp only [helS,zP,pkCells] at cEn
 clear hq hlb CO2
 go_wp2_with fail
 refine cEn.out.mono ?_
 rintro e w10 ⟨hB10,v10,rfl,ho10⟩
 have HQ10:=hide (HDB.out _ _ _ _ HQ9.out hB10)
 have HO10:=hide ho10
 obtain ⟨i0,hi,hz0,hz1,hz2⟩:=info_parts infoB
 obtain ⟨qb,kb,rfl⟩:=own_form ho10
 clear ho10 hB10 cEn HQ9
 go_wp2_with (first
  | (at_builtin;refine wpList_append_two _ rfl _ _ 45 rfl w10.heap.size 5 i0 (.int .u8 0) 1 1 Tryz.underlying45 hi hz0 hz1 hz2 rfl (by decide) (.slice none 0 0) 0 [] rfl ⟨rfl,Or.inl ⟨rfl,rfl⟩⟩ w9.heap.size _ 16 (u8s helB) rfl HO10.out (u8s_one _) ?c3 ?c4 ?c5 ?_))
 case c3=>unfold maxLen;omega
 case c4=>omega
 case c5=>omega
 intro v5 w11 hown5 hgrow5
 have hB5:Below w10.heap.size w10 w11:=(But.of_grown (F:=fun _=>False) hgrow5 (fun b hb=>by cases hb)).below'
 have HO5:=hide hown5
 have HB5:=hide hB5
 clear hown5 hgrow5 hB5
 go_wp2_with (first
  | (at_builtin;refine wpList_append_at_string _ rfl _ _ 45 9 rfl w10.heap.size 5 i0 Tryz.underlying45 Tryz.underlying9 hi hz0 hz1 hz2 v5 16 (u8s helB) rfl HO5.out data rfl ?d1 ?d2 ?d3 ?_))
 case d1=>unfold maxLen;omega
 case d2=>omega
 case d3=>exact HB5.out.size
 intro v6 w12 hown6 hgrow6 _
 have hB6:Below w10.heap.size w10 w12:=HB5.out.trans ((But.of_grown (F:=fun b=>w10.heap.size≤b) hgrow6 (fun b hb=>(own_zero HO5.out).2 b hb)).below (fun _ h=>h) HB5.out.size)
 have ho6:w12.ownsRow w10.heap.size 5 1 v6 N (u8s (allB data)):=by
  rw [HN.out];unfold allB;rw [u8s_append,← strC];exact hown6
 obtain ⟨q6,kap,rfl⟩:=own_form ho6
 obtain ⟨ab,rfl,_⟩:=own_at ho6 (by have:=HN.out;omega)
 obtain ⟨B1,hla,cF⟩:=HE.out _ _ _ _ ab kap HQ10.out hB6 ho6
 have CF:=hide cF
 clear hown6 hgrow6 hB6 ho6 cF
 go_wp2_with fail
 refine CF.out.mono ?_
 rintro e w13 ⟨xq,xn,xc,rfl,hq⟩
 have HK:=hide (HK0.out _ _ _ _ _ hq)
 clear hq hla CF
 go_wp2_with fail
 have hNb:N≤1048592:=by have:=HN.out;omega
 obtain ⟨j0,hj0,hy0,hy1,hy2⟩:=info_parts infoOut
 clear HA HAB HBB HDB HB HC HD HEN HE HK0 HB1 HB3 HQ4 HQ6 HQ10 HO10 HO5 HB5 cPw cPq HS
 go_loopw [19,20,21] (fun y at_ i wx=>∃ (a k:Nat),a≤N∧k≤cs.length+a∧at_=.int .i64 (a:Int)∧i=.int .i64 (k:Int)∧K lb ab kap (.slice xq xn xc) a y wx) (fun _ at_ i _=>(cs.length - (intOf i).toNat)+(N - (intOf at_).toNat))
 case atStart=>exact ⟨0,0,Nat.zero_le _,Nat.zero_le _,rfl,rfl,HK.out⟩
 case round =>
  obtain ⟨a,k,ha,hk,rfl,rfl,hK⟩:=hrel
  have HKK:=hide hK
  obtain ⟨hkp1,hkp2⟩:=HKP.out _ _ _ _ _ _ _ hK
  unfold maxLen at hkp2
  clear hK
  by_cases hat:a < N
  · have hw2:IntKind.i64.wrap (2*(N:Int))=2*(N:Int):=by rw [wrap_c]<;>omega
    have hw3:IntKind.i64.wrap (2*(N:Int)+(cs.length:Int))=2*(N:Int)+(cs.length:Int):=by rw [wrap_c]<;>omega
    have hki:¬ (2*(N:Int)+(cs.length:Int) < (k:Int)):=by omega
    by_cases hkc:k < cs.length
    · obtain ⟨c,hc⟩:∃ c,cs[k]?=some c:=⟨_,List.getElem?_eq_getElem hkc⟩
      obtain ⟨g,o,rfl,hg,hcc1,hcc2,hcell⟩:=HCC.out wr k c (HKB.out _ _ _ _ _ _ _ HKK.out) hc
      unfold maxLen at hcc2
      obtain ⟨hc1,hc2⟩:=HCS.out k c hc
      have cP:=hide fun a=>pick_c c 40 a (by omega) hc1 hc2 (by omega)
      have hpc:pickC c 40 < 40:=pickC_lt c (by omega)
      clear hc hc1 hc2
      generalize pickC c 40=pc at *
      go_wp2_with fail
      refine (cP.out _).mono ?_
      rintro e w2 ⟨rfl,hB2⟩
      have HKW:=hide (HKE.out _ _ _ _ _ _ _ _ HKK.out hB2)
      clear hB2 hcell
      by_cases hov:a+pc≤N
      · obtain ⟨B,hlb0,cF⟩:=HKF.out _ _ _ _ a _ w2.drew pc (HKE.out _ _ _ _ _ _ _ _ HKW.out (below_drew _ _)) hat hov
        obtain ⟨e1,he1⟩:∃ e1:Nat,a+pc=e1:=⟨_,rfl⟩
        have hsum:(a:Int)+(pc:Int)=(e1:Int):=by omega
        have hws:IntKind.i64.wrap ((a:Int)+(pc:Int))=(e1:Int):=by rw [hsum,wrap_c]<;>omega
        have hle1:a≤e1:=by omega
        have hle2:e1≤kap:=by omega
        have hle3:e1≤N:=by omega
        have hsub:e1 - a=pc:=by omega
        have hka:¬ kap=a:=by omega
        have hwe:IntKind.i64.wrap (e1:Int)=(e1:Int):=by rw [wrap_c]<;>omega
        have hia:(0:Int)≤(a:Int):=by omega
        have hie:(a:Int)≤(e1:Int):=by omega
        have hik:(e1:Int)≤(kap:Int):=by omega
        have HE1:=hide he1
        clear he1
        have hlb:w2.cell? ⟨lb,0,none⟩=some (.pointer (some ⟨B,0,none⟩)):=hlb0
        have hllb:=cell_blt hlb
        simp only at hllb
        have CF:=hide cF
        clear cF hlb0
        go_wp2_with fail
        go_region_held3 (fun w'=>w'.cell? ⟨lb,0,none⟩=some (.pointer (some ⟨B,0,none⟩)))
         (go_keep)
         (first
          | (go_at_call 24
             refine CF.out.mono ?_
             rintro e w3 ⟨lv,L,m,ys,rfl,hF,hlb3⟩
             have HF:=hide hF
             obtain ⟨lq,lc,rfl⟩:=own_form hF.lr
             obtain ⟨yq,yc,rfl⟩:=own_form hF.yr
             have HFL:=hide hF.len
             clear hF CF))
        all_goals
         clear hlb
         go_wp2_with (first
          | (at_builtin;refine wpList_append_loc _ rfl _ _ 62 rfl 0 66 j0 (.agg #[.int .i64 0,.slice none 0 0,.bool false]) 3 40 Tryz.underlying62 hj0 hy0 hy1 hy2 rfl (by decide) (.slice yq m yc) m ys rfl HF.out.yr 0 (.slice lq L.length lc) L.length (outC L) rfl HF.out.lr HF.out.one ?c1 ?c2 ?c3 ?_))
         case c1=>have:=HFL.out;unfold maxLen;omega
         case c2=>have:=HFL.out;omega
         case c3=>exact Nat.zero_le _
         intro v4 w4 ho4 hg4 hl4
         obtain ⟨hK4,hlr4⟩:=HF.out.go v4 w4 ho4 hg4 hl4
         have HK4:=hide hK4
         obtain ⟨q4,c4,rfl⟩:=own_form ho4
         clear hK4 ho4 hg4 hl4 HF
         rcases Nat.eq_zero_or_pos L.length with hL0 | hL0
         · obtain rfl:L = []:=List.eq_nil_of_length_eq_zero hL0
           clear hlr4
           go_wp2_with fail
           exact ⟨⟨e1,k+1,hle3,by have:=HE1.out;omega,rfl,by go_num,by rw [← HE1.out];exact HK4.out⟩,by have:=HE1.out;simp [intOf];omega⟩
         · obtain ⟨t,ht⟩:∃ t,L.length=t+1:=⟨L.length - 1,by omega⟩
           obtain ⟨gl,rfl,hgl,hlc,hlm,hcl⟩:=own_at hlr4 hL0
           unfold maxLen at hlm
           obtain ⟨ol,hol⟩:∃ ol,L[t]?=some ol:=⟨_,List.getElem?_eq_getElem (by omega)⟩
           have hcc4:w4.cell? ⟨gl,t*3+2,none⟩=some (.bool ol.1.closed):=hcl _ _ (out_cell hol)
           have hclo:closedL L=ol.1.closed:=by unfold closedL;rw [List.getLast?_eq_getElem?,show L.length - 1=t by omega,hol]
           rw [hclo] at HK4
           have HTB:=hide (show t+1≤1000000000000 by have:=HFL.out;omega)
           have htb:t+1≤1000000000000:=HTB.out
           rw [ht] at hlc
           clear hcl hol hclo hlr4 hL0
           cases hcd:ol.1.closed with
           | true =>
             rw [hcd] at hcc4 HK4
             simp only [if_true] at HK4
             go_wp2_with fail
             exact ⟨⟨N,k+1,Nat.le_refl _,by omega,rfl,by go_num,HK4.out⟩,by simp [intOf];omega⟩
           | false =>
             rw [hcd] at hcc4 HK4
             simp only [Bool.false_eq_true,if_false] at HK4
             go_wp2_with fail
             exact ⟨⟨e1,k+1,hle3,by have:=HE1.out;omega,rfl,by go_num,by rw [← HE1.out];exact HK4.out⟩,by have:=HE1.out;simp [intOf];omega⟩
      · have hgt:(N:Int) < (a:Int)+(pc:Int):=by omega
        obtain ⟨n1,hn1⟩:∃ n1,N - a=n1:=⟨_,rfl⟩
        have hov:a+n1≤N:=by omega
        have hnn:(N:Int) - (a:Int)=(n1:Int):=by omega
        have hn0:0 < n1:=by omega
        clear hn1
        obtain ⟨B,hlb0,cF⟩:=HKF.out _ _ _ _ a _ w2.drew n1 (HKE.out _ _ _ _ _ _ _ _ HKW.out (below_drew _ _)) hat hov
        obtain ⟨e1,he1⟩:∃ e1:Nat,a+n1=e1:=⟨_,rfl⟩
        have hsum:(a:Int)+(n1:Int)=(e1:Int):=by omega
        have hws:IntKind.i64.wrap ((a:Int)+(n1:Int))=(e1:Int):=by rw [hsum,wrap_c]<;>omega
        have hle1:a≤e1:=by omega
        have hle2:e1≤kap:=by omega
        have hle3:e1≤N:=by omega
        have hsub:e1 - a=n1:=by omega
        have hka:¬ kap=a:=by omega
        have hwe:IntKind.i64.wrap (e1:Int)=(e1:Int):=by rw [wrap_c]<;>omega
        have hia:(0:Int)≤(a:Int):=by omega
        have hie:(a:Int)≤(e1:Int):=by omega
        have hik:(e1:Int)≤(kap:Int):=by omega
        have HE1:=hide he1
        clear he1
        have hlb:w2.cell? ⟨lb,0,none⟩=some (.pointer (some ⟨B,0,none⟩)):=hlb0
        have hllb:=cell_blt hlb
        simp only at hllb
        have CF:=hide cF
        clear cF hlb0
        go_wp2_with fail
        go_region_held3 (fun w'=>w'.cell? ⟨lb,0,none⟩=some (.pointer (some ⟨B,0,none⟩)))
         (go_keep)
         (first
          | (go_at_call 24
             refine CF.out.mono ?_
             rintro e w3 ⟨lv,L,m,ys,rfl,hF,hlb3⟩
             have HF:=hide hF
             obtain ⟨lq,lc,rfl⟩:=own_form hF.lr
             obtain ⟨yq,yc,rfl⟩:=own_form hF.yr
             have HFL:=hide hF.len
             clear hF CF))
        all_goals
         clear hlb
         go_wp2_with (first
          | (at_builtin;refine wpList_append_loc _ rfl _ _ 62 rfl 0 66 j0 (.agg #[.int .i64 0,.slice none 0 0,.bool false]) 3 40 Tryz.underlying62 hj0 hy0 hy1 hy2 rfl (by decide) (.slice yq m yc) m ys rfl HF.out.yr 0 (.slice lq L.length lc) L.length (outC L) rfl HF.out.lr HF.out.one ?c1 ?c2 ?c3 ?_))
         case c1=>have:=HFL.out;unfold maxLen;omega
         case c2=>have:=HFL.out;omega
         case c3=>exact Nat.zero_le _
         intro v4 w4 ho4 hg4 hl4
         obtain ⟨hK4,hlr4⟩:=HF.out.go v4 w4 ho4 hg4 hl4
         have HK4:=hide hK4
         obtain ⟨q4,c4,rfl⟩:=own_form ho4
         clear hK4 ho4 hg4 hl4 HF
         rcases Nat.eq_zero_or_pos L.length with hL0 | hL0
         · obtain rfl:L = []:=List.eq_nil_of_length_eq_zero hL0
           clear hlr4
           go_wp2_with fail
           exact ⟨⟨e1,k+1,hle3,by have:=HE1.out;omega,rfl,by go_num,by rw [← HE1.out];exact HK4.out⟩,by have:=HE1.out;simp [intOf];omega⟩
         · obtain ⟨t,ht⟩:∃ t,L.length=t+1:=⟨L.length - 1,by omega⟩
           obtain ⟨gl,rfl,hgl,hlc,hlm,hcl⟩:=own_at hlr4 hL0
           unfold maxLen at hlm
           obtain ⟨ol,hol⟩:∃ ol,L[t]?=some ol:=⟨_,List.getElem?_eq_getElem (by omega)⟩
           have hcc4:w4.cell? ⟨gl,t*3+2,none⟩=some (.bool ol.1.closed):=hcl _ _ (out_cell hol)
           have hclo:closedL L=ol.1.closed:=by unfold closedL;rw [List.getLast?_eq_getElem?,show L.length - 1=t by omega,hol]
           rw [hclo] at HK4
           have HTB:=hide (show t+1≤1000000000000 by have:=HFL.out;omega)
           have htb:t+1≤1000000000000:=HTB.out
           rw [ht] at hlc
           clear hcl hol hclo hlr4 hL0
           cases hcd:ol.1.closed with
           | true =>
             rw [hcd] at hcc4 HK4
             simp only [if_true] at HK4
             go_wp2_with fail
             exact ⟨⟨N,k+1,Nat.le_refl _,by omega,rfl,by go_num,HK4.out⟩,by simp [intOf];omega⟩
           | false =>
             rw [hcd] at hcc4 HK4
             simp only [Bool.false_eq_true,if_false] at HK4
             go_wp2_with fail
             exact ⟨⟨e1,k+1,hle3,by have:=HE1.out;omega,rfl,by go_num,by rw [← HE1.out];exact HK4.out⟩,by have:=HE1.out;simp [intOf];omega⟩
    · have hov:a+1≤N:=by omega
      have HKW:=hide HKK.out
      obtain ⟨B,hlb0,cF⟩:=HKF.out _ _ _ _ a _ wr.drew 1 (HKE.out _ _ _ _ _ _ _ _ HKW.out (below_drew _ _)) hat hov
      obtain ⟨e1,he1⟩:∃ e1:Nat,a+1=e1:=⟨_,rfl⟩
      have hsum:(a:Int)+(1:Int)=(e1:Int):=by omega
      have hws:IntKind.i64.wrap ((a:Int)+(1:Int))=(e1:Int):=by rw [hsum,wrap_c]<;>omega
      have hle1:a≤e1:=by omega
      have hle2:e1≤kap:=by omega
      have hle3:e1≤N:=by omega
      have hsub:e1 - a=1:=by omega
      have hka:¬ kap=a:=by omega
      have hwe:IntKind.i64.wrap (e1:Int)=(e1:Int):=by rw [wrap_c]<;>omega
      have hia:(0:Int)≤(a:Int):=by omega
      have hie:(a:Int)≤(e1:Int):=by omega
      have hik:(e1:Int)≤(kap:Int):=by omega
      have HE1:=hide he1
      clear he1
      have hlb:wr.cell? ⟨lb,0,none⟩=some (.pointer (some ⟨B,0,none⟩)):=hlb0
      have hllb:=cell_blt hlb
      simp only at hllb
      have CF:=hide cF
      clear cF hlb0
      go_wp2_with fail
      go_region_held3 (fun w'=>w'.cell? ⟨lb,0,none⟩=some (.pointer (some ⟨B,0,none⟩)))
       (go_keep)
       (first
        | (go_at_call 24
           refine CF.out.mono ?_
           rintro e w3 ⟨lv,L,m,ys,rfl,hF,hlb3⟩
           have HF:=hide hF
           obtain ⟨lq,lc,rfl⟩:=own_form hF.lr
           obtain ⟨yq,yc,rfl⟩:=own_form hF.yr
           have HFL:=hide hF.len
           clear hF CF))
      all_goals
       clear hlb
       go_wp2_with (first
        | (at_builtin;refine wpList_append_loc _ rfl _ _ 62 rfl 0 66 j0 (.agg #[.int .i64 0,.slice none 0 0,.bool false]) 3 40 Tryz.underlying62 hj0 hy0 hy1 hy2 rfl (by decide) (.slice yq m yc) m ys rfl HF.out.yr 0 (.slice lq L.length lc) L.length (outC L) rfl HF.out.lr HF.out.one ?c1 ?c2 ?c3 ?_))
       case c1=>have:=HFL.out;unfold maxLen;omega
       case c2=>have:=HFL.out;omega
       case c3=>exact Nat.zero_le _
       intro v4 w4 ho4 hg4 hl4
       obtain ⟨hK4,hlr4⟩:=HF.out.go v4 w4 ho4 hg4 hl4
       have HK4:=hide hK4
       obtain ⟨q4,c4,rfl⟩:=own_form ho4
       clear hK4 ho4 hg4 hl4 HF
       rcases Nat.eq_zero_or_pos L.length with hL0 | hL0
       · obtain rfl:L = []:=List.eq_nil_of_length_eq_zero hL0
         clear hlr4
         go_wp2_with fail
         exact ⟨⟨e1,k+1,hle3,by have:=HE1.out;omega,rfl,by go_num,by rw [← HE1.out];exact HK4.out⟩,by have:=HE1.out;simp [intOf];omega⟩
       · obtain ⟨t,ht⟩:∃ t,L.length=t+1:=⟨L.length - 1,by omega⟩
         obtain ⟨gl,rfl,hgl,hlc,hlm,hcl⟩:=own_at hlr4 hL0
         unfold maxLen at hlm
         obtain ⟨ol,hol⟩:∃ ol,L[t]?=some ol:=⟨_,List.getElem?_eq_getElem (by omega)⟩
         have hcc4:w4.cell? ⟨gl,t*3+2,none⟩=some (.bool ol.1.closed):=hcl _ _ (out_cell hol)
         have hclo:closedL L=ol.1.closed:=by unfold closedL;rw [List.getLast?_eq_getElem?,show L.length - 1=t by omega,hol]
         rw [hclo] at HK4
         have HTB:=hide (show t+1≤1000000000000 by have:=HFL.out;omega)
         have htb:t+1≤1000000000000:=HTB.out
         rw [ht] at hlc
         clear hcl hol hclo hlr4 hL0
         cases hcd:ol.1.closed with
         | true =>
           rw [hcd] at hcc4 HK4
           simp only [if_true] at HK4
           go_wp2_with fail
           exact ⟨⟨N,k+1,Nat.le_refl _,by omega,rfl,by go_num,HK4.out⟩,by simp [intOf];omega⟩
         | false =>
           rw [hcd] at hcc4 HK4
           simp only [Bool.false_eq_true,if_false] at HK4
           go_wp2_with fail
           exact ⟨⟨e1,k+1,hle3,by have:=HE1.out;omega,rfl,by go_num,by rw [← HE1.out];exact HK4.out⟩,by have:=HE1.out;simp [intOf];omega⟩
  · obtain rfl:a=N:=by omega
    obtain ⟨L1,L2,hx1,hy2',hmap,hpos,hlen,hcon⟩:=HZ.out _ _ _ _ _ _ HKK.out
    have HBW:=hide (HKB.out _ _ _ _ _ _ _ HKK.out)
    have hll:L2.length=L1.length:=by have:=congrArg List.length hmap;simpa using this.symm
    obtain ⟨q1,c1,e1⟩:=own_form hx1.row
    simp only [Value.slice.injEq] at e1
    obtain ⟨rfl,rfl,rfl⟩:=e1
    obtain ⟨yq,yc,rfl⟩:=own_form hy2'.row
    obtain ⟨gx,rfl,hgx,hxc,hxm,_⟩:=own_at hx1.row hpos
    obtain ⟨gy,rfl,hgy,hyc,hym,_⟩:=own_at hy2'.row (by omega)
    unfold maxLen at hxm hym
    rw [hll] at hyc
    have HX:=hide hx1
    have HY:=hide hy2'
    have HM:=hide hmap
    have HCN:=hide hcon
    have hpi:¬ (L1.length:Int)=0:=by omega
    clear hx1 hy2' hmap hcon HZ HKF HKE HKB HKP HCC HCS HKK HN
    go_wp2_with fail
    go_loopw [25] (fun i wx=>∃ k:Nat,k≤L1.length∧i=.int .i64 (k:Int)∧Below wr.heap.size wr wx) (fun i _=>L1.length - (intOf i).toNat)
    case atStart=>exact ⟨0,Nat.zero_le _,rfl,Below.refl _ _⟩
    case round =>
     obtain ⟨k,hk,rfl,hb⟩:=hrel
     have hX:=HX.out.below hb
     have hY:=HY.out.below hb
     have HBL:=hide hb
     clear hb
     by_cases hkl:k < L1.length
     · obtain ⟨⟨⟨cn,d,cl⟩,v1⟩,ho1⟩:∃ o,L1[k]?=some o:=⟨_,List.getElem?_eq_getElem hkl⟩
       obtain ⟨⟨⟨cn2,d2,cl2⟩,v2⟩,ho2⟩:∃ o,L2[k]?=some o:=⟨_,List.getElem?_eq_getElem (by omega)⟩
       have he:some (OutS.mk cn d cl)=some (OutS.mk cn2 d2 cl2):=by
        have h1:(L1.map Prod.fst)[k]?=some (OutS.mk cn d cl):=by rw [List.getElem?_map,ho1];rfl
        have h2:(L2.map Prod.fst)[k]?=some (OutS.mk cn2 d2 cl2):=by rw [List.getElem?_map,ho2];rfl
        rw [← h1,← h2,HM.out]
       simp only [Option.some.injEq,OutS.mk.injEq] at he
       obtain ⟨rfl,rfl,rfl⟩:=he
       have hm1:((⟨cn,d,cl⟩,v1):OutS×Value)∈L1:=List.mem_of_getElem? ho1
       obtain rfl:cn=3:=HCN.out _ hm1
       have hd1:=hX.dat _ hm1
       have hd2:=hY.dat _ (List.mem_of_getElem? ho2)
       simp only at hd1 hd2
       obtain ⟨gx',ex,_,_,_,hcx⟩:=own_at hX.row hpos
       obtain ⟨gy',ey,_,_,_,hcy⟩:=own_at hY.row (by omega)
       simp only [Option.some.injEq,Addr.mk.injEq,and_true] at ex ey
       subst ex
       subst ey
       have x0:wr.cell? ⟨gx,k*3,none⟩=some (.int .i64 3):=hcx _ _ (outC_at ho1).1
       have x1:wr.cell? ⟨gx,k*3+1,none⟩=some v1:=hcx _ _ (outC_at ho1).2.1
       have x2:wr.cell? ⟨gx,k*3+2,none⟩=some (.bool cl):=hcx _ _ (outC_at ho1).2.2
       have y0:wr.cell? ⟨gy,k*3,none⟩=some (.int .i64 3):=hcy _ _ (outC_at ho2).1
       have y1:wr.cell? ⟨gy,k*3+1,none⟩=some v2:=hcy _ _ (outC_at ho2).2.1
       have y2:wr.cell? ⟨gy,k*3+2,none⟩=some (.bool cl):=hcy _ _ (outC_at ho2).2.2
       have hcv1:=fun m=>conv_outs (b:=d) (own_keep (w':=wr.drewN m) hd1 (fun _ _=>rfl))
       have hcv2:=fun m=>conv_outs (b:=d) (own_keep (w':=wr.drewN m) hd2 (fun _ _=>rfl))
       obtain ⟨p1,k1,rfl⟩:=own_form hd1
       obtain ⟨p2,k2,rfl⟩:=own_form hd2
       clear hd1 hd2 hcx hcy hX hY ho1 ho2 hm1
       cases cl
       all_goals
        go_wp2_with fail
        go_quiet (fail)
        go_wp2_with fail
        exact ⟨⟨k+1,by omega,by go_num,below_drewN HBL.out _⟩,by simp [intOf];omega⟩
     · clear hX hY
       have hke:k=L1.length:=by omega
       subst hke
       go_wp2_with fail
       go_ret
       exact ⟨rfl,HBW.out.trans (HBL.out.mono HBW.out.size)⟩
end br
end Go.Proofs.YtnmfmoimjkoieaaGreatDoor
