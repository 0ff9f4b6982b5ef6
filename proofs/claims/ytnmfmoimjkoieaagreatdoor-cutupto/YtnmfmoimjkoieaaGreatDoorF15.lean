import Derived.Test.YtnmfmoimjkoieaaGreatDoorF08
import Derived.Deep.QuietTactic
import Derived.BigQuiet
import Derived.Laws.StructEq
namespace Go.Proofs.YtnmfmoimjkoieaaGreatDoor
namespace ew
open Go.RowKit topPlain topWalks decPlain
open rf (FilV IntV)
def FilW (w:World) (v:Value) (fs:List (List UInt8×Int)):Prop:=∃ q cap,v=.slice q fs.length cap∧fs.length≤maxLen∧∀ (j:Nat) f,fs[j]?=some f→∃ g o,q=some ⟨g,o,none⟩∧g < w.heap.size∧w.cell? ⟨g,o+j*2,none⟩=some (.string (bs f.1))∧w.cell? ⟨g,o+j*2+1,none⟩=some (.int .i64 f.2)
def IntW (w:World) (v:Value) (cs:List Int):Prop:=∃ q cap,v=.slice q cs.length cap∧cs.length≤maxLen∧∀ (j:Nat) c,cs[j]?=some c→∃ g o,q=some ⟨g,o,none⟩∧g < w.heap.size∧w.cell? ⟨g,o+j,none⟩=some (.int .i64 c)
theorem filW_of {w:World} {v:Value} {fs:List (List UInt8×Int)} (h:FilV w v fs):FilW w v fs:=by
 obtain ⟨q,cap,h1,h2,h3⟩:=h
 exact ⟨q,cap,h1,h2,fun j f hf=>by obtain ⟨g,a,b,c,d⟩:=h3 j f hf;exact ⟨g,0,a,b,by rw [Nat.zero_add];exact c,by rw [Nat.zero_add];exact d⟩⟩
theorem intW_of {w:World} {v:Value} {cs:List Int} (h:IntV w v cs):IntW w v cs:=by
 obtain ⟨q,cap,h1,h2,h3⟩:=h
 exact ⟨q,cap,h1,h2,fun j f hf=>by obtain ⟨g,a,b,c⟩:=h3 j f hf;exact ⟨g,0,a,b,by rw [Nat.zero_add];exact c⟩⟩
theorem drewN_drewN (w:World) (a b:Nat):(w.drewN a).drewN b=w.drewN (a+b):=by
 simp [World.drewN,Nat.add_assoc]
theorem take_eq_step {α:Type} {a b:List α} {k:Nat} {x:α} (h:a.take k=b.take k) (ha:a[k]?=some x) (hb:b[k]?=some x):a.take (k+1)=b.take (k+1):=by
 rw [List.take_add_one,List.take_add_one,h,ha,hb]
theorem take_eq_all {α:Type} {a b:List α} {k:Nat} (h:a.take k=b.take k) (ha:a.length≤k) (hb:b.length≤k):a=b:=by
 rwa [List.take_of_length_le ha,List.take_of_length_le hb] at h
theorem ne_at {α:Type} {a b:List α} {k:Nat} {x y:α} (ha:a[k]?=some x) (hb:b[k]?=some y) (h:x≠y):a≠b:=fun e=>by
 rw [e,hb] at ha;exact h (Option.some.inj ha).symm
set_option maxHeartbeats 1600000 in
set_option maxRecDepth 100000 in
theorem eqInt_any (cs ds:List Int) (v1 v2:Value) (w:World) (h1:IntW w v1 cs) (h2:IntW w v2 ds) :
 Calls Tryz.prog 121 #[v1,v2] w fun e w'=>e=.returned (.bool (decide (cs=ds)))∧∃ m,w'=w.drewN m:=by
 obtain ⟨q1,k1,rfl,l1,h1⟩:=h1
 obtain ⟨q2,k2,rfl,l2,h2⟩:=h2
 have H1:=hide h1
 have H2:=hide h2
 unfold maxLen at l1 l2
 clear h1 h2
 by_cases hl:cs.length=ds.length
 · have hlb:((cs.length:Int) == (ds.length:Int))=true:=by rw [hl];simp
   have hln:((cs.length:Int) != (ds.length:Int))=false:=by rw [hl];simp
   have HL:=hide hl
   obtain ⟨A,hA⟩:∃ A,A=decide (cs=ds):=⟨_,rfl⟩
   rw [← hA]
   have HA:=hide hA
   clear hl hA
   go_enter Tryz.func121,Tryz.ntmps121
   go_wp2_with fail
   go_loopw [13] (fun i wx=>∃ (k n:Nat),k≤cs.length∧i=.int .i64 k∧wx=w.drewN n∧cs.take k=ds.take k) (fun i _=>cs.length - (intOf i).toNat)
   case atStart=>exact ⟨0,0,Nat.zero_le _,rfl,rfl,rfl⟩
   case round =>
    obtain ⟨k,n,hk,rfl,rfl,ht⟩:=hrel
    have HT:=hide ht
    clear ht
    by_cases hlt:k < cs.length
    · have hlt2:k < ds.length:=by rw [← HL.out];exact hlt
      obtain ⟨c,hc⟩:∃ c,cs[k]?=some c:=⟨_,List.getElem?_eq_getElem hlt⟩
      obtain ⟨d,hd⟩:∃ d,ds[k]?=some d:=⟨_,List.getElem?_eq_getElem hlt2⟩
      obtain ⟨g1,o1,rfl,hg1,m1⟩:=H1.out k c hc
      obtain ⟨g2,o2,rfl,hg2,m2⟩:=H2.out k d hd
      have HC:=hide hc
      have HD:=hide hd
      clear hc hd
      by_cases hcd:c=d
      · subst hcd
        go_wp2
        go_quiet (fail)
        go_wp2
        go_roundw
        case rel=>exact ⟨k+1,_,by omega,by go_num,rfl,take_eq_step HT.out HC.out HD.out⟩
        case measure=>simp [intOf];omega
      · have hb:(c == d)=false:=beq_eq_false_iff_ne.2 hcd
        have hb2:(c != d)=true:=by simp [hcd]
        have HCD:=hide hcd
        clear hcd
        go_wp2
        go_quiet (fail)
        go_wp2
        go_ret
        exact ⟨ret_bool (by rw [HA.out,decide_eq_false (ne_at HC.out HD.out HCD.out)]),_,drewN_drewN _ _ _⟩
    · go_wp2
      go_ret
      exact ⟨ret_bool (by rw [HA.out,decide_eq_true (take_eq_all HT.out (by omega) (by rw [← HL.out];omega))]),_,rfl⟩
 · have hlb:((cs.length:Int) == (ds.length:Int))=false:=beq_eq_false_iff_ne.2 (by omega)
   have hne:decide (cs=ds)=false:=decide_eq_false fun e=>hl (by rw [e])
   rw [hne]
   clear hl hne
   go_enter Tryz.func121,Tryz.ntmps121
   go_wp2
   go_ret
   exact ⟨rfl,0,rfl⟩
theorem bs_ne {a b:List UInt8} (h:a≠b):((bs a).toList == (bs b).toList)=false:=by
 rw [ByteArray.toList_eq,ByteArray.toList_eq,data_bs,data_bs];exact beq_eq_false_iff_ne.2 h
theorem neq_fil (c d:List UInt8×Int) (w:World):(binOp .neq 95 (.agg #[.string (bs c.1),.int .i64 c.2]) (.agg #[.string (bs d.1),.int .i64 d.2])).run Tryz.prog w=.ok (.bool (!decide (c=d))) w:=by
 have hS:Tryz.prog.underlying 95=some (.struct (Tryz.prog.fieldsOf 95)):=by kernel_rfl
 have hp:Tryz.prog.stoodInHeld 95=false:=by kernel_rfl
 rw [run_neq_struct,show (10000:Nat)=9999+1 from rfl,run_equalIn_agg w 9999 95 _ _ hS hp]
 simp only [Program.fieldsOf,Tryz.underlying95]
 have u1:=Tryz.underlying3
 have u2:=Tryz.underlying9
 go_simp
 obtain ⟨c1,c2⟩:=c
 obtain ⟨d1,d2⟩:=d
 by_cases h1:c1=d1
 · subst h1
   by_cases h2:c2=d2
   · subst h2;simp
   · simp [h2]
 · have hb:¬ (bs c1).toList=(bs d1).toList:=by
    rw [ByteArray.toList_eq,ByteArray.toList_eq,data_bs,data_bs];exact h1
   simp [h1,hb]
theorem neq_guard (op:BinOp) (x y:Operand) (xs ys:Array Value) (w:World):(eqGuard op 95 x y (.agg xs) (.agg ys)).run Tryz.prog w=.ok () w:=run_eqGuard_agg w op 95 x y xs ys (by kernel_rfl)
set_option maxHeartbeats 1600000 in
set_option maxRecDepth 100000 in
theorem eqFil_any (cs ds:List (List UInt8×Int)) (v1 v2:Value) (w:World) (h1:FilW w v1 cs) (h2:FilW w v2 ds) :
 Calls Tryz.prog 120 #[v1,v2] w fun e w'=>e=.returned (.bool (decide (cs=ds)))∧∃ m,w'=w.drewN m:=by
 obtain ⟨q1,k1,rfl,l1,h1⟩:=h1
 obtain ⟨q2,k2,rfl,l2,h2⟩:=h2
 have H1:=hide h1
 have H2:=hide h2
 unfold maxLen at l1 l2
 clear h1 h2
 by_cases hl:cs.length=ds.length
 · have hlb:((cs.length:Int) == (ds.length:Int))=true:=by rw [hl];simp
   have hln:((cs.length:Int) != (ds.length:Int))=false:=by rw [hl];simp
   have HL:=hide hl
   obtain ⟨A,hA⟩:∃ A,A=decide (cs=ds):=⟨_,rfl⟩
   rw [← hA]
   have HA:=hide hA
   clear hl hA
   go_enter Tryz.func120,Tryz.ntmps120
   go_wp2_with fail
   go_loopw [13] (fun i wx=>∃ (k n:Nat),k≤cs.length∧i=.int .i64 k∧wx=w.drewN n∧cs.take k=ds.take k) (fun i _=>cs.length - (intOf i).toNat)
   case atStart=>exact ⟨0,0,Nat.zero_le _,rfl,rfl,rfl⟩
   case round =>
    obtain ⟨k,n,hk,rfl,rfl,ht⟩:=hrel
    have HT:=hide ht
    clear ht
    by_cases hlt:k < cs.length
    · have hlt2:k < ds.length:=by rw [← HL.out];exact hlt
      obtain ⟨c,hc⟩:∃ c,cs[k]?=some c:=⟨_,List.getElem?_eq_getElem hlt⟩
      obtain ⟨d,hd⟩:∃ d,ds[k]?=some d:=⟨_,List.getElem?_eq_getElem hlt2⟩
      obtain ⟨g1,o1,rfl,hg1,m1,m1'⟩:=H1.out k c hc
      obtain ⟨g2,o2,rfl,hg2,m2,m2'⟩:=H2.out k d hd
      have HC:=hide hc
      have HD:=hide hd
      clear hc hd
      have hn:=fun w=>neq_fil c d w
      have hg:=fun op x y xs ys w=>neq_guard op x y xs ys w
      by_cases hcd:c=d
      · rw [decide_eq_true hcd] at hn
        have HCD:=hide hcd
        clear hcd
        go_wp2
        go_quiet (fail)
        go_wp2
        go_roundw
        case rel=>exact ⟨k+1,_,by omega,by go_num,rfl,take_eq_step HT.out HC.out (by rw [HD.out,HCD.out])⟩
        case measure=>simp [intOf];omega
      · rw [decide_eq_false hcd] at hn
        have HCD:=hide hcd
        clear hcd
        go_wp2
        go_quiet (fail)
        go_wp2
        go_ret
        exact ⟨ret_bool (by rw [HA.out,decide_eq_false (ne_at HC.out HD.out HCD.out)]),_,drewN_drewN _ _ _⟩
    · go_wp2
      go_ret
      exact ⟨ret_bool (by rw [HA.out,decide_eq_true (take_eq_all HT.out (by omega) (by rw [← HL.out];omega))]),_,rfl⟩
 · have hlb:((cs.length:Int) == (ds.length:Int))=false:=beq_eq_false_iff_ne.2 (by omega)
   have hne:decide (cs=ds)=false:=decide_eq_false fun e=>hl (by rw [e])
   rw [hne]
   clear hl hne
   go_enter Tryz.func120,Tryz.ntmps120
   go_wp2
   go_ret
   exact ⟨rfl,0,rfl⟩
end ew
end Go.Proofs.YtnmfmoimjkoieaaGreatDoor
