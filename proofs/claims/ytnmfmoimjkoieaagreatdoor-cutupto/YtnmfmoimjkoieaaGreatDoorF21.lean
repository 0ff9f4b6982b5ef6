import Derived.Test.YtnmfmoimjkoieaaGreatDoorF01
import Derived.Test.YtnmfmoimjkoieaaGreatDoorF14
import Derived.Lib.AppendStr
import Derived.Test.YtnmfmoimjkoieaaGreatDoorF08
import Derived.StillTailTactics
import Derived.WalkMore
import Derived.Deep.OwnRows
import Derived.IntWalk
import Derived.Test.YtnmfmoimjkoieaaGreatDoorF10
namespace Go.Proofs.YtnmfmoimjkoieaaGreatDoor
namespace ew
open Go.RowKit topPlain topWalks decPlain encPlain
theorem infoB:(Tryz.prog.info? 5).map (fun i=>(i.zero,i.size,i.bytes))=some (some (.int .u8 0),1,1):=by kernel_rfl
def u8s (l:List UInt8):List Value:=l.map fun x=>.int .u8 (x.toNat:Int)
theorem u8s_append (a b:List UInt8):u8s (a ++ b)=u8s a ++ u8s b:=by simp [u8s]
theorem u8_wrap (n:Int):IntKind.u8.wrap n=((byt8 n).toNat:Int):=by
 unfold byt8
 have h1:(n % 256).toNat < 256:=by omega
 rw [UInt8.toNat_ofNat',Nat.mod_eq_of_lt h1]
 have h2:IntKind.u8.wrap n=n % 256:=by
  unfold IntKind.wrap
  rfl
 rw [h2]
 omega
def wr (x:List UInt8):Option (List UInt8)→Option (List UInt8)
 | some l=>if l.length+x.length≤300 then some (l ++ x) else none
 | none=>none
def fitS (n:Nat):Option (List UInt8)→Option (List UInt8)
 | some l=>if l.length+n≤300 then some l else none
 | none=>none
theorem wr_wr (x y:List UInt8) (st:Option (List UInt8)):wr y (wr x st)=wr (x ++ y) st:=by
 cases st with
 | none=>rfl
 | some l =>
   unfold wr
   by_cases h:l.length+x.length≤300
   · simp only [if_pos h,List.length_append,List.append_assoc]
     by_cases h2:l.length+x.length+y.length≤300
     · rw [if_pos h2,if_pos (by omega)]
     · rw [if_neg h2,if_neg (by omega)]
   · simp only [if_neg h,List.length_append]
     rw [if_neg (by omega)]
theorem wr_nil (st:Option (List UInt8)) (h:∀ l,st=some l→l.length≤300):wr [] st=st:=by
 cases st with
 | none=>rfl
 | some l=>simp [wr,h l rfl]
structure Wr (bw C:Nat) (w:World) (full:Bool) (v:Value) (l:List UInt8):Prop where
 lt:bw < C
 sz:C≤w.heap.size
 c0:w.cell? ⟨bw,0,none⟩=some v
 c1:w.cell? ⟨bw,1,none⟩=some (.bool full)
 f0:w.frozen? ⟨bw,0,none⟩=false
 f1:w.frozen? ⟨bw,1,none⟩=false
 own:w.ownsRow C 5 1 v l.length (u8s l)
 le:l.length≤300
def Ws (bw C:Nat) (w:World):Option (List UInt8)→Prop
 | some l=>∃ v,Wr bw C w false v l
 | none=>∃ v l,Wr bw C w true v l
def rowOf (bw:Nat) (w:World):Option Nat:=match w.cell? ⟨bw,0,none⟩ with
 | some v=>v.ownBlock
 | none=>none
theorem rowOf_eq {bw:Nat} {w:World} {v:Value} (h:w.cell? ⟨bw,0,none⟩=some v):rowOf bw w=v.ownBlock:=by unfold rowOf;rw [h]
structure Kp (bw:Nat) (w w':World):Prop where
 os:w'.os=w.os
 tape:w'.tape=w.tape
 output:w'.output=w.output
 size:w.heap.size≤w'.heap.size
 keep:∀ np,np≠bw→np < w.heap.size→rowOf bw w≠some np→rowOf bw w'≠some np∧w'.heap[np]?=w.heap[np]?
theorem Kp.refl (bw:Nat) (w:World):Kp bw w w:=⟨rfl,rfl,rfl,Nat.le_refl _,fun _ _ _ h=>⟨h,rfl⟩⟩
theorem Kp.trans {bw:Nat} {a b c:World} (h:Kp bw a b) (k:Kp bw b c):Kp bw a c:=
 ⟨k.os.trans h.os,k.tape.trans h.tape,k.output.trans h.output,Nat.le_trans h.size k.size,fun np h1 h2 h3=>by
  obtain ⟨x,y⟩:=h.keep np h1 h2 h3
  obtain ⟨x',y'⟩:=k.keep np h1 (Nat.lt_of_lt_of_le h2 h.size) x
  exact ⟨x',y'.trans y⟩⟩
theorem own_slice {w:World} {C:Nat} {e:TypeId} {sz:Nat} {v:Value} {n:Nat} {xs:List Value} (h:w.ownsRow C e sz v n xs):∃ q cap,v=.slice q n cap:=by
 rcases h.2 with ⟨rfl,rfl⟩ | ⟨g,cap,cur,rfl,_⟩
 · exact ⟨none,0,rfl⟩
 · exact ⟨some ⟨g,0,none⟩,cap,rfl⟩
theorem Wr.row_ne {bw C:Nat} {w:World} {f:Bool} {v:Value} {l:List UInt8} (h:Wr bw C w f v l) {np:Nat} (hn:np < C):v.ownBlock≠some np:=fun e=>by
 have:=(h.own.lt np e).1
 omega
theorem Ws.row_lt {bw C:Nat} {w:World} {st:Option (List UInt8)} (h:Ws bw C w st) {np:Nat} (hn:np < C∨w.heap.size≤np):rowOf bw w≠some np:=fun e=>by
 have:∃ f v l,Wr bw C w f v l:=by
  cases st with
  | none=>obtain ⟨v,l,h⟩:=h;exact ⟨_,_,_,h⟩
  | some l=>obtain ⟨v,h⟩:=h;exact ⟨_,_,_,h⟩
 obtain ⟨f,v,l,h⟩:=this
 rw [rowOf_eq h.c0] at e
 have:=h.own.lt np e
 omega
theorem Ws.below {bw C B:Nat} {w w':World} {st:Option (List UInt8)} (h:Ws bw C w st) (k:Kp bw w w') (hB:B≤bw):Below B w w':=by
 have hlt:bw < C∧C≤w.heap.size:=by
  cases st with
  | none=>obtain ⟨v,l,h⟩:=h;exact ⟨h.lt,h.sz⟩
  | some l=>obtain ⟨v,h⟩:=h;exact ⟨h.lt,h.sz⟩
 exact ⟨k.os,k.tape,k.output,k.size,fun b hb=>(k.keep b (by omega) (by omega) (h.row_lt (Or.inl (by omega)))).2⟩
theorem Wr.grow {bw C:Nat} {w w':World} {f:Bool} {v:Value} {l:List UInt8} (h:Wr bw C w f v l) (hb:Below w.heap.size w w'):Wr bw C w' f v l∧Kp bw w w':=by
 have hlt:bw < w.heap.size:=Nat.lt_of_lt_of_le h.lt h.sz
 have e0:w'.cell? ⟨bw,0,none⟩=some v:=by rw [hb.cell hlt];exact h.c0
 refine ⟨⟨h.lt,Nat.le_trans h.sz hb.size,e0,by rw [hb.cell hlt];exact h.c1,by rw [hb.frozen hlt];exact h.f0,by rw [hb.frozen hlt];exact h.f1,?_,h.le⟩,hb.os,hb.tape,hb.output,hb.size,fun np _ h2 h3=>⟨?_,hb.block np h2⟩⟩
 · exact h.own.kept (row:=none) ⟨hb.os,hb.tape,hb.output,hb.size,fun k hk _=>hb.block k hk⟩ (by cases v.ownBlock with | none=>exact Or.inl rfl | some k=>exact Or.inr (by simp))
 · rw [rowOf_eq e0,← rowOf_eq h.c0];exact h3
theorem Ws.grow {bw C:Nat} {w w':World} {st:Option (List UInt8)} (h:Ws bw C w st) (hb:Below w.heap.size w w'):Ws bw C w' st∧Kp bw w w':=by
 cases st with
 | none=>obtain ⟨v,l,h⟩:=h;exact ⟨⟨v,l,(h.grow hb).1⟩,(h.grow hb).2⟩
 | some l=>obtain ⟨v,h⟩:=h;exact ⟨⟨v,(h.grow hb).1⟩,(h.grow hb).2⟩
set_option maxHeartbeats 400000 in
theorem fits_any (bw C n:Nat) (w:World) (st:Option (List UInt8)) (h:Ws bw C w st) :
 Calls Tryz.prog 148 #[.pointer (some ⟨bw,0,none⟩),.int .i64 (n:Int)] w fun e w'=>e=.returned (.bool (fitS n st).isSome)∧Ws bw C w' (fitS n st)∧Kp bw w w'∧((fitS n st).isSome=true→w'=w):=by
 have main:∀ (full:Bool) v l,Wr bw C w full v l→Calls Tryz.prog 148 #[.pointer (some ⟨bw,0,none⟩),.int .i64 (n:Int)] w fun e w'=>e=.returned (.bool (!full && decide (l.length+n≤300)))∧Wr bw C w' (full || !decide (l.length+n≤300)) v l∧Kp bw w w'∧(l.length+n≤300→w'=w):=fun full v l H=>by
  have HW:=hide H
  obtain ⟨h1,h2,c0,c1,f0,f1,own,hle⟩:=H
  obtain ⟨q,cap,rfl⟩:=own_slice own
  clear own
  by_cases hf:l.length+n≤300
  · have hd:¬ (300 - (l.length:Int) < (n:Int)):=by omega
    rw [decide_eq_true hf]
    go_enter Tryz.func148,Tryz.ntmps148
    go_wp2
    go_ret
    exact ⟨by simp,by simpa using HW.out,Kp.refl _ _,by simp⟩
  · have hd:(300 - (l.length:Int) < (n:Int)):=by omega
    rw [decide_eq_false hf]
    have HF:=hide hf
    clear hf
    go_enter Tryz.func148,Tryz.ntmps148
    go_wp2
    go_ret
    have hW:=HW.out
    have e0:(w.setCell ⟨bw,1,none⟩ (.bool true)).cell? ⟨bw,0,none⟩=w.cell? ⟨bw,0,none⟩:=by apply World.cell?_setCell_other;simp
    refine ⟨by simp,⟨h1,by simpa [World.setCell] using h2,by rw [e0];exact c0,by simp;apply World.cell?_setCell_same;exact c1,by rw [World.frozen?_setCell];exact f0,by rw [World.frozen?_setCell];exact f1,?_,hle⟩,⟨rfl,rfl,rfl,by simp [World.setCell],fun np k1 k2 k3=>⟨?_,Below.heap_setCell _ _ _ _ (fun e=>k1 (by rw [e]))⟩⟩,fun hh=>absurd hh HF.out⟩
    · refine hW.own.kept (row:=some bw) ⟨rfl,rfl,rfl,by simp [World.setCell],fun k _ hne=>Below.heap_setCell _ _ _ _ (fun e=>hne (by rw [e]))⟩ ?_
      cases hv:Value.ownBlock (.slice q l.length cap) with
      | none=>exact Or.inl rfl
      | some k=>exact Or.inr (fun e=>by have:=hW.row_ne h1;rw [hv] at this;exact this e)
    · have:rowOf bw (w.setCell ⟨bw,1,none⟩ (.bool true))=rowOf bw w:=by unfold rowOf;rw [e0]
      rw [this];exact k3
 cases st with
 | none =>
   obtain ⟨v,l,H⟩:=h
   refine (main true v l H).mono fun e w' ⟨h1,h2,h3,h4⟩=>⟨by simpa [fitS] using h1,⟨v,l,by simpa using h2⟩,h3,fun hh=>by simp [fitS] at hh⟩
 | some l =>
   obtain ⟨v,H⟩:=h
   refine (main false v l H).mono fun e w' ⟨h1,h2,h3,h4⟩=>?_
   by_cases hf:l.length+n≤300
   · have hfs:fitS n (some l)=some l:=by simp [fitS,hf]
     rw [hfs]
     refine ⟨by simpa [hf] using h1,⟨v,by simpa [hf] using h2⟩,h3,fun _=>h4 hf⟩
   · have hfs:fitS n (some l)=none:=by simp [fitS,hf]
     rw [hfs]
     refine ⟨by simpa [hf] using h1,⟨v,l,by simpa [hf] using h2⟩,h3,fun hh=>by simp at hh⟩
theorem run_append_at_string {P:Program} (w:World) (base:Nat) (t u ty e:TypeId) (i:TypeInfo) (ht:P.underlying t=some (.slice e)) (hu:P.underlying u=some .string) (hi:P.info? e=some i) (hz:i.zero=some (.int .u8 0))
 (hsize:i.size=1) (hby:i.bytes=1) (v:Value) (n:Nat) (xs:List Value) (hown:w.ownsRow base e 1 v n xs) (s:ByteArray) (h63:n+s.size≤maxLen) (hbytes:n+s.size≤140737488355328) (hbase:base≤w.heap.size) :
 ∃ v' w',(Builtin.append_ #[t,u] ty #[v,.string s]).run P w=.ok v' w'∧w'.ownsRow base e 1 v' (n+s.size) (xs ++ Lib.strCells s)∧w.grownBy w' v.ownBlock∧(v'.ownBlock=v.ownBlock∨v'.ownBlock=some w.heap.size):=by
 obtain ⟨v',w',hr,h2,h3,h4⟩:=Lib.run_append_own_string (P:=P) w base t u ty e i ht hu hi hz hsize hby v n xs hown s h63 hbytes hbase
 refine ⟨v',w',hr,h2,h3,?_⟩
 have h63':n+s.size≤9223372036854775807:=by unfold maxLen at h63;omega
 have hxl:xs.length=n:=by simpa using hown.1
 rcases hown.2 with ⟨rfl,rfl⟩ | ⟨g,cap,cur,rfl,_,hg,_,_,hcs,_⟩
 · by_cases hm:s.size=0
   · left;rw [h4.2 ⟨rfl,hm⟩]
   · have hr2:=run_append_nil_string (P:=P) w t u ty e i (.int .u8 0) ht hu hi hz s (by omega) (by omega) (by rw [hby];omega)
     have e2:=hr.symm.trans hr2
     simp only [Result.ok.injEq] at e2
     right;rw [e2.1];rfl
 · by_cases hroom:n+s.size≤cap
   · have hr2:=Lib.run_append_room_string (P:=P) w t u ty e i ht hu hi hsize g n cap cur hg s hroom (by omega)
     have e2:=hr.symm.trans hr2
     simp only [Result.ok.injEq] at e2
     left;rw [e2.1];rfl
   · have holds:∀ j u,xs[j]?=some u→w.cell? ((⟨g,0,none⟩:Addr).add j)=some u:=hown.cells (g:=g) rfl
     have hr2:=Lib.run_append_grow_string (P:=P) w t u ty e i (.int .u8 0) ht hu hi hz ⟨g,0,none⟩ n cap xs (by rw [hsize];simpa using hxl) holds s (by omega) (by omega) (by rw [hby];exact growslice_fits (by omega) (by omega))
     have e2:=hr.symm.trans hr2
     simp only [Result.ok.injEq] at e2
     right;rw [e2.1];rfl
theorem wpList_append_at_string {P:Program} (w:World) {ops:Array Oper} {rest:List Oper} {o:Oper} {a:Act} {Q:Exit→Act→World→Prop} (hgd:o.guard=none) (sl x:Operand) (t u:TypeId)
 (ho:o.op=.call { callee:=.builtin .append,args:=#[sl,x],argTypes:=#[t,u] })
 (base:Nat) (e:TypeId) (i:TypeInfo) (ht:P.underlying t=some (.slice e)) (hu:P.underlying u=some .string) (hi:P.info? e=some i) (hz:i.zero=some (.int .u8 0))
 (hsize:i.size=1) (hby:i.bytes=1) (v:Value) (n:Nat) (xs:List Value) (hs:a.eval sl=v) (hown:w.ownsRow base e 1 v n xs) (s:ByteArray) (hx:a.eval x=.string s)
 (h63:n+s.size≤maxLen) (hbytes:n+s.size≤140737488355328) (hbase:base≤w.heap.size)
 (h:∀ v' w',w'.ownsRow base e 1 v' (n+s.size) (xs ++ Lib.strCells s)→w.grownBy w' v.ownBlock→(v'.ownBlock=v.ownBlock∨v'.ownBlock=some w.heap.size)→wpList P ops Q rest (a.put o.dst v') w'):wpList P ops Q (o :: rest) a w:=by
 refine wpList_plain hgd fun K hK=>?_
 obtain ⟨v',w',hr,h2,h3,h4⟩:=run_append_at_string (P:=P) w base t u o.type e i ht hu hi hz hsize hby v n xs hown s h63 hbytes hbase
 unfold Oper.wp execOp
 simp only [ho,resolve,invoke,builtin,Sem.run_bind,Sem.run_pure,Result.andThen_ok,List.map_toArray,List.map_cons,List.map_nil,hs,hx,hr]
 exact hK _ _ (h v' w' h2 h3 h4)
theorem sc_same {w:World} {a:Addr} {u v:Value} (h:w.cell? a=some u):(w.setCell a v).cell? a=some v:=by apply World.cell?_setCell_same;exact h
theorem sc_other {w:World} {a b:Addr} {v:Value} (h:a≠b):(w.setCell a v).cell? b=w.cell? b:=by apply World.cell?_setCell_other;exact h
theorem sc_frozen {w:World} {a b:Addr} {v:Value}:(w.setCell a v).frozen? b=w.frozen? b:=by apply World.frozen?_setCell
theorem Wr.mid {bw C:Nat} {w wa w2:World} {v:Value} {l:List UInt8} (h:Wr bw C w false v l) (ha:Below w.heap.size w wa) (hg:wa.grownBy w2 v.ownBlock) :
 w2.cell? ⟨bw,0,none⟩=some v∧w2.cell? ⟨bw,1,none⟩=some (.bool false)∧w2.frozen? ⟨bw,0,none⟩=false∧w2.frozen? ⟨bw,1,none⟩=false:=by
 have hlt:bw < w.heap.size:=Nat.lt_of_lt_of_le h.lt h.sz
 have hb:w2.heap[bw]?=w.heap[bw]?:=(hg.block bw (Nat.lt_of_lt_of_le hlt ha.size) (fun e=>h.row_ne h.lt e.symm)).trans (ha.block bw hlt)
 have k:∀ i,w2.cell? ⟨bw,i,none⟩=w.cell? ⟨bw,i,none⟩:=fun i=>World.cell?_of_block (w:=w) hb
 have f:∀ i,w2.frozen? ⟨bw,i,none⟩=w.frozen? ⟨bw,i,none⟩:=fun i=>World.frozen?_of_block (w:=w) hb
 exact ⟨by rw [k];exact h.c0,by rw [k];exact h.c1,by rw [f];exact h.f0,by rw [f];exact h.f1⟩
theorem Wr.put {bw C:Nat} {w wa w2:World} {v v':Value} {l l':List UInt8} (h:Wr bw C w false v l) (ha:Below w.heap.size w wa) (hg:wa.grownBy w2 v.ownBlock) (hown:w2.ownsRow C 5 1 v' l'.length (u8s l'))
 (hat:v'.ownBlock=v.ownBlock∨v'.ownBlock=some wa.heap.size) (hle:l'.length≤300):Wr bw C (w2.setCell ⟨bw,0,none⟩ v') false v' l'∧Kp bw w (w2.setCell ⟨bw,0,none⟩ v'):=by
 obtain ⟨k0,k1,g0,g1⟩:=h.mid ha hg
 have e0:(w2.setCell ⟨bw,0,none⟩ v').cell? ⟨bw,0,none⟩=some v':=sc_same k0
 have hsz:wa.heap.size≤(w2.setCell ⟨bw,0,none⟩ v').heap.size:=by simpa [World.setCell] using hg.size
 refine ⟨⟨h.lt,by have:=h.sz;have:=ha.size;omega,e0,by rw [sc_other (by simp)];exact k1,by rw [sc_frozen];exact g0,by rw [sc_frozen];exact g1,?_,hle⟩,hg.os.trans ha.os,hg.tape.trans ha.tape,hg.output.trans ha.output,by have:=ha.size;omega,fun np h1 h2 h3=>⟨?_,?_⟩⟩
 · refine hown.kept (row:=some bw) ⟨rfl,rfl,rfl,by simp [World.setCell],fun k _ hne=>Below.heap_setCell _ _ _ _ (fun e=>hne (by rw [e]))⟩ ?_
   cases hv:v'.ownBlock with
   | none=>exact Or.inl rfl
   | some k=>exact Or.inr (fun e=>by have h1:=(hown.lt k hv).1;have h2:=h.lt;simp only [Option.some.injEq] at e;omega)
 · rw [rowOf_eq e0]
   rcases hat with e | e
   · rw [e,← rowOf_eq h.c0];exact h3
   · rw [e];intro e;simp only [Option.some.injEq] at e;have:=ha.size;omega
 · rw [Below.heap_setCell _ _ _ _ (fun e=>h1 (by rw [e])),hg.block np (Nat.lt_of_lt_of_le h2 ha.size) (fun e=>h3 (by rw [rowOf_eq h.c0];exact e.symm)),ha.block np h2]
theorem fitS_none {x:List UInt8} {st:Option (List UInt8)} (h:fitS x.length st=none):wr x st=none:=by
 cases st with
 | none=>rfl
 | some l =>
   by_cases hn:l.length+x.length≤300
   · simp [fitS,hn] at h
   · simp [wr,hn]
theorem fitS_some {x l:List UInt8} {st:Option (List UInt8)} (h:fitS x.length st=some l):st=some l∧l.length+x.length≤300∧wr x st=some (l ++ x):=by
 cases st with
 | none=>cases h
 | some l =>
   unfold fitS at h
   simp only at h
   split at h
   · rename_i hn;cases h;exact ⟨rfl,hn,by simp [wr,hn]⟩
   · cases h
set_option maxHeartbeats 800000 in
theorem octet_any (bw C:Nat) (n:Int) (w:World) (st:Option (List UInt8)) (h:Ws bw C w st) :
 Calls Tryz.prog 113 #[.pointer (some ⟨bw,0,none⟩),.int .i64 n] w fun e w'=>e=.returned (.tuple #[])∧Ws bw C w' (wr [byt8 n] st)∧Kp bw w w':=by
 have cF:=hide (fits_any bw C 1 w st h)
 obtain ⟨i0,hi,hz0,hz1,hz2⟩:=info_parts infoB
 cases hfs:fitS 1 st with
 | none =>
   rw [hfs] at cF
   have hW:wr [byt8 n] st=none:=fitS_none hfs
   rw [hW]
   clear h hfs hW
   go_enter Tryz.func113,Tryz.ntmps113
   go_wp2_with fail
   refine (unhide cF).mono ?_
   rintro e w1 ⟨rfl,hS,hK,_⟩
   have HS:=hide hS
   clear hS
   simp only [Option.isSome_none]
   go_wp2
   go_end0
   exact ⟨rfl,HS.out,hK⟩
 | some l =>
   rw [hfs] at cF
   obtain ⟨rfl,hl,hW⟩:=fitS_some (x:=[byt8 n]) hfs
   rw [hW]
   clear hW hfs
   obtain ⟨v,hV⟩:=h
   have HV:=hide hV
   have c0:=hV.c0
   have f0:=hV.f0
   have hown:=hV.own
   have hsz:=hV.sz
   obtain ⟨q,cap,rfl⟩:=own_slice hown
   clear hV
   have hw8:=u8_wrap n
   go_enter Tryz.func113,Tryz.ntmps113
   go_wp2_with fail
   refine (unhide cF).mono ?_
   rintro e w1 ⟨rfl,_,_,hE⟩
   obtain rfl:=hE rfl
   simp only [Option.isSome_some]
   have hA:Below w1.heap.size w1 (w1.alloc (.cells #[.int .u8 ((byt8 n).toNat:Int)] 5)):=(Below.refl _ _).alloc (Nat.le_refl _) _
   have HA:=hide hA
   clear hA
   go_wp2_with (first
    | (at_builtin;refine wpList_append_own_at _ rfl _ _ 45 rfl C 5 i0 (.int .u8 0) 1 1 Tryz.underlying45 hi hz0 hz1 hz2 rfl (by decide) _ _ _ rfl (hown.alloc _) ⟨w1.heap.size,0,none⟩ 1 1 [.int .u8 ((byt8 n).toNat:Int)] rfl rfl ?c1 ?c2 ?c3 ?c4 ?c5 ?_))
   case c2=>rfl
   case c3=>unfold maxLen;omega
   case c4=>omega
   case c5=>omega
   intro v' w2 hown' hgrow _ hat
   have hown2:w2.ownsRow C 5 1 v' (l ++ [byt8 n]).length (u8s (l ++ [byt8 n])):=by rw [u8s_append,List.length_append];exact hown'
   have hat2:v'.ownBlock=(Value.slice q l.length cap).ownBlock∨v'.ownBlock=some (w1.alloc (.cells #[.int .u8 ((byt8 n).toNat:Int)] 5)).heap.size:=by simpa using hat
   have HP:=hide (HV.out.put HA.out hgrow hown2 hat2 (by simpa using hl))
   obtain ⟨k0,_,g0,_⟩:=HV.out.mid HA.out hgrow
   obtain ⟨q',cap',rfl⟩:=own_slice hown'
   clear hown' hgrow hat hown2 hat2 c0 f0
   go_wp2
   go_end0
   exact ⟨rfl,⟨_,HP.out.1⟩,HP.out.2⟩
theorem strC (s:ByteArray):Lib.strCells s=u8s s.data.toList:=by unfold Lib.strCells u8s;simp
set_option maxHeartbeats 800000 in
theorem bytes_any (bw C:Nat) (s:ByteArray) (w:World) (st:Option (List UInt8)) (h:Ws bw C w st) :
 Calls Tryz.prog 149 #[.pointer (some ⟨bw,0,none⟩),.string s] w fun e w'=>e=.returned (.tuple #[])∧Ws bw C w' (wr s.data.toList st)∧Kp bw w w':=by
 have hsl:s.data.toList.length=s.size:=(Lib.size_eq s).symm
 have cF:=hide (fits_any bw C s.size w st h)
 obtain ⟨i0,hi,hz0,hz1,hz2⟩:=info_parts infoB
 cases hfs:fitS s.size st with
 | none =>
   rw [hfs] at cF
   have hW:wr s.data.toList st=none:=fitS_none (by rw [hsl];exact hfs)
   rw [hW]
   clear h hfs hW hsl
   go_enter Tryz.func149,Tryz.ntmps149
   go_wp2_with fail
   refine (unhide cF).mono ?_
   rintro e w1 ⟨rfl,hS,hK,_⟩
   have HS:=hide hS
   clear hS
   simp only [Option.isSome_none]
   go_wp2
   go_end0
   exact ⟨rfl,HS.out,hK⟩
 | some l =>
   rw [hfs] at cF
   obtain ⟨rfl,hl,hW⟩:=fitS_some (x:=s.data.toList) (by rw [hsl];exact hfs)
   rw [hW]
   clear hW hfs
   obtain ⟨v,hV⟩:=h
   have HV:=hide hV
   have c0:=hV.c0
   have f0:=hV.f0
   have hown:=hV.own
   have hsz:=hV.sz
   obtain ⟨q,cap,rfl⟩:=own_slice hown
   rw [hsl] at hl
   have HSL:=hide hsl
   clear hV hsl
   go_enter Tryz.func149,Tryz.ntmps149
   go_wp2_with fail
   refine (unhide cF).mono ?_
   rintro e w1 ⟨rfl,_,_,hE⟩
   obtain rfl:=hE rfl
   simp only [Option.isSome_some]
   go_wp2_with (first
    | (at_builtin;refine wpList_append_at_string _ rfl _ _ 45 9 rfl C 5 i0 Tryz.underlying45 Tryz.underlying9 hi hz0 hz1 hz2 _ _ _ rfl hown s rfl ?c3 ?c4 ?c5 ?_))
   case c3=>unfold maxLen;omega
   case c4=>omega
   intro v' w2 hown' hgrow hat
   have hown2:w2.ownsRow C 5 1 v' (l ++ s.data.toList).length (u8s (l ++ s.data.toList)):=by rw [u8s_append,List.length_append,HSL.out,← strC];exact hown'
   have HP:=hide (HV.out.put (Below.refl _ _) hgrow hown2 hat (by rw [List.length_append,HSL.out];exact hl))
   obtain ⟨k0,_,g0,_⟩:=HV.out.mid (Below.refl _ _) hgrow
   obtain ⟨q',cap',rfl⟩:=own_slice hown'
   clear hown' hgrow hat hown2 c0 f0
   go_wp2
   go_end0
   exact ⟨rfl,⟨_,HP.out.1⟩,HP.out.2⟩
set_option maxHeartbeats 800000 in
theorem number_any (bw C:Nat) (n:Int) (w:World) (st:Option (List UInt8)) (h:Ws bw C w st) :
 Calls Tryz.prog 116 #[.pointer (some ⟨bw,0,none⟩),.int .i64 n] w fun e w'=>e=.returned (.tuple #[])∧Ws bw C w' (wr (twoW n) st)∧Kp bw w w':=by
 have e2:wr (twoW n) st=wr [byt8 n] (wr [byt8 (n / 256)] st):=by rw [wr_wr];rfl
 have c1:=hide (octet_any bw C (n / 256) w st h)
 have c2:=hide fun w h=>octet_any bw C n w (wr [byt8 (n / 256)] st) h
 rw [e2]
 clear h e2
 generalize wr [byt8 (n / 256)] st=st1 at *
 go_enter Tryz.func116,Tryz.ntmps116
 go_wp2_with fail
 refine (unhide c1).mono ?_
 rintro e w1 ⟨rfl,hS,hK⟩
 have HS:=hide hS
 have HK:=hide hK
 clear hS hK
 go_wp2_with fail
 refine (unhide c2 _ HS.out).mono ?_
 rintro e w2 ⟨rfl,hS,hK⟩
 have HS2:=hide hS
 have HK2:=hide hK
 clear hS hK
 go_wp2
 go_end0
 exact ⟨rfl,HS2.out,HK.out.trans HK2.out⟩
set_option maxHeartbeats 800000 in
theorem text_any (bw C:Nat) (s:ByteArray) (w:World) (st:Option (List UInt8)) (h:Ws bw C w st) :
 Calls Tryz.prog 147 #[.pointer (some ⟨bw,0,none⟩),.string s] w fun e w'=>e=.returned (.tuple #[])∧Ws bw C w' (wr (txtW s.data.toList) st)∧Kp bw w w':=by
 have hsl:s.data.toList.length=s.size:=(Lib.size_eq s).symm
 have e2:wr (txtW s.data.toList) st=wr s.data.toList (wr (twoW s.size) st):=by rw [wr_wr];unfold txtW;rw [hsl]
 have c1:=hide (number_any bw C s.size w st h)
 have c2:=hide fun w h=>bytes_any bw C s w (wr (twoW s.size) st) h
 rw [e2]
 clear h e2 hsl
 generalize wr (twoW s.size) st=st1 at *
 go_enter Tryz.func147,Tryz.ntmps147
 go_wp2_with fail
 refine (unhide c1).mono ?_
 rintro e w1 ⟨rfl,hS,hK⟩
 have HS:=hide hS
 have HK:=hide hK
 clear hS hK
 go_wp2_with fail
 refine (unhide c2 _ HS.out).mono ?_
 rintro e w2 ⟨rfl,hS,hK⟩
 have HS2:=hide hS
 have HK2:=hide hK
 clear hS hK
 go_wp2
 go_end0
 exact ⟨rfl,HS2.out,HK.out.trans HK2.out⟩
set_option maxHeartbeats 400000 in
theorem bit_any (b:Bool) (n:Int) (w:World):Calls Tryz.prog 114 #[.bool b,.int .i64 n] w fun e w'=>e=.returned (.int .i64 (bitI b n))∧w'=w:=by
 unfold bitI
 cases b
 · go_enter Tryz.func114,Tryz.ntmps114
   go_wp2
   go_ret
   exact ⟨rfl,rfl⟩
 · go_enter Tryz.func114,Tryz.ntmps114
   go_wp2
   go_ret
   exact ⟨rfl,rfl⟩
end ew
namespace ew
open Go.RowKit topPlain topWalks decPlain encPlain
open rd (pkCells)
def FilB (B:Nat) (w:World) (v:Value) (fs:List (List UInt8×Int)):Prop:=∃ q cap,v=.slice q fs.length cap∧fs.length≤maxLen∧∀ (j:Nat) f,fs[j]?=some f→∃ g o,q=some ⟨g,o,none⟩∧g < B∧w.cell? ⟨g,o+j*2,none⟩=some (.string (bs f.1))∧w.cell? ⟨g,o+j*2+1,none⟩=some (.int .i64 f.2)
def IntB (B:Nat) (w:World) (v:Value) (cs:List Int):Prop:=∃ q cap,v=.slice q cs.length cap∧cs.length≤maxLen∧∀ (j:Nat) c,cs[j]?=some c→∃ g o,q=some ⟨g,o,none⟩∧g < B∧w.cell? ⟨g,o+j,none⟩=some (.int .i64 c)
theorem Ws.lt {bw C:Nat} {w:World} {st:Option (List UInt8)} (h:Ws bw C w st):bw < C∧C≤w.heap.size:=by
 cases st with
 | none=>obtain ⟨v,l,h⟩:=h;exact ⟨h.lt,h.sz⟩
 | some l=>obtain ⟨v,h⟩:=h;exact ⟨h.lt,h.sz⟩
theorem Ws.cell {bw C:Nat} {w w':World} {st:Option (List UInt8)} (h:Ws bw C w st) (k:Kp bw w w') {g:Nat} (hg:g < bw) (i:Nat):w'.cell? ⟨g,i,none⟩=w.cell? ⟨g,i,none⟩:=by
 have hl:=h.lt
 exact World.cell?_of_block (w:=w) (k.keep g (by omega) (by omega) (h.row_lt (Or.inl (by omega)))).2
theorem Ws.beside {bw C:Nat} {w:World} {st:Option (List UInt8)} (h:Ws bw C w st) (o:Obj):Ws bw C (w.alloc o) st∧Kp bw w (w.alloc o)∧rowOf bw (w.alloc o)≠some w.heap.size:=by
 have hg:=h.grow ((Below.refl _ _).alloc (Nat.le_refl _) o)
 refine ⟨hg.1,hg.2,?_⟩
 have hlt:=h.lt
 have:rowOf bw (w.alloc o)=rowOf bw w:=by
  unfold rowOf
  rw [(show Below w.heap.size w (w.alloc o) from (Below.refl _ _).alloc (Nat.le_refl _) o).cell (show (⟨bw,0,none⟩:Addr).block < w.heap.size by simp;omega)]
 rw [this]
 exact h.row_lt (Or.inr (Nat.le_refl _))
theorem Kp.pk {bw np:Nat} {w w':World} (k:Kp bw w w') (h1:np≠bw) (h2:np < w.heap.size) (h3:rowOf bw w≠some np):rowOf bw w'≠some np∧(∀ i,w'.cell? ⟨np,i,none⟩=w.cell? ⟨np,i,none⟩):=
 ⟨(k.keep np h1 h2 h3).1,fun _=>World.cell?_of_block (w:=w) (k.keep np h1 h2 h3).2⟩
theorem map_take {cs:List Int} {k:Nat} {c:Int} (h:cs[k]?=some c):(cs.take (k+1)).map byt8=(cs.take k).map byt8 ++ [byt8 c]:=by
 rw [List.take_add_one,h];simp
set_option maxHeartbeats 1600000 in
set_option maxRecDepth 100000 in
theorem codes_any (bw C:Nat) (p:Pkt) (cs:List Int) (w:World) (st:Option (List UInt8)) (h:Ws bw C w st) (hc:IntB bw w p.cv cs) :
 Calls Tryz.prog 118 #[.pointer (some ⟨bw,0,none⟩),.agg (pkCells p)] w fun e w'=>e=.returned (.tuple #[])∧Ws bw C w' (wr (twoW p.id ++ cs.map byt8) st)∧Kp bw w w':=by
 obtain ⟨q,cap,hcv,hlen,hcell⟩:=hc
 have HC:=hide hcell
 have HS0:=hide h
 have c1:=hide fun w h=>number_any bw C p.id w st h
 have c2:=hide fun n w st h=>octet_any bw C n w st h
 unfold maxLen at hlen
 obtain ⟨kind,clean,will,keep,client,present,code,dup,qos,retain,topic,payload,id,fv,cv⟩:=p
 simp only at hcv c1 ⊢
 subst hcv
 simp only [pkCells]
 have HB:=hide (fun o=>h.beside o)
 have hlt:=h.lt
 clear h hcell
 go_enter Tryz.func118,Tryz.ntmps118
 go_wp2_with fail
 refine (unhide c1 _ (HB.out _).1).mono ?_
 rintro e w1 ⟨rfl,hS,hK⟩
 have HS:=hide hS
 have HK:=hide ((HB.out _).2.1.trans hK)
 have hcp:=hK.pk (np:=w.heap.size) (by omega) (by simp) (HB.out _).2.2
 have k14:=hcp.2 14
 simp [go_sem] at k14
 clear hS hK hcp
 go_wp2_with fail
 go_loopw [13] (fun i wx=>∃ (k:Nat),k≤cs.length∧i=.int .i64 k∧Ws bw C wx (wr (twoW id ++ (cs.take k).map byt8) st)∧Kp bw w wx) (fun i _=>cs.length - (intOf i).toNat)
 case atStart=>exact ⟨0,Nat.zero_le _,rfl,by simpa using HS.out,HK.out⟩
 case round =>
  obtain ⟨k,hk,rfl,hS,hK⟩:=hrel
  have HSk:=hide hS
  have HKk:=hide hK
  clear hS hK
  by_cases hltk:k < cs.length
  · obtain ⟨c,hcc⟩:∃ c,cs[k]?=some c:=⟨_,List.getElem?_eq_getElem hltk⟩
    obtain ⟨g,o,rfl,hg1,hg2⟩:=HC.out k c hcc
    have hg3:wr.cell? ⟨g,o+k,none⟩=some (.int .i64 c):=by rw [HS0.out.cell HKk.out hg1];exact hg2
    have HCC:=hide hcc
    clear hcc
    go_wp2_with fail
    refine (unhide c2 _ _ _ HSk.out).mono ?_
    rintro e w2 ⟨rfl,hS,hK⟩
    have HS2:=hide hS
    have HK2:=hide (HKk.out.trans hK)
    clear hS hK
    go_wp2
    go_roundw
    case rel=>exact ⟨k+1,by omega,by go_num,by rw [map_take HCC.out,← List.append_assoc,← ew.wr_wr];exact HS2.out,HK2.out⟩
    case measure=>simp [intOf];omega
  · go_wp2
    go_end0
    have:cs.take k=cs:=List.take_of_length_le (by omega)
    exact ⟨rfl,by have h:=HSk.out;rw [this] at h;exact h,HKk.out⟩
theorem flat_take {k8:Bool} {fs:List (List UInt8×Int)} {k:Nat} {f:List UInt8×Int} (h:fs[k]?=some f):(fs.take (k+1)).flatMap (filW k8)=(fs.take k).flatMap (filW k8) ++ filW k8 f:=by
 rw [List.take_add_one,h];simp
set_option maxHeartbeats 1600000 in
set_option maxRecDepth 100000 in
theorem filters_any (bw C:Nat) (p:Pkt) (fs:List (List UInt8×Int)) (w:World) (st:Option (List UInt8)) (h:Ws bw C w st) (hc:FilB bw w p.fv fs) :
 Calls Tryz.prog 117 #[.pointer (some ⟨bw,0,none⟩),.agg (pkCells p)] w fun e w'=>e=.returned (.tuple #[])∧Ws bw C w' (ew.wr (twoW p.id ++ fs.flatMap (filW (p.kind == 8))) st)∧Kp bw w w':=by
 obtain ⟨q,cap,hcv,hlen,hcell⟩:=hc
 have HC:=hide hcell
 have HS0:=hide h
 have c1:=hide fun w h=>number_any bw C p.id w st h
 have c2:=hide fun n w st h=>octet_any bw C n w st h
 have c3:=hide fun n w st h=>text_any bw C n w st h
 unfold maxLen at hlen
 obtain ⟨kind,clean,will,keep,client,present,code,dup,qos,retain,topic,payload,id,fv,cv⟩:=p
 simp only at hcv c1 ⊢
 subst hcv
 simp only [pkCells]
 have HB:=hide (fun o=>h.beside o)
 have hlt:=h.lt
 clear h hcell
 go_enter Tryz.func117,Tryz.ntmps117
 go_wp2_with fail
 refine (unhide c1 _ (HB.out _).1).mono ?_
 rintro e w1 ⟨rfl,hS,hK⟩
 have HS:=hide hS
 have HK:=hide ((HB.out _).2.1.trans hK)
 have hcp:=hK.pk (np:=w.heap.size) (by omega) (by simp) (HB.out _).2.2
 have hrow:=hide hcp.1
 have k13:=hcp.2 13
 have k0:=hcp.2 0
 simp [go_sem] at k13 k0
 clear hcp
 have hsz1:=hK.size
 have HK1:=hide (Kp.refl bw w1)
 clear hS hK
 go_wp2_with fail
 go_loopw [13] (fun i wx=>∃ (k:Nat),k≤fs.length∧i=.int .i64 k∧Ws bw C wx (ew.wr (twoW id ++ (fs.take k).flatMap (filW (kind == 8))) st)∧Kp bw w wx∧Kp bw w1 wx) (fun i _=>fs.length - (intOf i).toNat)
 case atStart=>exact ⟨0,Nat.zero_le _,rfl,by simpa using HS.out,HK.out,HK1.out⟩
 case round =>
  obtain ⟨k,hk,rfl,hS,hK,hK1⟩:=hrel
  have HSk:=hide hS
  have HKk:=hide hK
  have HK1k:=hide hK1
  have hk0:wr.cell? ⟨w.heap.size,0,none⟩=some (.int .i64 kind):=by rw [(hK1.pk (by omega) (by simp at hsz1;omega) hrow.out).2 0];exact k0
  have HRk:=hide ((hK1.pk (by omega) (by simp at hsz1;omega) hrow.out).1)
  have hszk:=hK1.size
  clear hS hK hK1
  by_cases hltk:k < fs.length
  · obtain ⟨c,hcc⟩:∃ c,fs[k]?=some c:=⟨_,List.getElem?_eq_getElem hltk⟩
    obtain ⟨g,o,rfl,hg1,hg2,hg4⟩:=HC.out k c hcc
    have hg3:wr.cell? ⟨g,o+k*2,none⟩=some (.string (bs c.1)):=by rw [HS0.out.cell HKk.out hg1];exact hg2
    have hg5:wr.cell? ⟨g,o+k*2+1,none⟩=some (.int .i64 c.2):=by rw [HS0.out.cell HKk.out hg1];exact hg4
    have HCC:=hide hcc
    clear hcc hg2 hg4
    have HBk:=hide (fun o=>HSk.out.beside o)
    have HA:Hid (Below wr.heap.size wr (wr.alloc (.cells #[.string (bs c.1),.int .i64 c.2] 95))):=(Below.refl _ _).alloc (Nat.le_refl _) _
    by_cases h8:kind=8
    · have h8b:(kind == 8)=true:=beq_iff_eq.2 h8
      clear h8
      go_wp2_with fail
      refine (unhide c3 _ _ _ (HBk.out _).1).mono ?_
      rintro e w2 ⟨rfl,hS,hK⟩
      have hf:=hK.pk (np:=wr.heap.size) (by have:=HSk.out.lt;omega) (by simp) (HBk.out _).2.2
      have k1:=hf.2 1
      simp [go_sem] at k1
      have HS2:=hide hS
      have HK2:=hide (HKk.out.trans ((HBk.out _).2.1.trans hK))
      have HK12:=hide (HK1k.out.trans ((HBk.out _).2.1.trans hK))
      have hk02:w2.cell? ⟨w.heap.size,0,none⟩=some (.int .i64 kind):=by rw [(HK12.out.pk (by omega) (by simp at hsz1;omega) hrow.out).2 0];exact k0
      clear hS hK hf
      go_wp2_with fail
      refine (unhide c2 _ _ _ HS2.out).mono ?_
      rintro e w3 ⟨rfl,hS,hK⟩
      have HS3:=hide hS
      have HK3:=hide (HK2.out.trans hK)
      have HK13:=hide (HK12.out.trans hK)
      clear hS hK
      go_wp2
      go_roundw
      case rel =>
       refine ⟨k+1,by omega,by go_num,?_,HK3.out,HK13.out⟩
       rw [flat_take HCC.out,← List.append_assoc,← ew.wr_wr]
       have h:=HS3.out
       rw [ew.wr_wr] at h
       rw [h8b] at h ⊢
       exact h
      case measure=>simp [intOf];omega
    · have h8b:(kind == 8)=false:=beq_eq_false_iff_ne.2 h8
      go_wp2_with fail
      refine (unhide c3 _ _ _ (HBk.out _).1).mono ?_
      rintro e w2 ⟨rfl,hS,hK⟩
      have HS2:=hide hS
      have HK2:=hide (HKk.out.trans ((HBk.out _).2.1.trans hK))
      have HK12:=hide (HK1k.out.trans ((HBk.out _).2.1.trans hK))
      have hk02:w2.cell? ⟨w.heap.size,0,none⟩=some (.int .i64 kind):=by rw [(HK12.out.pk (by omega) (by simp at hsz1;omega) hrow.out).2 0];exact k0
      clear hS hK
      go_wp2
      go_roundw
      case rel =>
       refine ⟨k+1,by omega,by go_num,?_,HK2.out,HK12.out⟩
       rw [flat_take HCC.out,← List.append_assoc,← ew.wr_wr]
       have h:=HS2.out
       rw [h8b] at h ⊢
       simpa [filW,data_bs] using h
      case measure=>simp [intOf];omega
  · go_wp2
    go_end0
    have:fs.take k=fs:=List.take_of_length_le (by omega)
    exact ⟨rfl,by have h:=HSk.out;rw [this] at h;exact h,HKk.out⟩
set_option maxHeartbeats 1600000 in
set_option maxRecDepth 100000 in
theorem publish_any (bw C:Nat) (p:Pkt) (w:World) (st:Option (List UInt8)) (h:Ws bw C w st) :
 Calls Tryz.prog 115 #[.pointer (some ⟨bw,0,none⟩),.agg (pkCells p)] w fun e w'=>e=.returned (.tuple #[])∧Ws bw C w' (ew.wr (txtW p.topic ++ (if 0 < p.qos then twoW p.id else []) ++ p.payload) st)∧Kp bw w w':=by
 have c1:=hide fun w st h=>number_any bw C p.id w st h
 have c2:=hide fun w st h=>bytes_any bw C (bs p.payload) w st h
 have c3:=hide fun w st h=>text_any bw C (bs p.topic) w st h
 obtain ⟨kind,clean,will,keep,client,present,code,dup,qos,retain,topic,payload,id,fv,cv⟩:=p
 simp only [data_bs] at c1 c2 c3 ⊢
 simp only [pkCells]
 have HB:=hide (fun o=>h.beside o)
 have hlt:=h.lt
 clear h
 by_cases hq:0 < qos
 · rw [if_pos hq,← ew.wr_wr,← ew.wr_wr]
   go_enter Tryz.func115,Tryz.ntmps115
   go_wp2_with fail
   refine (unhide c3 _ _ (HB.out _).1).mono ?_
   rintro e w1 ⟨rfl,hS,hK⟩
   have HS:=hide hS
   have hcp:=hK.pk (np:=w.heap.size) (by omega) (by simp) (HB.out _).2.2
   have HK:=hide hK
   have hsz1:=hK.size
   have hrow:=hide hcp.1
   have k8:=hcp.2 8
   have k12:=hcp.2 12
   have k11:=hcp.2 11
   simp [go_sem] at k8 k12 k11
   clear hcp hS hK
   go_wp2_with fail
   refine (unhide c1 _ _ HS.out).mono ?_
   rintro e w2 ⟨rfl,hS,hK⟩
   have HS2:=hide hS
   have HK2:=hide (HK.out.trans hK)
   have hcp:=hK.pk (np:=w.heap.size) (by omega) (by simp at hsz1;omega) hrow.out
   have j11:=hcp.2 11
   rw [k11] at j11
   clear hcp hS hK k8 k12 k11
   go_wp2_with fail
   refine (unhide c2 _ _ HS2.out).mono ?_
   rintro e w3 ⟨rfl,hS,hK⟩
   have HS3:=hide hS
   have HK3:=hide ((HB.out _).2.1.trans (HK2.out.trans hK))
   clear hS hK
   go_wp2
   go_end0
   exact ⟨rfl,HS3.out,HK3.out⟩
 · rw [if_neg hq,List.append_nil,← ew.wr_wr]
   go_enter Tryz.func115,Tryz.ntmps115
   go_wp2_with fail
   refine (unhide c3 _ _ (HB.out _).1).mono ?_
   rintro e w1 ⟨rfl,hS,hK⟩
   have HS:=hide hS
   have hcp:=hK.pk (np:=w.heap.size) (by omega) (by simp) (HB.out _).2.2
   have HK:=hide hK
   have k8:=hcp.2 8
   have k11:=hcp.2 11
   simp [go_sem] at k8 k11
   clear hcp hS hK
   go_wp2_with fail
   refine (unhide c2 _ _ HS.out).mono ?_
   rintro e w3 ⟨rfl,hS,hK⟩
   have HS3:=hide hS
   have HK3:=hide ((HB.out _).2.1.trans (HK.out.trans hK))
   clear hS hK
   go_wp2
   go_end0
   exact ⟨rfl,HS3.out,HK3.out⟩
theorem wp_region_tail {P:Program} {id:Nat} {Q:Exit→Act→World→Prop} {a:Act} {w:World} {l:List Oper} (n:Nat) (hm:P.follows .mixedOrders=true) (hB:Region.lexTailB .any l.toArray n=true)
 (h:wpStill P l.toArray w.drew (fun a'=>wpList P l.toArray Q (l.drop n) a' w.drew) (l.take n) a):(Code.region id l.toArray true).wp P Q a w:=wp_region_still_tail n hm hB h
def cbI (p:Pkt):Int:=bits .or .i64 (bits .or .i64 (bits .or .i64 (wrap64 (p.qos*8)) (bitI p.clean 2)) (bitI p.will 4)) (bitI p.retain 32)
def cbW (p:Pkt):UInt8:=byt8 (cbI p)
set_option maxHeartbeats 1600000 in
set_option maxRecDepth 100000 in
theorem connect_any (bw C:Nat) (p:Pkt) (w:World) (st:Option (List UInt8)) (h:Ws bw C w st) :
 Calls Tryz.prog 112 #[.pointer (some ⟨bw,0,none⟩),.agg (pkCells p)] w fun e w'=>e=.returned (.tuple #[])∧Ws bw C w' (wr (txtW [77,81,84,84] ++ [byt8 4] ++ [cbW p] ++ twoW p.keep ++ txtW p.client ++ (if p.will then txtW p.topic ++ txtW p.payload else [])) st)∧Kp bw w w':=by
 have c0:=hide fun b n w=>bit_any b n w
 have c1:=hide fun w st h=>number_any bw C p.keep w st h
 have c2:=hide fun n w st h=>octet_any bw C n w st h
 have c3:=hide fun s w st h=>text_any bw C s w st h
 obtain ⟨kind,clean,will,keep,client,present,code,dup,qos,retain,topic,payload,id,fv,cv⟩:=p
 simp only [cbW,cbI] at c1 ⊢
 simp only [pkCells]
 have HB:=hide (fun o=>h.beside o)
 have hlt:=h.lt
 clear h
 go_enter Tryz.func112,Tryz.ntmps112
 go_wp2_with fail
 refine (unhide c3 _ _ _ (HB.out _).1).mono ?_
 rintro e w1 ⟨rfl,hS,hK⟩
 have HS:=hide hS
 have HK:=hide hK
 clear hS hK
 go_wp2_with fail
 refine (unhide c2 _ _ _ HS.out).mono ?_
 rintro e w2 ⟨rfl,hS,hK⟩
 have HS2:=hide hS
 have HK2:=hide (HK.out.trans hK)
 have hcp:=HK2.out.pk (np:=w.heap.size) (by omega) (by simp) (HB.out _).2.2
 have k8:=hcp.2 8
 have k1:=hcp.2 1
 have k2:=hcp.2 2
 have k9:=hcp.2 9
 simp [go_sem] at k8 k1 k2 k9
 clear hS hK hcp
 go_wp2_with fail
 refine wp_region_tail 16 (by kernel_rfl) (by kernel_rfl) ?_
 simp only [List.take_succ_cons,List.take_zero,List.drop_succ_cons,List.drop_zero]
 repeat (first | still_step | still_call (unhide c0 _ _ _))
 refine wpStill_nil ?_
 have hG:=HS2.out.grow (below_drewN (Below.refl _ _) 1)
 have HGS:=hide hG.1
 have HGK:=hide hG.2
 clear hG
 go_wp2_with fail
 refine (unhide c2 _ _ _ HGS.out).mono ?_
 rintro e w3 ⟨rfl,hS,hK⟩
 have HS3:=hide hS
 have HK3:=hide (HK2.out.trans (HGK.out.trans hK))
 have hcp:=HK3.out.pk (np:=w.heap.size) (by omega) (by simp) (HB.out _).2.2
 have j3:=hcp.2 3
 simp [go_sem] at j3
 clear hS hK hcp k8 k1 k2 k9
 go_wp2_with fail
 refine (unhide c1 _ _ HS3.out).mono ?_
 rintro e w4 ⟨rfl,hS,hK⟩
 have HS4:=hide hS
 have HK4:=hide (HK3.out.trans hK)
 have hcp:=HK4.out.pk (np:=w.heap.size) (by omega) (by simp) (HB.out _).2.2
 have j4:=hcp.2 4
 simp [go_sem] at j4
 clear hS hK hcp j3
 go_wp2_with fail
 refine (unhide c3 _ _ _ HS4.out).mono ?_
 rintro e w5 ⟨rfl,hS,hK⟩
 have HS5:=hide hS
 have HK5:=hide (HK4.out.trans hK)
 have hcp:=HK5.out.pk (np:=w.heap.size) (by omega) (by simp) (HB.out _).2.2
 have j2:=hcp.2 2
 have j10:=hcp.2 10
 simp [go_sem] at j2 j10
 clear hS hK hcp j4
 cases will with
 | false =>
   go_wp2
   go_end0
   refine ⟨rfl,?_,(HB.out _).2.1.trans HK5.out⟩
   have h:=HS5.out
   simp only [ew.wr_wr,data_bs] at h
   simpa using h
 | true =>
   go_wp2_with fail
   refine (unhide c3 _ _ _ HS5.out).mono ?_
   rintro e w6 ⟨rfl,hS,hK⟩
   have HS6:=hide hS
   have HK6:=hide (HK5.out.trans hK)
   have hcp:=HK6.out.pk (np:=w.heap.size) (by omega) (by simp) (HB.out _).2.2
   have j11:=hcp.2 11
   simp [go_sem] at j11
   clear hS hK hcp j2 j10
   go_wp2_with fail
   refine (unhide c3 _ _ _ HS6.out).mono ?_
   rintro e w7 ⟨rfl,hS,hK⟩
   have HS7:=hide hS
   have HK7:=hide (HK6.out.trans hK)
   clear hS hK j11
   go_wp2
   go_end0
   refine ⟨rfl,?_,(HB.out _).2.1.trans HK7.out⟩
   have h:=HS7.out
   simp only [ew.wr_wr,data_bs] at h
   simpa using h
end ew
namespace ew
open Go.RowKit topPlain topWalks decPlain encPlain
theorem or128:∀ x:Fin 301,bits .or .u8 (((byt8 (x.val:Int)).toNat:Nat):Int) 128=(((byt8 ((x.val % 128+128:Nat):Int)).toNat:Nat):Int):=by decide +kernel
set_option maxHeartbeats 1600000 in
set_option maxRecDepth 100000 in
theorem length_any (n:Nat) (w:World) (hn:n≤300) :
 Calls Tryz.prog 82 #[.int .i64 (n:Int)] w fun e w'=>∃ v,e=.returned v∧w'.ownsRow w.heap.size 5 1 v (lenW n).length (u8s (lenW n))∧Below w.heap.size w w':=by
 obtain ⟨i0,hi,hz0,hz1,hz2⟩:=info_parts infoB
 have hnil:=World.ownsRow_nil w w.heap.size 5 1
 by_cases h:n < 128
 · have hd:¬ ((128:Int)≤(n:Int)):=by omega
   have hw8:=u8_wrap (n:Int)
   rw [show lenW n = [byt8 n] by unfold lenW;rw [if_pos h]]
   go_enter Tryz.func82,Tryz.ntmps82
   go_wp2_with fail
   refine wp_loop_rounds 1 ?_
   rw [rounds_succ]
   go_wp2_with (first
    | (at_builtin;refine wpList_append_own_at _ rfl _ _ 45 rfl w.heap.size 5 i0 (.int .u8 0) 1 1 Tryz.underlying45 hi hz0 hz1 hz2 rfl (by decide) _ _ _ rfl (hnil.alloc _) ⟨w.heap.size,0,none⟩ 1 1 [.int .u8 ((byt8 n).toNat:Int)] rfl rfl (cell_one_new _ _ _) ?c2 ?c3 ?c4 ?c5 ?_))
   case c2=>intro u hu;simp only [List.mem_singleton] at hu;subst hu;rfl
   case c3=>unfold maxLen;omega
   case c4=>omega
   case c5=>simp
   intro v' w2 hown' hgrow _ _
   have HO:=hide hown'
   have HB:Hid (Below w.heap.size w w2):=((Below.refl _ _).alloc (Nat.le_refl _) _).trans ⟨hgrow.os,hgrow.tape,hgrow.output,hgrow.size,fun k hk=>hgrow.block k (by simp;omega) (by simp [Value.ownBlock])⟩
   obtain ⟨q',cap',rfl⟩:=own_slice hown'
   clear hown' hgrow
   go_wp2
   go_ret
   exact ⟨_,rfl,HO.out,HB.out⟩
 · have hd:((128:Int)≤(n:Int)):=by omega
   have hd2:((n:Int) / 128 < 128):=by omega
   have hw8:=u8_wrap (n:Int)
   have ho:=or128 ⟨n,by omega⟩
   simp only at ho
   have hw9:IntKind.u8.wrap ((n:Int) / 128)=((byt8 ((n / 128:Nat):Int)).toNat:Int):=by rw [u8_wrap,show (n:Int) / 128=((n / 128:Nat):Int) by omega]
   rw [show lenW n = [byt8 (n % 128+128:Nat),byt8 (n / 128:Nat)] by unfold lenW;rw [if_neg h]]
   generalize byt8 ((n % 128+128:Nat):Int)=x at *
   generalize byt8 ((n / 128:Nat):Int)=y at *
   go_enter Tryz.func82,Tryz.ntmps82
   go_wp2_with fail
   refine wp_loop_rounds 2 ?_
   rw [rounds_succ]
   go_wp2_with (first
    | (at_builtin;refine wpList_append_own_at _ rfl _ _ 45 rfl w.heap.size 5 i0 (.int .u8 0) 1 1 Tryz.underlying45 hi hz0 hz1 hz2 rfl (by decide) _ _ _ rfl (hnil.alloc _) ⟨w.heap.size,0,none⟩ 1 1 [.int .u8 (x.toNat:Int)] rfl rfl (cell_one_new _ _ _) ?c2 ?c3 ?c4 ?c5 ?_))
   case c2=>intro u hu;simp only [List.mem_singleton] at hu;subst hu;rfl
   case c3=>unfold maxLen;omega
   case c4=>omega
   case c5=>simp
   intro v' w2 hown' hgrow _ _
   have hown:=hown'
   have HB:Hid (Below w.heap.size w w2):=((Below.refl _ _).alloc (Nat.le_refl _) _).trans ⟨hgrow.os,hgrow.tape,hgrow.output,hgrow.size,fun k hk=>hgrow.block k (by simp;omega) (by simp [Value.ownBlock])⟩
   obtain ⟨q',cap',rfl⟩:=own_slice hown'
   clear hown' hgrow
   go_wp2_with fail
   rw [rounds_succ]
   have hsz:=HB.out.size
   go_wp2_with (first
    | (at_builtin;refine wpList_append_own_at _ rfl _ _ 45 rfl w.heap.size 5 i0 (.int .u8 0) 1 1 Tryz.underlying45 hi hz0 hz1 hz2 rfl (by decide) _ _ _ rfl (hown.alloc _) ⟨w2.heap.size,0,none⟩ 1 1 [.int .u8 (y.toNat:Int)] rfl rfl (cell_one_new _ _ _) ?c2 ?c3 ?c4 ?c5 ?_))
   case c2=>intro u hu;simp only [List.mem_singleton] at hu;subst hu;rfl
   case c3=>unfold maxLen;omega
   case c4=>omega
   case c5=>simp;omega
   intro v' w3 hown' hgrow _ _
   have HO:=hide hown'
   have HB2:Hid (Below w.heap.size w w3):=(HB.out.trans (((Below.refl _ _).alloc (Nat.le_refl _) _).mono hsz)).trans ⟨hgrow.os,hgrow.tape,hgrow.output,hgrow.size,fun k hk=>hgrow.block k (by simp;omega) (fun e=>by have:=(hown.lt k e.symm).1;omega)⟩
   obtain ⟨q'',cap'',rfl⟩:=own_slice hown'
   clear hown' hgrow hown
   go_wp2
   go_ret
   exact ⟨_,rfl,HO.out,HB2.out⟩
end ew
namespace rfe
open Go.RowKit topPlain topWalks decPlain encPlain ew
theorem conv_bytes {w:World} {b off cap n:Nat} {l:List UInt8} (hn:n≤l.length) (hc:∀ (j:Nat) x,l[j]?=some x→w.cell? ⟨b,off+j,none⟩=some (.int .u8 (x.toNat:Int))) :
 (convert 45 9 (.slice (some ⟨b,off,none⟩) n cap)).run Tryz.prog w=.ok (.string (bs (l.take n))) w:=by
 have h:=run_convert_bytes_arg (P:=Tryz.prog) w 45 5 Tryz.underlying45 Tryz.underlying5 b off n cap ((l.take n).map fun x=>(x.toNat:Int)) (by simp;omega)
  (fun i hi=>by
    have hil:i < l.length:=by omega
    rw [hc i l[i] (List.getElem?_eq_getElem hil)]
    simp [List.getD,hi,List.getElem?_eq_getElem hil]) 9 Tryz.underlying9
 have e:strOfNums ((l.take n).map fun x=>(x.toNat:Int))=bs (l.take n):=by
  apply ba_ext
  rw [strOfNums_data,data_bs,List.map_map]
  conv=>rhs;rw [← List.map_id (l.take n)]
  exact List.map_congr_left fun x _=>by simp
 rw [h,e]
theorem conv_new (w:World) (l:List UInt8):(convert 45 9 (.slice (some ⟨w.heap.size,0,none⟩) l.length l.length)).run Tryz.prog (w.alloc (.cells (u8s l).toArray 5))=.ok (.string (bs l)) (w.alloc (.cells (u8s l).toArray 5)):=by
 have h:=conv_bytes (w:=w.alloc (.cells (u8s l).toArray 5)) (b:=w.heap.size) (off:=0) (cap:=l.length) (n:=l.length) (l:=l) (Nat.le_refl _) (fun j x hx=>by
  have hb:(w.alloc (.cells (u8s l).toArray 5)).heap[w.heap.size]?=some (.cells (u8s l).toArray 5):=Go.Deep.blk_alloc_new _ _
  simp only [World.cell?,hb]
  simp [u8s,hx])
 rw [List.take_of_length_le (Nat.le_refl _)] at h
 exact h
theorem tdiv_in {n:Int} (h0:-9223372036854775808≤n) (h1:n≤9223372036854775807):-9223372036854775808≤n.tdiv 256∧n.tdiv 256≤9223372036854775807:=by
 rcases Int.le_total 0 n with h | h
 · rw [Int.tdiv_eq_ediv_of_nonneg h];omega
 · have e:n=-(-n):=by omega
   rw [e,Int.neg_tdiv,Int.tdiv_eq_ediv_of_nonneg (by omega)];omega
set_option maxHeartbeats 400000 in
set_option maxRecDepth 100000 in
theorem two_any (n:Int) (w:World) (h0:-9223372036854775808≤n) (h1:n≤9223372036854775807):Calls Tryz.prog 100 #[.int .i64 n] w fun e w'=>e=.returned (.string (bs (twoR n)))∧Below w.heap.size w w':=by
 have hq:wrap64 (n.tdiv 256)=n.tdiv 256:=by have:=tdiv_in h0 h1;unfold wrap64;omega
 have hw8:=u8_wrap (n.tmod 256)
 have hw9:=u8_wrap ((n.tdiv 256).tmod 256)
 have hcv:(convert 45 9 (.slice (some ⟨w.heap.size,0,none⟩) 2 2)).run Tryz.prog (w.alloc (.cells #[.int .u8 ((byt8 ((n.tdiv 256).tmod 256)).toNat:Int),.int .u8 ((byt8 (n.tmod 256)).toNat:Int)] 5))=_:=conv_new w (twoR n)
 have HB:Hid (Below w.heap.size w (w.alloc (.cells #[.int .u8 ((byt8 ((n.tdiv 256).tmod 256)).toNat:Int),.int .u8 ((byt8 (n.tmod 256)).toNat:Int)] 5))):=(Below.refl _ _).alloc (Nat.le_refl _) _
 go_enter Tryz.func100,Tryz.ntmps100
 clear h0 h1
 go_wp2
 go_ret
 exact ⟨rfl,HB.out⟩
theorem bs_append (a b:List UInt8):bs a ++ bs b=bs (a ++ b):=by
 apply ba_ext
 simp [bs]
set_option maxHeartbeats 400000 in
set_option maxRecDepth 100000 in
theorem text_any (l:List UInt8) (w:World) (hl:l.length≤1099511627776):Calls Tryz.prog 101 #[.string (bs l)] w fun e w'=>e=.returned (.string (bs (txtR l)))∧Below w.heap.size w w':=by
 have hs:(bs l).size=l.length:=by simp [bs,ByteArray.size]
 have h2:(bs (twoR (l.length:Int))).size=2:=rfl
 have c:=hide fun w=>two_any (l.length:Int) w (by omega) (by omega)
 go_enter Tryz.func101,Tryz.ntmps101
 go_wp2_with fail
 refine (c.out w).mono ?_
 rintro e w1 ⟨rfl,hb⟩
 have HB:=hide hb
 clear hb
 go_wp2
 go_ret
 exact ⟨by unfold txtR;rw [bs_append];rfl,HB.out⟩
end rfe
namespace encPlain
open Go topPlain decPlain rd
def encL (fw cb:UInt8) (p:Pkt) (fs:List (List UInt8×Int)) (cs:List Int):Option (List UInt8):=
 if 300 < (bodyW cb p fs cs).length then none
 else match decL (fw :: (lenW (bodyW cb p fs cs).length ++ bodyW cb p fs cs)) with
  | .inl _=>none
  | .inr (q,_)=>if sameP p q.1∧fs=q.2.1∧cs=q.2.2 then some (fw :: (lenW (bodyW cb p fs cs).length ++ bodyW cb p fs cs)) else none
theorem lenL_lenW {m:Nat} (h:m≤300) (r:List UInt8):lenL (lenW m ++ r)=some (some (m,(lenW m).length)):=by
 unfold lenW
 by_cases hm:m < 128
 · rw [if_pos hm]
   simp only [List.cons_append,List.nil_append,lenL,byt8_nat (show m < 256 by omega),if_pos hm,List.length_cons,List.length_nil]
 · rw [if_neg hm]
   have e1:=byt8_nat (show m % 128+128 < 256 by omega)
   have e2:=byt8_nat (show m / 128 < 256 by omega)
   simp only [List.cons_append,List.nil_append,lenL,e1,e2,List.length_cons,List.length_nil]
   rw [if_neg (by omega),if_neg (by omega),show m % 128+128 - 128+128*(m / 128)=m by omega]
structure Shape (q:Pkt) (gs:List (List UInt8×Int)) (ds:List Int):Prop where
 rng:rangeB q
 gs0:q.kind≠8→q.kind≠10→gs = []
 ds0:q.kind≠9→ds = []
 will:q.kind=1→q.will=false→q.topic = []∧q.payload = []
 cl0:q.kind≠1→q.client = []
 tp0:q.kind≠1→q.kind≠3→q.topic = []∧q.payload = []
theorem Shape.same {p q:Pkt} {gs:List (List UInt8×Int)} {ds:List Int} (h:Shape q gs ds) (hs:sameP p q):Shape p gs ds:=by
 obtain ⟨h1,h2,h3,h4,h5,h6,h7,h8,h9,h10,h11,h12,h13⟩:=hs
 obtain ⟨a,b,c,d,e,f⟩:=h
 unfold rangeB at a
 rw [← h1,← h4,← h7,← h9,← h13] at a
 rw [← h1] at b c d e f
 rw [← h3,← h11,← h12] at d
 rw [← h5] at e
 rw [← h11,← h12] at f
 exact ⟨a,b,c,d,e,f⟩
end encPlain
namespace rfe
open Go.RowKit topPlain topWalks decPlain encPlain ew
open rd (pkCells)
theorem pk15 {w:World} {b:Nat} {t:TypeId} {v0 v1 v2 v3 v4 v5 v6 v7 v8 v9 v10 v11 v12 v13 v14:Value} (h:w.heap[b]?=some (.cells #[v0,v1,v2,v3,v4,v5,v6,v7,v8,v9,v10,v11,v12,v13,v14] t)):w.cell? ⟨b,0,none⟩=some v0∧w.cell? ⟨b,1,none⟩=some v1∧w.cell? ⟨b,2,none⟩=some v2∧w.cell? ⟨b,3,none⟩=some v3∧w.cell? ⟨b,4,none⟩=some v4∧w.cell? ⟨b,5,none⟩=some v5∧w.cell? ⟨b,6,none⟩=some v6∧w.cell? ⟨b,7,none⟩=some v7∧w.cell? ⟨b,8,none⟩=some v8∧w.cell? ⟨b,9,none⟩=some v9∧w.cell? ⟨b,10,none⟩=some v10∧w.cell? ⟨b,11,none⟩=some v11∧w.cell? ⟨b,12,none⟩=some v12∧w.cell? ⟨b,13,none⟩=some v13∧w.cell? ⟨b,14,none⟩=some v14:=by
 refine ⟨?_,?_,?_,?_,?_,?_,?_,?_,?_,?_,?_,?_,?_,?_,?_⟩
 all_goals simp [World.cell?,h]
structure St (w wx:World) (o:Obj):Prop where
 below:Below w.heap.size w wx
 blk:wx.heap[w.heap.size]?=some o
theorem St.new (w:World) (o:Obj):St w (w.alloc o) o:=⟨(Below.refl _ _).alloc (Nat.le_refl _) o,Go.Deep.blk_alloc_new _ _⟩
theorem St.lt {w wx:World} {o:Obj} (h:St w wx o):w.heap.size < wx.heap.size:=(Array.getElem?_eq_some_iff.1 h.blk).1
theorem St.drew {w wx:World} {o:Obj} (h:St w wx o):St w wx.drew o:=⟨h.below.drew,h.blk⟩
theorem St.drewN {w wx:World} {o:Obj} (h:St w wx o) (n:Nat):St w (wx.drewN n) o:=⟨below_drewN h.below n,h.blk⟩
theorem St.call {w wx w':World} {o:Obj} (h:St w wx o) (hb:Below wx.heap.size wx w'):St w w' o:=⟨h.below.trans (hb.mono (Nat.le_of_lt h.lt)),(hb.block _ h.lt).trans h.blk⟩
def FilX (w:World) (v:Value) (fs:List (List UInt8×Int)):Prop:=∃ q cap,v=.slice q fs.length cap∧fs.length≤maxLen∧∀ (j:Nat) f,fs[j]?=some f→∃ g o,q=some ⟨g,o,none⟩∧g < w.heap.size∧w.cell? ⟨g,o+j*2,none⟩=some (.string (bs f.1))∧w.cell? ⟨g,o+j*2+1,none⟩=some (.int .i64 f.2)
def IntX (w:World) (v:Value) (cs:List Int):Prop:=∃ q cap,v=.slice q cs.length cap∧cs.length≤maxLen∧∀ (j:Nat) c,cs[j]?=some c→∃ g o,q=some ⟨g,o,none⟩∧g < w.heap.size∧w.cell? ⟨g,o+j,none⟩=some (.int .i64 c)
theorem FilX.below {w w':World} {v:Value} {fs:List (List UInt8×Int)} (h:FilX w v fs) (hb:Below w.heap.size w w'):FilX w' v fs:=by
 obtain ⟨q,cap,h1,h2,h3⟩:=h
 refine ⟨q,cap,h1,h2,fun j f hf=>?_⟩
 obtain ⟨g,o,e,hg,a,b⟩:=h3 j f hf
 exact ⟨g,o,e,Nat.lt_of_lt_of_le hg hb.size,by rw [hb.cell hg];exact a,by rw [hb.cell hg];exact b⟩
theorem IntX.below {w w':World} {v:Value} {cs:List Int} (h:IntX w v cs) (hb:Below w.heap.size w w'):IntX w' v cs:=by
 obtain ⟨q,cap,h1,h2,h3⟩:=h
 refine ⟨q,cap,h1,h2,fun j f hf=>?_⟩
 obtain ⟨g,o,e,hg,a⟩:=h3 j f hf
 exact ⟨g,o,e,Nat.lt_of_lt_of_le hg hb.size,by rw [hb.cell hg];exact a⟩
end rfe
namespace lw
open Go.RowKit topPlain topWalks decPlain rd
theorem filC_get:∀ (fs:List (List UInt8×Int)) (j:Nat) (f:List UInt8×Int),fs[j]?=some f→(filC fs)[j*2]?=some (.string (bs f.1))∧(filC fs)[j*2+1]?=some (.int .i64 f.2)
 | [],j,f,h=>by simp at h
 | g :: r,0,f,h=>by
   have:g=f:=by simpa using h
   subst this
   exact ⟨rfl,rfl⟩
 | g :: r,j+1,f,h=>by
   have h':r[j]?=some f:=by simpa using h
   obtain ⟨a,b⟩:=filC_get r j f h'
   have e:filC (g :: r)=.string (bs g.1) :: .int .i64 g.2 :: filC r:=rfl
   rw [e,show (j+1)*2=j*2+1+1 by omega]
   exact ⟨by simpa using a,by simpa using b⟩
theorem own_cellP {w:World} {B sz n:Nat} {e:TypeId} {v:Value} {xs:List Value} (h:w.ownsRow B e sz v n xs) (i:Nat) (u:Value) (hu:xs[i]?=some u):∃ g cap,v=.slice (some ⟨g,0,none⟩) n cap∧g < w.heap.size∧w.cell? ⟨g,i,none⟩=some u:=by
 have hi:i < xs.length:=(List.getElem?_eq_some_iff.1 hu).1
 have hx:=h.1
 rcases h.2 with ⟨_,h0⟩ | ⟨g,cap,cur,e1,_,hh,h1,_,h3,h4⟩
 · rw [h0,Nat.zero_mul] at hx
   omega
 · refine ⟨g,cap,e1,(Array.getElem?_eq_some_iff.1 hh).1,?_⟩
   have h5:cur.toList[i]?=some u:=by
    rw [← hu,← h4,List.getElem?_take_of_lt (by omega)]
   simp [World.cell?,hh]
   simpa using h5
theorem own_formP {w:World} {B sz n:Nat} {e:TypeId} {v:Value} {xs:List Value} (h:w.ownsRow B e sz v n xs):∃ q cap,v=.slice q n cap∧n≤maxLen:=by
 rcases h.2 with ⟨e1,h0⟩ | ⟨g,cap,cur,e1,_,hh,h1,h2,_⟩
 · exact ⟨none,0,by rw [e1,h0],by omega⟩
 · exact ⟨_,_,e1,Nat.le_trans h1 h2⟩
theorem filV_of {w:World} {B:Nat} {v:Value} {fs:List (List UInt8×Int)} (h:w.ownsRow B 95 2 v fs.length (filC fs)):rf.FilV w v fs:=by
 obtain ⟨q,cap,e,hm⟩:=own_formP h
 refine ⟨q,cap,e,hm,fun j f hf=>?_⟩
 obtain ⟨a,b⟩:=filC_get fs j f hf
 obtain ⟨g,c1,e1,hg,k1⟩:=own_cellP h _ _ a
 obtain ⟨g2,c2,e2,_,k2⟩:=own_cellP h _ _ b
 rw [e] at e1 e2
 injection e1 with e1
 injection e2 with e2
 rw [e1] at e2
 have:g=g2:=by injection e2 with e2;injection e2
 subst this
 exact ⟨g,e1,hg,k1,k2⟩
theorem intV_of {w:World} {B:Nat} {v:Value} {cs:List Int} (h:w.ownsRow B 3 1 v cs.length (ints cs)):rf.IntV w v cs:=by
 obtain ⟨q,cap,e,hm⟩:=own_formP h
 refine ⟨q,cap,e,hm,fun j c hc=>?_⟩
 obtain ⟨g,c1,e1,hg,k1⟩:=own_cellP h j (.int .i64 c) (by simp [ints,hc])
 rw [e] at e1
 injection e1 with e1
 exact ⟨g,e1,hg,k1⟩
end lw
namespace ew
open Go.RowKit topPlain topWalks decPlain encPlain rd
def fwI (p:Pkt):Int:=if p.kind=3 then bits .or .i64 48 (bits .or .i64 (bits .or .i64 (wrap64 (p.qos*2)) (bitI p.dup 8)) (bitI p.retain 1)) else bits .or .i64 (wrap64 (p.kind*16)) (fixedF p.kind)
def fwW (p:Pkt):UInt8:=byt8 (fwI p)
set_option maxHeartbeats 1600000 in
set_option maxRecDepth 100000 in
theorem first_any (p:Pkt) (w:World) :
 Calls Tryz.prog 81 #[.agg (pkCells p)] w fun e w'=>e=.returned (.int .u8 ((fwW p).toNat:Int))∧Below w.heap.size w w':=by
 have c0:=hide fun b n w=>bit_any b n w
 have c1:=hide fun k w=>fixedFlags_any k w
 have HA:=hide (fun o=>(Below.refl w.heap.size w).alloc (Nat.le_refl _) o)
 by_cases h3:p.kind=3
 · have hF:fwW p=byt8 (bits .or .i64 48 (bits .or .i64 (bits .or .i64 (wrap64 (p.qos*2)) (bitI p.dup 8)) (bitI p.retain 1))):=by unfold fwW fwI;rw [if_pos h3]
   have hw8:=u8_wrap (bits .or .i64 48 (bits .or .i64 (bits .or .i64 (wrap64 (p.qos*2)) (bitI p.dup 8)) (bitI p.retain 1)))
   rw [hF]
   clear hF
   obtain ⟨kind,clean,will,keep,client,present,code,dup,qos,retain,topic,payload,id,fv,cv⟩:=p
   simp only at h3 hw8 ⊢
   subst h3
   simp only [pkCells]
   have HW8:=hide hw8
   clear hw8
   go_enter Tryz.func81,Tryz.ntmps81
   go_wp2_with fail
   refine (unhide c1 _ _).mono ?_
   rintro e w1 ⟨rfl,rfl⟩
   go_wp2_with fail
   refine wp_region_tail 11 (by kernel_rfl) (by kernel_rfl) ?_
   simp only [List.take_succ_cons,List.take_zero,List.drop_succ_cons,List.drop_zero]
   repeat (first | still_step | still_call (unhide c0 _ _ _))
   refine wpStill_nil ?_
   go_wp2
   go_ret
   exact ⟨ret_int HW8.out,below_drewN (HA.out _) 1⟩
 · have hF:fwW p=byt8 (bits .or .i64 (wrap64 (p.kind*16)) (fixedF p.kind)):=by unfold fwW fwI;rw [if_neg h3]
   have hw8:=u8_wrap (bits .or .i64 (wrap64 (p.kind*16)) (fixedF p.kind))
   rw [hF]
   clear hF
   obtain ⟨kind,clean,will,keep,client,present,code,dup,qos,retain,topic,payload,id,fv,cv⟩:=p
   simp only at h3 hw8 ⊢
   have h3b:(kind == 3)=false:=beq_eq_false_iff_ne.2 h3
   clear h3
   simp only [pkCells]
   have HW8:=hide hw8
   clear hw8
   go_enter Tryz.func81,Tryz.ntmps81
   go_wp2_with fail
   refine (unhide c1 _ _).mono ?_
   rintro e w1 ⟨rfl,rfl⟩
   go_wp2
   go_ret
   exact ⟨ret_int HW8.out,HA.out _⟩
end ew
end Go.Proofs.YtnmfmoimjkoieaaGreatDoor
