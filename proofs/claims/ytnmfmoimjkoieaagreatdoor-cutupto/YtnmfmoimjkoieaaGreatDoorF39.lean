import Derived.Test.YtnmfmoimjkoieaaGreatDoorF38
import Derived.Lib.AppendZerosOnto
import Derived.Lib.Overlaps
namespace Go.Proofs.YtnmfmoimjkoieaaGreatDoor
namespace br
open Go.RowKit topPlain topWalks decPlain
theorem run_copy_z {P:Program} (w:World) (dT sT ty elem:TypeId) (z b o dLen dCap:Nat) (a:Addr) (sLen sCap:Nat) (cs:List Value)
 (hu:P.underlying dT=some (.slice elem)) (hs:(P.info? elem).map (·.size)=some z) (hn:cs.length=Nat.min sLen dLen*z)
 (hsrc:∀ j v,cs[j]?=some v→w.cell? (a.add j)=some v) (hc:∀ j,j < cs.length→(w.cell? ⟨b,o+j,none⟩).isSome=true) (hf:∀ j,j < cs.length→w.frozen? ⟨b,o+j,none⟩=false) (h1:∀ v∈cs,v.oneCell'=true) :
 (Builtin.copy_ #[dT,sT] ty #[.slice (some ⟨b,o,none⟩) dLen dCap,.slice (some a) sLen sCap]).run P w=.ok (goInt (Nat.min sLen dLen:Nat)) (w.setCells b o cs):=by
 have hl:=run_loadCells_list (P:=P) w a cs hsrc
 have hst:=run_storeCells_cells (P:=P) b o cs 0 w (by simpa using hc) (by simpa using hf) h1
 cases hq:P.info? elem with
 | none=>simp [hq] at hs
 | some i =>
   have hi:i.size=z:=by simpa [hq] using hs
   rw [hn] at hl
   simp only [Nat.add_zero] at hst
   simp [Builtin.copy_,run_underlying hu,Builtin.lenOf,Builtin.firstCells,sizeOf,typeInfo,hq,hi,hl,hst]
theorem own_patch {w:World} {C g n kap z o:Nat} {e:TypeId} {xs vs:List Value} (h:w.ownsRow C e z (.slice (some ⟨g,0,none⟩) n kap) n xs) (ho:o+vs.length≤n*z):(w.setCells g o vs).ownsRow C e z (.slice (some ⟨g,0,none⟩) n kap) n (xs.take o ++ vs ++ xs.drop (o+vs.length)):=by
 have hx:=h.1
 refine ⟨by simp only [List.length_append,List.length_take,List.length_drop];omega,?_⟩
 rcases h.2 with ⟨h1,_⟩ | ⟨g',cap,cur,e1,h2,hg,h3,h4,h5,h6⟩
 · cases h1
 · cases e1
   have hm:n*z≤kap*z:=Nat.mul_le_mul_right _ h3
   refine Or.inr ⟨g,kap,patch cur o vs,rfl,h2,setCells_blk _ _ _ _ hg,h3,h4,by rw [patch_size];exact h5,?_⟩
   rw [← h6]
   apply List.ext_getElem?
   intro k
   have hlt:(List.take (n*z) cur.toList).length=n*z:=by rw [List.length_take,Array.length_toList,h5];omega
   rw [List.getElem?_take,Array.getElem?_toList,patch_get _ _ _ _ (by omega)]
   by_cases hk1:k < o
   · rw [if_pos (by omega),if_neg (by omega),List.append_assoc,List.getElem?_append_left (by rw [List.length_take,hlt];omega),List.getElem?_take_of_lt hk1,List.getElem?_take_of_lt (by omega),Array.getElem?_toList]
   · by_cases hk2:k < o+vs.length
     · rw [if_pos (by omega),if_pos (by omega),List.getElem?_append_left (by rw [List.length_append,List.length_take,hlt];omega),List.getElem?_append_right (by rw [List.length_take,hlt];omega),List.length_take,hlt,Nat.min_eq_left (by omega)]
     · rw [List.getElem?_append_right (by rw [List.length_append,List.length_take,hlt];omega),List.length_append,List.length_take,hlt,Nat.min_eq_left (by omega),List.getElem?_drop,show o+vs.length+(k - (o+vs.length))=k by omega,List.getElem?_take]
       by_cases hk:k < n*z
       · rw [if_pos hk,if_pos hk,if_neg (by omega),Array.getElem?_toList]
       · rw [if_neg hk,if_neg hk]
theorem own_wide {w:World} {C g n kap z:Nat} {e:TypeId} {xs:List Value} (h:w.ownsRow C e z (.slice (some ⟨g,0,none⟩) n kap) n xs) (hk:n+1≤kap):∃ ys,ys.length=z∧w.ownsRow C e z (.slice (some ⟨g,0,none⟩) (n+1) kap) (n+1) (xs ++ ys):=by
 have hx:=h.1
 rcases h.2 with ⟨h1,_⟩ | ⟨g',cap,cur,e1,h2,hg,h3,h4,h5,h6⟩
 · cases h1
 · cases e1
   have hm:(n+1)*z≤kap*z:=Nat.mul_le_mul_right _ hk
   rw [Nat.add_mul,Nat.one_mul] at hm
   refine ⟨(cur.toList.drop (n*z)).take z,by rw [List.length_take,List.length_drop,Array.length_toList,h5];omega,?_,Or.inr ⟨g,kap,cur,rfl,h2,hg,hk,h4,h5,?_⟩⟩
   · rw [List.length_append,hx,List.length_take,List.length_drop,Array.length_toList,h5,Nat.add_mul];omega
   · rw [← h6,Nat.add_mul,Nat.one_mul,List.take_add]
theorem wpList_copy_is {P:Program} (w:World) {ops:Array Oper} {rest:List Oper} {o:Oper} {a:Act} {Q:Exit→Act→World→Prop} (hgd:o.guard=none) (d s:Operand) (t t':TypeId)
 (ho:o.op=.call { callee:=.builtin .copy,args:=#[d,s],argTypes:=#[t,t'] }) (v u:Value) (hd:a.eval d=v) (hs:a.eval s=u) {v':Value} {w':World}
 (hr:(Builtin.copy_ #[t,t'] o.type #[v,u]).run P w=.ok v' w') (h:wpList P ops Q rest (a.put o.dst v') w'):wpList P ops Q (o :: rest) a w:=by
 refine wpList_plain hgd fun K hK=>?_
 unfold Oper.wp
 simp [execOp,ho,resolve,invoke,builtin,hd,hs,hr,Result.andThen]
 exact hK _ _ h
theorem step_copy_is {P:Program} {ops:Array Oper} {o:Oper} {a:Act} {w:World} {K:Act→World→Prop} {Q:Exit→Act→World→Prop} {E:Prop}
 (hg:o.guard=none) (d x:Operand) (dT sT:TypeId) (hop:o.op=Op.call { callee:=Callee.builtin Builtin.copy,args:=#[d,x],argTypes:=#[dT,sT] })
 (v u:Value) (hd:a.eval d=v) (hx:a.eval x=u) {v':Value} {w':World} (hr:(Builtin.copy_ #[dT,sT] o.type #[v,u]).run P w=.ok v' w') (hK:K (a.put o.dst v') w') :
 if Region.wanted o (yielded ops a.tmps)=true then Oper.wp P o a w K Q else E:=by
 have hw:Region.wanted o (yielded ops a.tmps)=true:=by simp [Region.wanted,hg]
 rw [if_pos hw]
 unfold Oper.wp
 simp [execOp,hop,resolve,invoke,builtin,hd,hx,hr,Result.andThen]
 exact hK
theorem overl_any (vb g o lb cb kap n:Nat) (c:Array Value) (xs:List Value) (w:World) (hb:w.heap[vb]?=some (.cells c 206)) (hv:w.ownsRow 0 206 4 (.slice (some ⟨g,0,none⟩) n kap) n xs) (hk:0 < kap) (hne:vb≠g) :
 (callFunc 223 #[.slice (some ⟨vb,0,none⟩) 1 1,.slice (some ⟨g,o,none⟩) lb cb]).run Tryz.prog w=.ok (.value (.bool false)) w:=by
 obtain ⟨cur,hg,hcs⟩:∃ cur,w.heap[g]?=some (.cells cur 206 (0,0))∧cur.size=kap*4:=by
  rcases hv.2 with ⟨h1,_⟩ | ⟨g',cap,cur,e1,h2,hg,h3,h4,h5,h6⟩
  · cases h1
  · cases e1;exact ⟨cur,hg,h5⟩
 rw [run_callFunc_extern Tryz.func223 (by kernel_rfl) (by kernel_rfl) (by kernel_rfl) (e:=Extern.SlicesOverlaps.overlaps #[127,127] #[4]) (by kernel_rfl),
  Lib.run_overlaps_apart w 127 4 206 Tryz.underlying127 4 (fun w=>by kernel_rfl) ⟨vb,0,none⟩ ⟨g,o,none⟩ 1 1 lb cb hne 206 206 c.size (kap*4) (by simp [World.shape?,hb]) (by simp [World.shape?,hg,hcs]) (by omega) (by simp [World.frozen?,hb]) (by simp [World.frozen?,hb])]
 rfl
def InsPost (v:Value) (l:List Msg) (w:World) (e:Ending) (w':World):Prop:=∃ v',e=.returned v'∧But (fun b=>v.ownBlock=some b) w w'∧(v'.ownBlock=v.ownBlock∨∃ b,v'.ownBlock=some b∧w.heap.size≤b)∧w'.ownsRow 0 206 4 v' l.length (l.flatMap msgC)
theorem msg_news {w:World} {m:Msg} {vb:Nat} (hb:w.heap[vb]?=some (.cells #[.string (bs m.topic),.string (bs m.payload),.int .i64 m.qos,.bool m.retain] 206)):∀ j u,(msgC m)[j]?=some u→w.cell? ((⟨vb,0,none⟩:Addr).add j)=some u:=fun j u hu=>by
 rw [add_off,Nat.zero_add]
 have hj:j < 4:=(List.getElem?_eq_some_iff.1 hu).1
 match j,hj,hu with
 | 0,_,hu=>cases hu;exact blk_cell hb rfl
 | 1,_,hu=>cases hu;exact blk_cell hb rfl
 | 2,_,hu=>cases hu;exact blk_cell hb rfl
 | 3,_,hu=>cases hu;exact blk_cell hb rfl
theorem msg_ones (m:Msg):∀ u∈msgC m,u.oneCell'=true:=fun u hu=>by
 simp [msgC] at hu
 rcases hu with rfl | rfl | rfl | rfl<;>rfl
theorem msgs_ones (l:List Msg):∀ u∈l.flatMap msgC,u.oneCell'=true:=fun u hu=>by
 obtain ⟨a,_,ha⟩:=List.mem_flatMap.1 hu
 exact msg_ones a u ha
set_option maxHeartbeats 1600000 in
set_option maxRecDepth 100000 in
theorem ins_end (v:Value) (R:List Msg) (m:Msg) (vb:Nat) (w:World) (hv:w.ownsRow 0 206 4 v R.length (R.flatMap msgC)) (hl:R.length≤1000) (hb:w.heap[vb]?=some (.cells #[.string (bs m.topic),.string (bs m.payload),.int .i64 m.qos,.bool m.retain] 206)) :
 Calls Tryz.prog 190 #[v,.int .i64 R.length,.slice (some ⟨vb,0,none⟩) 1 1] w (InsPost v (R ++ [m]) w):=by
 obtain ⟨q,kap,rfl⟩:=own_form hv
 have HV:=hide hv
 obtain ⟨i0,hi0,hz0,hz1,hz2⟩:=info_parts infoMsg4
 have HNW:=hide (msg_news hb)
 have HN1:=hide (msg_ones m)
 clear hv hb
 go_enter Tryz.func190,Tryz.ntmps190
 go_wp2_with (first
  | (at_builtin;refine wpList_append_own_at _ rfl _ _ 127 rfl 0 206 i0 _ 4 48 Tryz.underlying127 hi0 hz0 hz1 hz2 rfl (by decide) (.slice q R.length kap) R.length (R.flatMap msgC) rfl HV.out ⟨vb,0,none⟩ 1 1 (msgC m) rfl rfl HNW.out HN1.out (by unfold maxLen;omega) (by omega) (Nat.zero_le _) ?_;intro v5 w5 hown5 hgrow5 _ hloc5) | fail)
 all_goals
  go_ret
  refine ⟨v5,rfl,But.of_grown hgrow5 (fun b e=>by cases q<;>exact e),(show v5.ownBlock=(Value.slice q R.length R.length).ownBlock∨_ by cases q<;>exact hloc5).imp (fun e=>by cases q<;>exact e) (fun e=>⟨_,e,Nat.le_refl _⟩),?_⟩
  rw [List.length_append,List.flatMap_append]
  simpa using hown5
theorem msgC_len (a:Msg):(msgC a).length=4:=rfl
theorem ins_row (R:List Msg) (i:Nat) (m:Msg) (ys:List Value) (hi:i < R.length) (hy:ys.length=4):(((R.flatMap msgC ++ ys).take ((i+1)*4) ++ (R.drop i).flatMap msgC ++ (R.flatMap msgC ++ ys).drop ((i+1)*4+((R.drop i).flatMap msgC).length)).take (i*4)) ++ msgC m ++ (((R.flatMap msgC ++ ys).take ((i+1)*4) ++ (R.drop i).flatMap msgC ++ (R.flatMap msgC ++ ys).drop ((i+1)*4+((R.drop i).flatMap msgC).length)).drop (i*4+(msgC m).length))=(R.take i ++ [m] ++ R.drop i).flatMap msgC:=by
 have h1:(R.flatMap msgC ++ ys).length=R.length*4+4:=by rw [List.length_append,msg_flat,hy]
 have h2:((R.drop i).flatMap msgC).length=(R.length - i)*4:=by rw [msg_flat,List.length_drop]
 rw [List.drop_eq_nil_of_le (show (R.flatMap msgC ++ ys).length≤(i+1)*4+((R.drop i).flatMap msgC).length by rw [h1,h2];omega),List.append_nil]
 have h3:(List.take ((i+1)*4) (R.flatMap msgC ++ ys)).length=(i+1)*4:=by rw [List.length_take,h1];omega
 rw [List.take_append_of_le_length (by rw [h3];omega),List.take_take,Nat.min_eq_left (by omega),List.take_append_of_le_length (by rw [msg_flat];omega),fl_take msgC_len,msgC_len,List.drop_append,List.drop_eq_nil_of_le (by rw [h3];omega),List.nil_append,h3,show i*4+4 - (i+1)*4=0 by omega,List.drop_zero]
 simp [List.flatMap_append]
set_option maxHeartbeats 1600000 in
set_option maxRecDepth 100000 in
theorem ins_room (g kap:Nat) (R:List Msg) (i:Nat) (m:Msg) (vb:Nat) (w:World) (hv:w.ownsRow 0 206 4 (.slice (some ⟨g,0,none⟩) R.length kap) R.length (R.flatMap msgC)) (hl:R.length≤1000) (hi:i < R.length) (hr:R.length+1≤kap) (hb:w.heap[vb]?=some (.cells #[.string (bs m.topic),.string (bs m.payload),.int .i64 m.qos,.bool m.retain] 206)) (hne:vb≠g) :
 Calls Tryz.prog 190 #[.slice (some ⟨g,0,none⟩) R.length kap,.int .i64 i,.slice (some ⟨vb,0,none⟩) 1 1] w (InsPost (.slice (some ⟨g,0,none⟩) R.length kap) (R.take i ++ [m] ++ R.drop i) w):=by
 have HV:=hide hv
 obtain ⟨i0,hi0,hz0,hz1,hz2⟩:=info_parts infoMsg4
 have HNW:=hide (msg_news hb)
 have h1:¬ (R.length=kap):=by omega
 have h2:¬ (kap=i):=by omega
 have h3:¬ (kap=i+1):=by omega
 have h4:i≤R.length:=by omega
 have h5:¬ (i=R.length):=by omega
 have h6:¬ (kap < R.length+1):=by omega
 clear hv
 have hov:=fun o lb cb=>overl_any vb g o lb cb kap R.length _ (R.flatMap msgC) w hb HV.out (by omega) hne
 have HB:=hide hb
 obtain ⟨ys,hys,how⟩:=own_wide HV.out hr
 have hinf:(Tryz.prog.info? 206).map (·.size)=some 4:=by rw [hi0];simp [hz1]
 have hdl:((R.drop i).flatMap msgC).length=(R.length - i)*4:=by rw [msg_flat,List.length_drop]
 have hmn:Nat.min (R.length+1 - i) (R.length - i)=R.length - i:=by simp only [Nat.min_def];split<;>omega
 have hmn2:Nat.min 1 (R.length+1 - i)=1:=by simp only [Nat.min_def];split<;>omega
 have hcells:∀ j u,(R.flatMap msgC)[j]?=some u→w.cell? ⟨g,j,none⟩=some u:=by
  obtain ⟨g',e,_,_,_,hc⟩:=own_at HV.out (by omega)
  cases e
  exact hc
 have hcp1:∀ ty dc sc,(Builtin.copy_ #[127,127] ty #[.slice (some ⟨g,(i+1)*4,none⟩) (R.length - i) dc,.slice (some ⟨g,i*4,none⟩) (R.length+1 - i) sc]).run Tryz.prog w.drew=.ok (goInt (R.length - i:Nat)) (w.drew.setCells g ((i+1)*4) ((R.drop i).flatMap msgC)):=fun ty dc sc=>by
  have h:=run_copy_z (P:=Tryz.prog) w.drew 127 127 ty 206 4 g ((i+1)*4) (R.length - i) dc ⟨g,i*4,none⟩ (R.length+1 - i) sc ((R.drop i).flatMap msgC) Tryz.underlying127 hinf (by rw [hdl,hmn]) (fun j u hj=>by
   rw [add_off]
   rw [← fl_drop msgC_len,List.getElem?_drop] at hj
   exact hcells _ _ hj) (fun j hj=>(own_room how (by omega)).1) (fun j hj=>(own_room how (by omega)).2) (msgs_ones _)
  rw [hmn] at h
  exact h
 have HW1:=hide (own_patch (o:=(i+1)*4) (vs:=(R.drop i).flatMap msgC) (show w.drew.ownsRow 0 206 4 _ _ _ from how) (by rw [hdl];omega))
 have hbut1:But (fun b=>b=g) w (w.drew.setCells g ((i+1)*4) ((R.drop i).flatMap msgC)):=(But.of_below (Below.refl _ _).drew).trans (But.cells (F:=fun b=>b=g) rfl _ w.drew _) (fun _ _ e=>e)
 generalize w.drew.setCells g ((i+1)*4) ((R.drop i).flatMap msgC)=W1 at *
 have hbW:W1.heap[vb]?=some (.cells #[.string (bs m.topic),.string (bs m.payload),.int .i64 m.qos,.bool m.retain] 206):=hbut1.blk hne hb
 have hcp2:∀ ty dc,(Builtin.copy_ #[127,127] ty #[.slice (some ⟨g,i*4,none⟩) (R.length+1 - i) dc,.slice (some ⟨vb,0,none⟩) 1 1]).run Tryz.prog W1=.ok (goInt 1) (W1.setCells g (i*4) (msgC m)):=fun ty dc=>by
  have h:=run_copy_z (P:=Tryz.prog) W1 127 127 ty 206 4 g (i*4) (R.length+1 - i) dc ⟨vb,0,none⟩ 1 1 (msgC m) Tryz.underlying127 hinf (by rw [hmn2];rfl) (msg_news hbW) (fun j hj=>(own_room HW1.out (by rw [msgC_len] at hj;omega)).1) (fun j hj=>(own_room HW1.out (by rw [msgC_len] at hj;omega)).2) (msg_ones m)
  rw [hmn2] at h
  exact h
 have HBU:=hide hbut1
 have HYS:=hide hys
 clear hb hcells how hdl hmn hmn2 hbut1 hbW hys HB
 have HC1:=hide hcp1
 clear hcp1
 have hw1:IntKind.i64.wrap ((i:Int)+1)=(i:Int)+1:=by rw [IntKind.wrap_i64];omega
 have hb1:(0:Int)≤(i:Int)+1:=by omega
 have hb2:(i:Int)+1≤(R.length:Int)+1:=by omega
 have htn:((i:Int)+1).toNat=i+1:=by omega
 have hb3:(i:Int)≤(R.length:Int)+1:=by omega
 have hb4:R.length+1 - (i+1)=R.length - i:=by omega
 go_enter Tryz.func190,Tryz.ntmps190
 go_wp2_with (simp only [hov])
 go_region_law (
  refine step_copy_is rfl _ _ 127 127 rfl _ _ (by simp [Act.eval,Act.put];rfl) (by simp [Act.eval,Act.put];rfl) (HC1.out _ _ _) ?_)
 all_goals
  go_wp2_with (simp only [hcp2])
  go_ret
  refine ⟨_,rfl,(HBU.out.trans (But.cells (F:=fun b=>b=g) rfl (msgC m) W1 (i*4)) (fun _ _ e=>e)).wide (fun b _ e=>by rw [e];rfl),Or.inl rfl,?_⟩
  have h9:=own_patch (o:=i*4) (vs:=msgC m) HW1.out (by rw [msgC_len];omega)
  rw [ins_row R i m ys hi HYS.out] at h9
  rw [show (R.take i ++ [m] ++ R.drop i).length=R.length+1 by simp;omega]
  exact h9
theorem own_zeros (w:World) (olds:List Value) (z:Array Value) (n i G:Nat) (e:TypeId) (hz:z.size=4) (ho:olds.length=i*4) (hi:i≤n) (hG:n+1≤G) (hm:G≤maxLen) :
 ∃ zs,zs.length=(n+1 - i)*4∧(w.alloc (.cells (olds.toArray ++ Builtin.zeroCells z (n+1 - i) ++ Builtin.zeroCells z (G - (n+1))) e)).ownsRow 0 e 4 (.slice (some ⟨w.heap.size,0,none⟩) (n+1) G) (n+1) (olds ++ zs):=by
 have h1:=size_zeroCells z (n+1 - i)
 have h2:=size_zeroCells z (G - (n+1))
 rw [hz] at h1 h2
 have h1':(Builtin.zeroCells z (n+1 - i)).toList.length=(n+1 - i)*4:=by simpa using h1
 refine ⟨(Builtin.zeroCells z (n+1 - i)).toList,h1',by rw [List.length_append,ho,h1'];omega,Or.inr ⟨w.heap.size,G,_,rfl,Nat.zero_le _,heap_alloc_new _ _,hG,hm,?_,?_⟩⟩
 · simp only [Array.size_append,List.size_toArray,ho,h1,h2];omega
 · simp only [Array.toList_append]
   rw [List.take_append_of_le_length (by rw [List.length_append,h1',ho];omega),List.take_of_length_le (by rw [List.length_append,h1',ho];omega)]
theorem ins_rowL (A M D zs:List Value) (i n:Nat) (hi:i < n) (hA:A.length=i*4) (hM:M.length=4) (hD:D.length=(n - i)*4) (hz:zs.length=(n+1 - i)*4) :
 (((A ++ zs).take (i*4) ++ M ++ (A ++ zs).drop (i*4+M.length)).take ((i+1)*4)) ++ D ++ (((A ++ zs).take (i*4) ++ M ++ (A ++ zs).drop (i*4+M.length)).drop ((i+1)*4+D.length))=A ++ M ++ D:=by
 have e1:(A ++ zs).take (i*4)=A:=by rw [← hA,List.take_left]
 obtain ⟨X,hX⟩:∃ X,(A ++ zs).drop (i*4+M.length)=X:=⟨_,rfl⟩
 have hXl:X.length=i*4+(n+1 - i)*4 - (i*4+4):=by rw [← hX,List.length_drop,List.length_append,hA,hz,hM]
 rw [e1,hX]
 have e2:(A ++ M ++ X).take ((i+1)*4)=A ++ M:=List.take_left' (by rw [List.length_append,hA,hM];omega)
 have e3:(A ++ M ++ X).drop ((i+1)*4+D.length) = []:=List.drop_eq_nil_of_le (by simp only [List.length_append,hA,hM,hXl,hD];omega)
 rw [e2,e3,List.append_nil]
set_option maxHeartbeats 1600000 in
set_option maxRecDepth 100000 in
theorem ins_grow (g:Nat) (R:List Msg) (i:Nat) (m:Msg) (vb:Nat) (w:World) (hv:w.ownsRow 0 206 4 (.slice (some ⟨g,0,none⟩) R.length R.length) R.length (R.flatMap msgC)) (hl:R.length≤1000) (hi:i < R.length) (hb:w.heap[vb]?=some (.cells #[.string (bs m.topic),.string (bs m.payload),.int .i64 m.qos,.bool m.retain] 206)) :
 Calls Tryz.prog 190 #[.slice (some ⟨g,0,none⟩) R.length R.length,.int .i64 i,.slice (some ⟨vb,0,none⟩) 1 1] w (InsPost (.slice (some ⟨g,0,none⟩) R.length R.length) (R.take i ++ [m] ++ R.drop i) w):=by
 have HV:=hide hv
 obtain ⟨i0,hi0,hz0,hz1,hz2⟩:=info_parts infoMsg4
 obtain ⟨g',e',hg,_,_,hcells⟩:=own_at hv (by omega)
 cases e'
 have h2:¬ (R.length=i):=by omega
 have h4:i≤R.length:=by omega
 have h5:¬ (i=R.length):=by omega
 have hks:((R.length:Int)+1 - (i:Int))=((R.length+1 - i:Nat):Int):=by omega
 have hik:i+(R.length+1 - i)=R.length+1:=by omega
 have hold:(Builtin.firstCells i0.size i (.slice (some ⟨g,0,none⟩) i R.length)).run Tryz.prog w.drew=.ok ((R.take i).flatMap msgC).toArray w.drew:=by
  rw [hz1]
  exact run_firstCells_some w.drew 4 i ⟨g,0,none⟩ i R.length ((R.take i).flatMap msgC) (by rw [msg_flat,List.length_take];omega) (fun j u hj=>by
   rw [add_off,Nat.zero_add]
   rw [← fl_take msgC_len,List.getElem?_take] at hj
   split at hj
   · exact hcells j u hj
   · cases hj)
 obtain ⟨G,hG⟩:∃ G,grownCap w (R.length+1) R.length 206=G:=⟨_,rfl⟩
 have hGn:R.length+1≤G:=by rw [← hG];exact grownCap_ge w _ _ _
 have hGm:G≤maxLen:=by rw [← hG];exact grownCap_le_maxLen w (R.length+1) R.length 206 (by unfold maxLen;omega)
 obtain ⟨W1,hW1⟩:∃ W1,w.drew.alloc (.cells (((R.take i).flatMap msgC).toArray ++ Builtin.zeroCells (Value.agg #[.string ByteArray.empty,.string ByteArray.empty,.int .i64 0,.bool false]).cells (R.length+1 - i) ++ Builtin.zeroCells (Value.agg #[.string ByteArray.empty,.string ByteArray.empty,.int .i64 0,.bool false]).cells (G - (R.length+1))) 206)=W1:=⟨_,rfl⟩
 have hrz:∀ ty,(Builtin.append_ #[127,3] ty #[.slice (some ⟨g,0,none⟩) i R.length,.int .i64 ((R.length:Int)+1 - (i:Int))]).run Tryz.prog w=.ok (.slice (some ⟨w.heap.size,0,none⟩) (R.length+1) G) W1:=fun ty=>by
  have h:=Lib.run_append_grow_zeros (P:=Tryz.prog) w 127 3 ty 206 i0 _ .i64 .i64 Tryz.underlying127 Tryz.underlying3 hi0 hz0 (some ⟨g,0,none⟩) i R.length ((R.take i).flatMap msgC) hold (R.length+1 - i) (by omega) (by omega) (by omega) (by omega) (by rw [hz2];omega) (by rw [hz2,hik];exact growslice_fits (by omega) (by omega))
  rw [hik,hG,hW1,← hks] at h
  exact h
 obtain ⟨zs,hzs,how⟩:=own_zeros w.drew ((R.take i).flatMap msgC) (Value.agg #[.string ByteArray.empty,.string ByteArray.empty,.int .i64 0,.bool false]).cells R.length i G 206 rfl (by rw [msg_flat,List.length_take];omega) h4 hGn hGm
 rw [hW1] at how
 have hB1:Below w.heap.size w W1:=by rw [← hW1];exact (Below.refl _ _).drew.alloc (Nat.le_refl _) _
 have hinf:(Tryz.prog.info? 206).map (·.size)=some 4:=by rw [hi0];simp [hz1]
 have hdl:((R.drop i).flatMap msgC).length=(R.length - i)*4:=by rw [msg_flat,List.length_drop]
 have hmn:Nat.min (R.length - i) (R.length - i)=R.length - i:=Nat.min_self _
 have hmn2:Nat.min 1 (R.length+1 - i)=1:=by simp only [Nat.min_def];split<;>omega
 have hbW:=(hB1.block _ (blk_lt hb)).trans hb
 have how':w.drew.heap.size=w.heap.size:=rfl
 rw [how'] at how
 have hcpA:∀ ty dc,(Builtin.copy_ #[127,127] ty #[.slice (some ⟨w.heap.size,i*4,none⟩) (R.length+1 - i) dc,.slice (some ⟨vb,0,none⟩) 1 1]).run Tryz.prog W1=.ok (goInt 1) (W1.setCells w.heap.size (i*4) (msgC m)):=fun ty dc=>by
  have h:=run_copy_z (P:=Tryz.prog) W1 127 127 ty 206 4 w.heap.size (i*4) (R.length+1 - i) dc ⟨vb,0,none⟩ 1 1 (msgC m) Tryz.underlying127 hinf (by rw [hmn2];rfl) (msg_news hbW) (fun j hj=>(own_room how (by rw [msgC_len] at hj;omega)).1) (fun j hj=>(own_room how (by rw [msgC_len] at hj;omega)).2) (msg_ones m)
  rw [hmn2] at h
  exact h
 have how2:=own_patch (o:=i*4) (vs:=msgC m) how (by rw [msgC_len];omega)
 have hB2:But (fun b=>b=w.heap.size) w (W1.setCells w.heap.size (i*4) (msgC m)):=(But.of_below hB1).trans (But.cells (F:=fun b=>b=w.heap.size) rfl _ W1 _) (fun _ _ e=>e)
 generalize W1.setCells w.heap.size (i*4) (msgC m)=W2 at *
 have hcpB:∀ ty dc sc,(Builtin.copy_ #[127,127] ty #[.slice (some ⟨w.heap.size,(i+1)*4,none⟩) (R.length - i) dc,.slice (some ⟨g,i*4,none⟩) (R.length - i) sc]).run Tryz.prog W2.drew=.ok (goInt (R.length - i:Nat)) (W2.drew.setCells w.heap.size ((i+1)*4) ((R.drop i).flatMap msgC)):=fun ty dc sc=>by
  have h:=run_copy_z (P:=Tryz.prog) W2.drew 127 127 ty 206 4 w.heap.size ((i+1)*4) (R.length - i) dc ⟨g,i*4,none⟩ (R.length - i) sc ((R.drop i).flatMap msgC) Tryz.underlying127 hinf (by rw [hdl,hmn]) (fun j u hj=>by
   rw [add_off]
   rw [← fl_drop msgC_len,List.getElem?_drop] at hj
   exact hB2.cell (a:=⟨g,i*4+j,none⟩) (fun e=>by simp only at e;omega) (hcells _ _ hj)) (fun j hj=>(own_room how2 (by rw [hdl] at hj;omega)).1) (fun j hj=>(own_room how2 (by rw [hdl] at hj;omega)).2) (msgs_ones _)
  rw [hmn] at h
  exact h
 have HW3:=hide (own_patch (o:=(i+1)*4) (vs:=(R.drop i).flatMap msgC) (show W2.drew.ownsRow 0 206 4 _ _ _ from how2) (by rw [hdl];omega))
 have HB3:=hide (hB2.drew.trans (But.cells (F:=fun b=>b=w.heap.size) rfl ((R.drop i).flatMap msgC) W2.drew ((i+1)*4)) (fun _ _ e=>e))
 have HROW:=hide (ins_rowL ((R.take i).flatMap msgC) (msgC m) ((R.drop i).flatMap msgC) zs i R.length hi (by rw [msg_flat,List.length_take];omega) rfl hdl hzs)
 have hw1:IntKind.i64.wrap ((i:Int)+1)=(i:Int)+1:=by rw [IntKind.wrap_i64];omega
 have hb1:(0:Int)≤(i:Int)+1:=by omega
 have hb2:(i:Int)+1≤(R.length:Int)+1:=by omega
 have htn:((i:Int)+1).toNat=i+1:=by omega
 have hb3:(i:Int)≤(R.length:Int)+1:=by omega
 have hb4:R.length+1 - (i+1)=R.length - i:=by omega
 have hGi:¬ (G=i):=by omega
 have hGi1:¬ (G=i+1):=by omega
 unfold maxLen at hGm
 have HCB:=hide hcpB
 clear hcpB hv hb hbW hold hG hW1 hB1 hB2 how how2 how' hks hik hmn hmn2 hdl hcells hzs
 go_enter Tryz.func190,Tryz.ntmps190
 go_wp2_with (first
  | (at_builtin;refine Lib.wpList_append_run _ rfl _ _ _ _ rfl _ _ rfl rfl _ _ (hrz _) ?_)
  | (at_builtin;refine wpList_copy_is _ rfl _ _ 127 127 rfl _ _ rfl rfl (hcpA _ _) ?_)
  | simp only [hrz,hcpA])
 go_region_law (
  refine step_copy_is rfl _ _ 127 127 rfl _ _ (by simp [Act.eval,Act.put];rfl) (by simp [Act.eval,Act.put];rfl) (HCB.out _ _ _) ?_)
 all_goals
  go_wp2
  go_ret
  refine ⟨_,rfl,HB3.out.wide (fun b hb e=>by omega),Or.inr ⟨_,rfl,Nat.le_refl _⟩,?_⟩
  have h9:=HW3.out
  rw [HROW.out] at h9
  rw [show (R.take i ++ [m] ++ R.drop i).length=R.length+1 by simp;omega,show (R.take i ++ [m] ++ R.drop i).flatMap msgC=(R.take i).flatMap msgC ++ msgC m ++ (R.drop i).flatMap msgC by simp [List.flatMap_append]]
  exact h9
theorem ins_any (v:Value) (R:List Msg) (i:Nat) (m:Msg) (vb:Nat) (w:World) (hv:w.ownsRow 0 206 4 v R.length (R.flatMap msgC)) (hl:R.length≤1000) (hi:i≤R.length) (hb:w.heap[vb]?=some (.cells #[.string (bs m.topic),.string (bs m.payload),.int .i64 m.qos,.bool m.retain] 206)) (hne:v.ownBlock≠some vb) :
 Calls Tryz.prog 190 #[v,.int .i64 i,.slice (some ⟨vb,0,none⟩) 1 1] w (InsPost v (R.take i ++ [m] ++ R.drop i) w):=by
 rcases (show i=R.length∨i < R.length by omega) with rfl | hlt
 · have:=ins_end v R m vb w hv hl hb
   simpa using this
 · obtain ⟨q,kap,rfl⟩:=own_form hv
   obtain ⟨g,rfl,hg,hkc,hcm,_⟩:=own_at hv (by omega)
   rcases (show kap=R.length∨R.length+1≤kap by omega) with rfl | hr
   · exact ins_grow g R i m vb w hv hl hlt hb
   · exact ins_room g kap R i m vb w hv hl hlt hr hb (fun e=>hne (by rw [e];rfl))
end br
end Go.Proofs.YtnmfmoimjkoieaaGreatDoor
