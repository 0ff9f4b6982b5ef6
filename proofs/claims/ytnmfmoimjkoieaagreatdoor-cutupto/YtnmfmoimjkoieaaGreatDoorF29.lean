import Derived.Test.YtnmfmoimjkoieaaGreatDoorF24
import Derived.Test.YtnmfmoimjkoieaaGreatDoorF01
import Derived.Test.YtnmfmoimjkoieaaGreatDoorF04
import Derived.Test.YtnmfmoimjkoieaaGreatDoorF28
namespace Go.Proofs.YtnmfmoimjkoieaaGreatDoor
namespace br
open Go.RowKit topPlain topWalks decPlain Go.Maps
def compS (id:Int):Pkt:={ zP with kind:=7,id:=id }
set_option maxHeartbeats 800000 in
set_option maxRecDepth 100000 in
theorem bforget_any (B cb sb:Nat) (p:Pkt) (w:World) (Q1:World→Prop) (R:Ending→World→Prop) (f1:Option Addr) (f2 f3:Nat) (c1:Option Addr) (c2 c3:Nat) (hfv:p.fv=.slice f1 f2 f3) (hcv:p.cv=.slice c1 c2 c3)
 (hc:w.cell? ⟨cb,18,none⟩=some (.pointer (some ⟨sb,0,none⟩)))
 (hF:∀ w',Below w.heap.size w w'→Calls Tryz.prog 212 #[.pointer (some ⟨sb,0,none⟩),.int .i64 p.id] w' fun e w''=>e=.returned (.tuple #[])∧Q1 w''∧Keep w.heap.size w' w'')
 (hC1:∀ a,Q1 a→a.cell? ⟨cb,18,none⟩=some (.pointer (some ⟨sb,0,none⟩)))
 (hW:∀ w',Q1 w'→Calls Tryz.prog 131 #[.pointer (some ⟨B,0,none⟩),.pointer (some ⟨cb,0,none⟩),.agg (pkK (compS p.id))] w' fun e w''=>e=.returned (.tuple #[])∧R e w'') :
 Calls Tryz.prog 163 #[.pointer (some ⟨B,0,none⟩),.pointer (some ⟨cb,0,none⟩),.agg (pkK p)] w R:=by
 have HF:=hide hF
 have HW:=hide hW
 have HC1:=hide hC1
 have hlt:=cell_blt hc
 simp only at hlt
 simp only [pkK,hfv,hcv,compS,zP] at HW ⊢
 clear hF hW hC1 hfv hcv
 have hA:=hide fun o=>alloc_cell hc o
 go_enter Tryz.func163,Tryz.ntmps163
 go_wp2_with fail
 have hBA:=(Below.refl w.heap.size w).alloc (Nat.le_refl _) (.cells #[.int .i64 p.kind,.bool p.clean,.bool p.will,.int .i64 p.keep,.string (bs p.client),.bool p.present,.int .i64 p.code,.bool p.dup,.int .i64 p.qos,.bool p.retain,.string (bs p.topic),.string (bs p.payload),.int .i64 p.id,.slice f1 f2 f3,.slice c1 c2 c3] 36)
 have hnew:=heap_alloc_new w (.cells #[.int .i64 p.kind,.bool p.clean,.bool p.will,.int .i64 p.keep,.string (bs p.client),.bool p.present,.int .i64 p.code,.bool p.dup,.int .i64 p.qos,.bool p.retain,.string (bs p.topic),.string (bs p.payload),.int .i64 p.id,.slice f1 f2 f3,.slice c1 c2 c3] 36)
 have hA':=hA.out (.cells #[.int .i64 p.kind,.bool p.clean,.bool p.will,.int .i64 p.keep,.string (bs p.client),.bool p.present,.int .i64 p.code,.bool p.dup,.int .i64 p.qos,.bool p.retain,.string (bs p.topic),.string (bs p.payload),.int .i64 p.id,.slice f1 f2 f3,.slice c1 c2 c3] 36)
 generalize w.alloc (.cells #[.int .i64 p.kind,.bool p.clean,.bool p.will,.int .i64 p.keep,.string (bs p.client),.bool p.present,.int .i64 p.code,.bool p.dup,.int .i64 p.qos,.bool p.retain,.string (bs p.topic),.string (bs p.payload),.int .i64 p.id,.slice f1 f2 f3,.slice c1 c2 c3] 36)=W0 at *
 have hl0:=blk_lt hnew
 have HN:=hide hnew
 have d12:W0.cell? ⟨w.heap.size,12,none⟩=some (.int .i64 p.id):=blk_cell hnew rfl
 have HBA:=hide hBA
 clear hnew hBA hA hc
 go_region_held3 (fun w'=>w'.cell? ⟨w.heap.size,12,none⟩=some (.int .i64 p.id)∧w'.cell? ⟨cb,18,none⟩=some (.pointer (some ⟨sb,0,none⟩)))
  (go_keep)
  (first
   | (go_at_call 212
      refine (HF.out _ HBA.out.drew).mono ?_
      rintro e w1 ⟨rfl,hq1,hk1⟩
      have hN1:w1.heap[w.heap.size]?=some (.cells #[.int .i64 p.kind,.bool p.clean,.bool p.will,.int .i64 p.keep,.string (bs p.client),.bool p.present,.int .i64 p.code,.bool p.dup,.int .i64 p.qos,.bool p.retain,.string (bs p.topic),.string (bs p.payload),.int .i64 p.id,.slice f1 f2 f3,.slice c1 c2 c3] 36):=(hk1.2 _ (Nat.le_refl _) (by exact hl0)).trans HN.out
      have e12:w1.cell? ⟨w.heap.size,12,none⟩=some (.int .i64 p.id):=blk_cell hN1 rfl
      have hl1:=blk_lt hN1
      have c18:=HC1.out _ hq1
      have HQ:=hide hq1
      clear hq1 hk1 hN1))
 all_goals go_wp2_with fail
 refine (HW.out _ HQ.out).mono ?_
 rintro e w2 ⟨rfl,hR⟩
 have HR:=hide hR
 clear hR
 go_wp2
 go_end0
 exact HR.out
end br
namespace br
open Go.RowKit topPlain topWalks
theorem patch_get (vs:List Value):∀ (c:Array Value) (o k:Nat),o+vs.length≤c.size→(patch c o vs)[k]?=if o≤k∧k < o+vs.length then vs[k - o]? else c[k]?:=by
 induction vs with
 | nil=>intro c o k _;unfold patch;rw [if_neg (by simp)]
 | cons v vs ih =>
   intro c o k h
   simp only [List.length_cons] at h
   unfold patch
   rw [ih _ _ _ (by simp;omega)]
   simp only [List.length_cons]
   by_cases h1:k=o
   · subst h1
     rw [if_neg (by omega),if_pos (by omega),Array.getElem?_setIfInBounds]
     simp
     omega
   · by_cases h2:o+1≤k∧k < o+1+vs.length
     · rw [if_pos h2,if_pos (by omega),show k - o=(k - (o+1))+1 by omega,List.getElem?_cons_succ]
     · rw [if_neg h2,if_neg (by omega),Array.getElem?_setIfInBounds_ne (by omega)]
theorem patch_size (vs:List Value):∀ (c:Array Value) (o:Nat),(patch c o vs).size=c.size:=by
 induction vs with
 | nil=>intro c o;rfl
 | cons v vs ih=>intro c o;unfold patch;rw [ih];simp
theorem flat_get {l:List Uw} (k:Nat):(l.flatMap uwC)[k]?=(l[k / 7]?).bind fun u=>(uwC u)[k % 7]?:=by
 have hk:k=k / 7*7+k % 7:=by omega
 cases hu:l[k / 7]? with
 | none =>
   have:l.length≤k / 7:=by simpa using hu
   rw [List.getElem?_eq_none (by rw [uwC_flat_length];omega)]
   rfl
 | some u =>
   conv=>lhs;rw [hk]
   rw [uwC_at hu (k % 7) (by omega)]
   rfl
theorem own_set {w:World} {g n kap i:Nat} {l:List Uw} (h:w.ownsRow 0 252 7 (.slice (some ⟨g,0,none⟩) n kap) n (l.flatMap uwC)) (hl:l.length=n) (hi:i < n) (u:Uw):(w.setCells g (i*7) (uwC u)).ownsRow 0 252 7 (.slice (some ⟨g,0,none⟩) n kap) n ((l.set i u).flatMap uwC):=by
 rcases h.2 with ⟨e,_⟩ | ⟨g',kap',cur,e,_,hg,h1,h2,h3,h4⟩
 · cases e
 · cases e
   refine ⟨by rw [uwC_flat_length,List.length_set,hl],Or.inr ⟨g,kap,patch cur (i*7) (uwC u),rfl,Nat.zero_le _,setCells_blk _ _ _ _ hg,h1,h2,by rw [patch_size];exact h3,?_⟩⟩
   have hul:(uwC u).length=7:=rfl
   apply List.ext_getElem?
   intro k
   rw [flat_get,List.getElem?_take]
   have hh:∀ k,k < n*7→cur[k]?=(l.flatMap uwC)[k]?:=fun k hk=>by
    rw [← h4,List.getElem?_take_of_lt hk];simp
   by_cases hk:k < n*7
   · rw [if_pos hk,Array.getElem?_toList,patch_get _ _ _ _ (by rw [hul,h3];omega),hul]
     by_cases hki:i*7≤k∧k < i*7+7
     · rw [if_pos hki,show k / 7=i by omega,List.getElem?_set_self (by omega),show k - i*7=k % 7 by omega]
       rfl
     · rw [if_neg hki,List.getElem?_set_ne (by omega),hh k hk,flat_get]
   · rw [if_neg hk,List.getElem?_eq_none (by rw [List.length_set];omega)]
     rfl
theorem own_cut {w:World} {g n kap i:Nat} {l:List Uw} {vs:List Value} (h:w.ownsRow 0 252 7 (.slice (some ⟨g,0,none⟩) n kap) n (l.flatMap uwC)) (hl:l.length=n) (hi:i≤n) (hv:vs.length=(n - i)*7):(w.setCells g (i*7) vs).ownsRow 0 252 7 (.slice (some ⟨g,0,none⟩) i kap) i ((l.take i).flatMap uwC):=by
 rcases h.2 with ⟨e,_⟩ | ⟨g',kap',cur,e,_,hg,h1,h2,h3,h4⟩
 · cases e
 · cases e
   refine ⟨by rw [uwC_flat_length,List.length_take];congr 1;omega,Or.inr ⟨g,kap,patch cur (i*7) vs,rfl,Nat.zero_le _,setCells_blk _ _ _ _ hg,by omega,h2,by rw [patch_size];exact h3,?_⟩⟩
   apply List.ext_getElem?
   intro k
   rw [flat_get,List.getElem?_take]
   by_cases hk:k < i*7
   · rw [if_pos hk,Array.getElem?_toList,patch_get _ _ _ _ (by rw [hv,h3];rw [← Nat.add_mul];exact Nat.mul_le_mul_right _ (by omega)),if_neg (by omega)]
     have:cur[k]?=(l.flatMap uwC)[k]?:=by rw [← h4,List.getElem?_take_of_lt (by omega)];simp
     rw [this,flat_get,List.getElem?_take_of_lt (by omega)]
   · rw [if_neg hk,List.getElem?_eq_none (by rw [List.length_take];omega)]
     rfl
def zUw:Value:=.agg #[.int .i64 0,.int .i64 0,.bool false,.string ByteArray.empty,.string ByteArray.empty,.int .i64 0,.bool false]
theorem run_clear_uw (w:World) (ty:TypeId) (b o n c:Nat) (hn:0 < n) (hc:∀ j,j < n*7→(w.cell? ⟨b,o+j,none⟩).isSome=true) (hf:∀ j,j < n*7→w.frozen? ⟨b,o+j,none⟩=false) :
 ∃ vs,vs.length=n*7∧(Builtin.clear_ #[186] ty #[.slice (some ⟨b,o,none⟩) n c]).run Tryz.prog w=.ok (.tuple #[]) (w.setCells b o vs):=by
 refine ⟨(Builtin.zeroCells zUw.cells n).toList,by simp [Builtin.zeroCells,zUw,Value.cells],?_⟩
 have hl:(Builtin.zeroCells zUw.cells n).toList.length=n*7:=by simp [Builtin.zeroCells,zUw,Value.cells]
 have hst:=run_storeCells_cells (P:=Tryz.prog) b o (Builtin.zeroCells zUw.cells n).toList 0 w (by rw [hl];simpa using hc) (by rw [hl];simpa using hf) (by
  intro v hv
  have hm:v∈(Array.range (n*7)).map (fun i=>(#[.int .i64 0,.int .i64 0,.bool false,.string ByteArray.empty,.string ByteArray.empty,.int .i64 0,.bool false]:Array Value)[i % 7]!):=Array.mem_toList_iff.1 hv
  obtain ⟨i,_,rfl⟩:=Array.mem_map.1 hm
  have h7:i % 7 < 7:=Nat.mod_lt _ (by decide)
  match i % 7,h7 with
  | 0,_=>rfl | 1,_=>rfl | 2,_=>rfl | 3,_=>rfl | 4,_=>rfl | 5,_=>rfl | 6,_=>rfl)
 simp only [Nat.add_zero] at hst
 obtain ⟨m,rfl⟩:∃ m,n=m+1:=⟨n - 1,by omega⟩
 simp [Builtin.clear_,run_underlying Tryz.underlying186]
 show (Result.andThen (Sem.run Tryz.prog (storeCells ⟨b,o,none⟩ (Builtin.zeroCells zUw.cells (m+1)).toList) w) _)=_
 rw [hst]
 rfl
structure KeptAt (p:Uw→Bool) (l:List Uw) (m k:Nat) (M:List Uw):Prop where
 len:M.length=l.length
 lt:m < k
 low:M.take m=(l.take k).filter fun u=>!p u
 high:∀ t,m≤t→M[t]?=l[t]?
theorem kept_start {p:Uw→Bool} {l:List Uw} {k0:Nat} (h:k0 < l.length) (hp:p l[k0]=true) (hb:∀ j (hj:j < k0),¬ p (l[j]'(Nat.lt_trans hj h))=true):KeptAt p l k0 (k0+1) l:=by
 refine ⟨rfl,by omega,?_,fun _ _=>rfl⟩
 rw [List.take_add_one,List.getElem?_eq_getElem h,List.filter_append]
 simp only [Option.toList_some,List.filter_cons,hp,List.filter_nil,Bool.not_true,Bool.false_eq_true,if_false,List.append_nil]
 symm
 rw [List.filter_eq_self]
 intro u hu
 obtain ⟨j,hj,rfl⟩:=List.getElem_of_mem hu
 have hjk:j < k0:=by rw [List.length_take] at hj;omega
 have:=hb j hjk
 simpa using this
theorem KeptAt.drop {p:Uw→Bool} {l M:List Uw} {m k:Nat} {u:Uw} (h:KeptAt p l m k M) (hu:l[k]?=some u) (hp:p u=true):KeptAt p l m (k+1) M:=by
 refine ⟨h.len,by have:=h.lt;omega,?_,h.high⟩
 rw [List.take_add_one,hu,List.filter_append,← h.low]
 simp [hp]
theorem KeptAt.keep {p:Uw→Bool} {l M:List Uw} {m k:Nat} {u:Uw} (h:KeptAt p l m k M) (hu:l[k]?=some u) (hp:p u=false) (hm:m < l.length):KeptAt p l (m+1) (k+1) (M.set m u):=by
 refine ⟨by rw [List.length_set];exact h.len,by have:=h.lt;omega,?_,fun t ht=>by rw [List.getElem?_set_ne (by omega)];exact h.high t (by omega)⟩
 rw [List.take_add_one,List.take_add_one,hu,List.filter_append,← h.low,List.getElem?_set_self (by rw [h.len];exact hm),List.take_set_of_le (Nat.le_refl _)]
 simp [hp]
theorem row_some {w:World} {g n kap j:Nat} {l:List Uw} (h:w.ownsRow 0 252 7 (.slice (some ⟨g,0,none⟩) n kap) n (l.flatMap uwC)) (hl:l.length=n) (hj:j < n*7):(w.cell? ⟨g,j,none⟩).isSome=true:=by
 obtain ⟨g',e,_,_,_,hc⟩:=own_at h (by omega)
 cases e
 have hjl:j < (l.flatMap uwC).length:=by rw [uwC_flat_length,hl];exact hj
 rw [hc j _ (List.getElem?_eq_getElem hjl)]
 rfl
def isDone (id:Int) (u:Uw):Bool:=u.id == id && u.qos == 1
theorem done1_any (u:Uw) (bx:Nat) (id:Int) (w:World) (hb:w.cell? ⟨bx,0,none⟩=some (.int .i64 id)) :
 Calls Tryz.prog 209 #[.agg #[.int .i64 u.id,.int .i64 u.qos,.bool u.rel,.string (bs u.msg.topic),.string (bs u.msg.payload),.int .i64 u.msg.qos,.bool u.msg.retain],.pointer (some ⟨bx,0,none⟩)] w fun e w'=>e=.returned (.bool (isDone id u))∧Below w.heap.size w w':=by
 have hlt:=cell_blt hb
 simp only at hlt
 unfold isDone
 by_cases h1:u.id=id
 · have h1b:(u.id == id)=true:=beq_iff_eq.2 h1
   rw [h1b]
   go_enter Tryz.func209,Tryz.ntmps209
   go_wp2
   go_ret
   exact ⟨by simp,(Below.refl _ _).alloc (Nat.le_refl _) _⟩
 · have h1b:(u.id == id)=false:=beq_eq_false_iff_ne.2 h1
   rw [h1b]
   go_enter Tryz.func209,Tryz.ntmps209
   go_wp2
   go_ret
   exact ⟨by simp,(Below.refl _ _).alloc (Nat.le_refl _) _⟩
set_option maxHeartbeats 400000 in
set_option maxRecDepth 100000 in
theorem idxD_any (v:Value) (l:List Uw) (id:Int) (bx:Nat) (w:World) (hv:w.ownsRow 0 252 7 v l.length (l.flatMap uwC)) (hbx:w.cell? ⟨bx,0,none⟩=some (.int .i64 id)) :
 Calls Tryz.prog 238 #[v,.func (.func 209) #[] #[.pointer (some ⟨bx,0,none⟩)]] w fun e w'=>e=.returned (.int .i64 (idx (isDone id) l))∧Below w.heap.size w w':=by
 obtain ⟨q,kap,rfl⟩:=own_form hv
 have HV:=hide hv
 have HX:=hide hbx
 have HF:=hide fun u w hb=>done1_any u bx id w hb
 clear hv hbx
 go_enter Tryz.func238,Tryz.ntmps238
 go_wp2_with fail
 go_loopw [8] (fun i wx=>∃ (k:Nat),k≤l.length∧i=.int .i64 k∧Below w.heap.size w wx∧∀ (j:Nat) y,j < k→l[j]?=some y→isDone id y=false) (fun i _=>l.length - (intOf i).toNat)
 case atStart=>exact ⟨0,Nat.zero_le _,rfl,Below.refl _ _,fun j y h=>by omega⟩
 case round =>
  obtain ⟨k,hk,rfl,hB,hno⟩:=hrel
  have HB:=hide hB
  have HN:=hide hno
  clear hB hno
  by_cases hlt:k < l.length
  · obtain ⟨u,hu⟩:∃ u,l[k]?=some u:=⟨_,List.getElem?_eq_getElem hlt⟩
    obtain ⟨g,rfl,hg,hkc,hcm,_⟩:=own_at HV.out (by omega)
    unfold maxLen at hcm
    obtain ⟨h0,h1,h2,h3,h4,h5,h6⟩:=uw_cells (wr:=wr) HV.out hu rfl (HB.out.block _ hg)
    have HU:=hide hu
    clear hu
    go_wp2_with fail
    refine (HF.out u wr (by rw [HB.out.cell (cell_blt HX.out)];exact HX.out)).mono ?_
    rintro e w1 ⟨rfl,hB1⟩
    have HB1:=hide (HB.out.trans (hB1.mono HB.out.size))
    clear hB1
    by_cases hp:isDone id u=true
    · rw [hp]
      go_wp2
      go_ret
      exact ⟨by rw [idx_some HU.out hp HN.out];rfl,HB1.out⟩
    · have hp':isDone id u=false:=by simpa using hp
      rw [hp']
      have HP:=hide hp'
      clear hp hp'
      go_wp2
      go_roundw
      case rel=>exact ⟨k+1,by omega,by go_num,HB1.out,fun j y hj hy=>by
       by_cases e:j=k
       · subst e;have:=HU.out;rw [this] at hy;cases hy;exact HP.out
       · exact HN.out j y (by omega) hy⟩
      case measure=>simp [intOf];omega
  · go_wp2
    go_ret
    exact ⟨by rw [idx_none (fun j x hj=>HN.out j x (by have:=(List.getElem?_eq_some_iff.1 hj).1;omega) hj)];rfl,HB.out⟩
set_option maxHeartbeats 800000 in
set_option maxRecDepth 100000 in
theorem delD_any (v:Value) (l:List Uw) (id:Int) (bx:Nat) (w:World) (hv:w.ownsRow 0 252 7 v l.length (l.flatMap uwC)) (hbx:w.heap[bx]?=some (.cells #[.int .i64 id] 3)) :
 Calls Tryz.prog 237 #[v,.func (.func 209) #[] #[.pointer (some ⟨bx,0,none⟩)]] w fun e w'=>∃ v',e=.returned v'∧But (fun b=>v.ownBlock=some b) w w'∧v'.ownBlock=v.ownBlock∧w'.ownsRow 0 252 7 v' (l.filter fun u=>!isDone id u).length ((l.filter fun u=>!isDone id u).flatMap uwC):=by
 have cI:=hide (idxD_any v l id bx w hv (blk_cell hbx rfl))
 obtain ⟨q,kap,rfl⟩:=own_form hv
 have HV:=hide hv
 have HX:=hide hbx
 have HF:=hide fun u w hb=>done1_any u bx id w hb
 clear hv hbx
 go_enter Tryz.func237,Tryz.ntmps237
 go_wp2_with fail
 refine cI.out.mono ?_
 rintro e w1 ⟨rfl,hB1⟩
 cases hi:l.findIdx? (isDone id) with
 | none =>
   have e1:idx (isDone id) l=-1:=by unfold idx;rw [hi]
   rw [e1]
   have hall:l.filter (fun u=>!isDone id u)=l:=by
    rw [List.filter_eq_self]
    intro u hu
    have:=List.findIdx?_eq_none_iff.1 hi u hu
    simp [this]
   have HALL:=hide hall
   clear hi hall
   go_wp2
   go_ret
   rw [HALL.out]
   exact ⟨_,rfl,But.of_below hB1,rfl,own_keep HV.out (fun b hb=>by obtain ⟨cur,hc⟩:=own_blk HV.out hb;exact hB1.block b (blk_lt hc))⟩
 | some k0 =>
   have e1:idx (isDone id) l=(k0:Int):=by unfold idx;rw [hi]
   rw [e1]
   obtain ⟨hk0,hp0,hb0⟩:=List.findIdx?_eq_some_iff_getElem.1 hi
   obtain ⟨g,rfl,hg,hkc,hcm,_⟩:=own_at HV.out (by omega)
   unfold maxLen at hcm
   have HB1:=hide hB1
   have HK:=hide (kept_start hk0 hp0 hb0)
   have HV1:=hide (own_keep HV.out (fun b hb=>by obtain ⟨cur,hc⟩:=own_blk HV.out hb;exact hB1.block b (blk_lt hc)))
   have hsz1:=hB1.size
   clear e1 hi hp0 hb0 hB1
   go_wp2_with fail
   go_loopw [5,6] (fun i j wx=>∃ (m k:Nat) (M:List Uw),k≤l.length∧i=.int .i64 m∧j=.int .i64 k∧KeptAt (isDone id) l m k M∧wx.ownsRow 0 252 7 (.slice (some ⟨g,0,none⟩) l.length kap) l.length (M.flatMap uwC)∧But (fun b=>b=g) w wx) (fun _ j _=>l.length - (intOf j).toNat)
   case atStart=>exact ⟨k0,k0+1,l,by omega,rfl,by go_num,HK.out,HV1.out,But.of_below HB1.out⟩
   case round =>
    obtain ⟨m,k,M,hk,rfl,rfl,hK,hO,hbut⟩:=hrel
    have hmk:=hK.lt
    have hMl:=hK.len
    have HKA:=hide hK
    have HO:=hide hO
    have HBU:=hide hbut
    have hszr:=hbut.size
    obtain ⟨cur,hcur⟩:=own_blk hO (b:=g) rfl
    clear hK hO hbut
    by_cases hlt:k < l.length
    · obtain ⟨u,hu⟩:∃ u,l[k]?=some u:=⟨_,List.getElem?_eq_getElem hlt⟩
      have hMu:M[k]?=some u:=by rw [HKA.out.high k (by omega)];exact hu
      obtain ⟨h0,h1,h2,h3,h4,h5,h6⟩:=uw_cells (wr:=wr) HO.out hMu hMl rfl
      obtain ⟨y,hy⟩:∃ y,M[m]?=some y:=⟨_,List.getElem?_eq_getElem (by omega)⟩
      have HU:=hide hu
      have HBX:Hid (wr.heap[bx]?=some (.cells #[.int .i64 id] 3)):=HBU.out.blk (fun e=>by have h9:=HX.out;obtain ⟨c9,hc9⟩:=own_blk HV.out (b:=g) rfl;rw [e,hc9] at h9;simp at h9) HX.out
      have HAL:=hide fun o=>(Below.refl wr.heap.size wr).alloc (Nat.le_refl _) o
      clear hu hMu
      have hgr:g < wr.heap.size:=by omega
      go_wp2_with fail
      refine (HF.out u _ (alloc_cell (blk_cell HBX.out rfl) _)).mono ?_
      rintro e w2 ⟨rfl,hB2⟩
      have hB2r:=(HAL.out _).trans (hB2.mono (HAL.out _).size)
      have hO2:=own_keep HO.out (fun b hb=>by obtain ⟨c9,hc9⟩:=own_blk HO.out hb;exact hB2r.block b (blk_lt hc9))
      have hv2:=(hB2.block _ (by simp)).trans (heap_alloc_new wr (.cells #[.int .i64 u.id,.int .i64 u.qos,.bool u.rel,.string (bs u.msg.topic),.string (bs u.msg.payload),.int .i64 u.msg.qos,.bool u.msg.retain] 252))
      have hl2:=blk_lt hv2
      obtain ⟨j0,j1,j2,j3,j4,j5,j6⟩:=uw_cells (wr:=w2) hO2 hy hMl rfl
      have n0:w2.cell? ⟨wr.heap.size,0,none⟩=some (.int .i64 u.id):=blk_cell hv2 rfl
      have n1:w2.cell? ⟨wr.heap.size,1,none⟩=some (.int .i64 u.qos):=blk_cell hv2 rfl
      have n2:w2.cell? ⟨wr.heap.size,2,none⟩=some (.bool u.rel):=blk_cell hv2 rfl
      have n3:w2.cell? ⟨wr.heap.size,3,none⟩=some (.string (bs u.msg.topic)):=blk_cell hv2 rfl
      have n4:w2.cell? ⟨wr.heap.size,4,none⟩=some (.string (bs u.msg.payload)):=blk_cell hv2 rfl
      have n5:w2.cell? ⟨wr.heap.size,5,none⟩=some (.int .i64 u.msg.qos):=blk_cell hv2 rfl
      have n6:w2.cell? ⟨wr.heap.size,6,none⟩=some (.bool u.msg.retain):=blk_cell hv2 rfl
      obtain ⟨cur2,hcur2⟩:=own_blk hO2 (b:=g) rfl
      have q0:w2.frozen? ⟨g,m*7,none⟩=false:=blk_frozen hcur2
      have q1:w2.frozen? ⟨g,m*7+1,none⟩=false:=blk_frozen hcur2
      have q2:w2.frozen? ⟨g,m*7+2,none⟩=false:=blk_frozen hcur2
      have q3:w2.frozen? ⟨g,m*7+3,none⟩=false:=blk_frozen hcur2
      have q4:w2.frozen? ⟨g,m*7+4,none⟩=false:=blk_frozen hcur2
      have q5:w2.frozen? ⟨g,m*7+5,none⟩=false:=blk_frozen hcur2
      have q6:w2.frozen? ⟨g,m*7+6,none⟩=false:=blk_frozen hcur2
      have HO2:=hide hO2
      have HB2:=hide (HBU.out.trans (But.of_below (F:=fun _=>False) hB2r) (fun _ _ f=>f.elim))
      have hg2:g < w2.heap.size:=by have:=hB2r.size;omega
      clear hB2 hB2r hO2 hv2 hcur2 hcur h0 h1 h2 h3 h4 h5 h6
      by_cases hp:isDone id u=true
      · rw [hp]
        have HP:=hide hp
        clear hp
        go_wp2
        go_roundw
        case rel =>
         refine ⟨_,_,_,_,_,_,_,_,_,_,_,_,_,_,_,_,_,_,_,_,_,_,_,?_,rfl⟩
         exact ⟨m,k+1,M,by omega,rfl,by go_num,HKA.out.drop HU.out HP.out,HO2.out,HB2.out⟩
        case measure=>simp [intOf];omega
      · have hp':isDone id u=false:=by simpa using hp
        rw [hp']
        have HP:=hide hp'
        clear hp hp'
        go_wp2
        go_roundw
        case rel =>
         refine ⟨_,_,_,_,_,_,_,_,_,_,_,_,_,_,_,_,_,_,_,_,_,_,_,?_,rfl⟩
         exact ⟨m+1,k+1,M.set m u,by omega,by go_num,by go_num,HKA.out.keep HU.out HP.out (by omega),own_set HO2.out hMl (by omega) u,HB2.out.trans (But.cells (F:=fun b=>b=g) rfl (uwC u) w2 (m*7)) (fun _ _ e=>e)⟩
        case measure=>simp [intOf];omega
    · have hkl:k=l.length:=by omega
      subst hkl
      obtain ⟨vs,hvs,hclr⟩:∃ vs:List Value,vs.length=(l.length - m)*7∧∀ ty,(Builtin.clear_ #[186] ty #[.slice (some ⟨g,m*7,none⟩) (l.length - m) (kap - m)]).run Tryz.prog wr=.ok (.tuple #[]) (wr.setCells g (m*7) vs):=by
       obtain ⟨vs,h1,h2⟩:=run_clear_uw wr 0 g (m*7) (l.length - m) (kap - m) (by omega) (fun j hj=>row_some HO.out hMl (by omega)) (fun j hj=>blk_frozen hcur)
       exact ⟨vs,h1,fun ty=>h2⟩
      have HVS:=hide hvs
      have HCL:=hide hcur
      clear hvs hcur hlt
      go_wp2_with fail
      go_ret
      have hlow:=HKA.out.low
      rw [List.take_length] at hlow
      have hml:(l.filter fun u=>!isDone id u).length=m:=by rw [← hlow,List.length_take,hMl];omega
      refine ⟨_,rfl,(HBU.out.trans (But.cells (F:=fun b=>b=g) rfl vs wr (m*7)) (fun _ _ e=>e)).wide (fun b _ e=>by rw [e];rfl),rfl,?_⟩
      rw [hml,← hlow]
      exact own_cut HO.out hMl (by omega) HVS.out
end br
namespace br
open Go.RowKit topPlain topWalks decPlain Go.Conc
def mayS (on:Bool) (S:Ses):Bool:=on && decide ((S.under.length:Int) < S.window)
def goS (on:Bool) (S:Ses):Ses:=match S.waiting with
 | []=>S
 | m :: r=>if mayS on S then beginS { S with waiting:=r } m else S
def goM (on:Bool) (S:Ses):Option Msg:=match S.waiting with
 | []=>none
 | m :: _=>if mayS on S then some m else none
theorem Wrote.behind {F:Nat→Prop} {w w1 w':World} {B:Nat} {BV:BrV} {ov:Value} {L:List (OutS×Value)} {ms:List OutS} (hB:But F w w1) (h:Wrote F w1 B BV ov L ms w'):Wrote F w B BV ov L ms w':=by
 obtain ⟨ov',M,h1,h2,h3,h4,h5⟩:=h
 exact ⟨ov',M,h1,h2,(hB.wide (fun _ _ f=>Or.inl f)).trans h3 (fun _ _ f=>f),h4.imp id (fun ⟨b,e1,e2⟩=>⟨b,e1,Nat.le_trans hB.size e2⟩),fun o ho b hb=>Nat.le_trans hB.size (h5 o ho b hb)⟩
theorem Wrote.then_ {F:Nat→Prop} {w w1 w':World} {B:Nat} {BV:BrV} {ov:Value} {L:List (OutS×Value)} {ms:List OutS} (h:Wrote F w B BV ov L ms w') (hB:Below w'.heap.size w' w1):Wrote F w B BV ov L ms w1:=by
 obtain ⟨ov',M,h1,h2,h3,h4,h5⟩:=h
 exact ⟨ov',M,h1.below hB,h2,h3.trans (But.of_below (F:=fun _=>False) hB) (fun _ _ f=>f.elim),h4,h5⟩
set_option maxHeartbeats 1600000 in
theorem goOn_one {N0:Nat} (sb B cb:Nat) (n:Int) (d:List UInt8) (V:SesV) (S:Ses) (BV:BrV) (ov:Value) (L:List (OutS×Value)) (w:World) (hE:∀ m,goM V.snd.isSome S=some m→EncOK N0 w (pktS m (nextS S.last S.under)) d) (hV:∀ b,V.has sb b→N0≤b) (hs:SesAt w sb V S) (h:BlkAt w B BV ov L) (hS:SinkO w B cb n V.snd) (hL:L.length < 1000000000000) (h0:0≤S.last) (hl:S.under.length < 65000)
 (hone:(goS V.snd.isSome S).waiting = []∨mayS V.snd.isSome (goS V.snd.isSome S)=false) :
 Calls Tryz.prog 174 #[.pointer (some ⟨sb,0,none⟩)] w fun e w'=>e=.returned (.tuple #[])∧Wrote (V.has sb) w B BV ov L (if (goM V.snd.isSome S).isSome then outTo n V.snd [d] else []) w'∧∃ uv',SesAt w' sb { V with uv:=uv' } (goS V.snd.isSome S)∧(uv'.ownBlock=V.uv.ownBlock∨∃ b,uv'.ownBlock=some b∧w.heap.size≤b):=by
 have hlt:=blk_lt hs.blk
 have hz:=zeroMsg
 obtain ⟨St,hSt⟩:∃ St:Nat→World→Prop,St=fun k w'=>(k=1∧w'=w∧(goM V.snd.isSome S).isSome=true)∨(k=0∧Wrote (V.has sb) w B BV ov L (if (goM V.snd.isSome S).isSome then outTo n V.snd [d] else []) w'∧∃ uv',SesAt w' sb { V with uv:=uv' } (goS V.snd.isSome S)∧(uv'.ownBlock=V.uv.ownBlock∨∃ b,uv'.ownBlock=some b∧w.heap.size≤b)):=⟨_,rfl⟩
 have hst0:∃ k,St k w:=by
  rw [hSt]
  cases hg:goM V.snd.isSome S with
  | some m=>exact ⟨1,Or.inl ⟨rfl,rfl,rfl⟩⟩
  | none =>
    have e:goS V.snd.isSome S=S:=by
     unfold goM at hg
     unfold goS
     cases hw:S.waiting with
     | nil=>rfl
     | cons m r=>rw [hw] at hg;simp only at hg ⊢;split at hg<;>simp_all
    refine ⟨0,Or.inr ⟨rfl,?_,V.uv,by rw [e];exact hs,Or.inl rfl⟩⟩
    exact Wrote.none h (But.refl _ _) (fun b hb=>hs.clear h b hb)
 obtain ⟨k0,hk0⟩:=hst0
 have HST:=hide hk0
 clear hk0
 refine calls_of_wpN Tryz.func174 rfl ?_
 simp only [Tryz.ntmps174,List.size_toArray,List.length_cons,List.length_nil,Nat.reduceAdd,Nat.reduceSub,Array.replicate_succ,Array.replicate_zero,List.push_toArray,List.append_toArray,List.nil_append,List.cons_append]
 refine wpN_block (wpN_loop (fun k a w'=>St k w'∧∃ t1 t2 t3 t4 t5 t6 t7 t8 t9 t10 t11 t12 t13 t14 t15,a=⟨#[.pointer (some ⟨sb,0,none⟩),t1,t2,t3,t4,t5,t6,t7,t8,t9,t10,t11,t12,t13,t14,t15],[]⟩) k0 ⟨HST.out,_,_,_,_,_,_,_,_,_,_,_,_,_,_,_,rfl⟩ ?_)
 rintro k a w' ⟨hst,t1,t2,t3,t4,t5,t6,t7,t8,t9,t10,t11,t12,t13,t14,t15,rfl⟩
 rw [hSt] at hst
 rcases hst with ⟨rfl,rfl,hgo⟩ | ⟨rfl,hW,uv',hs',huv⟩
 · obtain ⟨m,hm⟩:=Option.isSome_iff_exists.1 hgo
   have hmay:mayS V.snd.isSome S=true∧∃ r,S.waiting=m :: r:=by
    unfold goM at hm
    cases hw:S.waiting with
    | nil=>rw [hw] at hm;cases hm
    | cons m' r =>
      rw [hw] at hm
      simp only at hm
      split at hm
      · rename_i hh;cases hm;exact ⟨hh,r,rfl⟩
      · cases hm
   obtain ⟨hmay,r,hwt⟩:=hmay
   have cM:=hide (mayGo_any sb V S w' hs)
   have H:=hide hs
   have HBK:=hide h
   have HSK:=hide hS
   refine wpN_seq_wp fun K hK=>?_
   go_wp2_with fail
   refine cM.out.mono ?_
   rintro e w1 ⟨rfl,hB1⟩
   have hmay':(V.snd.isSome && decide ((S.under.length:Int) < S.window))=true:=hmay
   rw [hmay']
   have HB1:=hide hB1
   have H1:=hide (H.out.below hB1)
   go_wp2
   have c4:w1.cell? ⟨sb,4,none⟩=some (.chan (some V.cb)):=blk_cell H1.out.blk rfl
   obtain ⟨s0,r0,hc⟩:=H1.out.chn
   refine wpN_block (wpN_seq_wp fun K hK=>?_)
   go_wp2
   refine wpN_seq_k fun K hK=>(wpN_recv (c:=V.cb) (cap:=S.queue) (s:=s0) (r:=r0) (buf:=(S.waiting.map msgV).toArray) (z:=.agg #[.string ByteArray.empty,.string ByteArray.empty,.int .i64 0,.bool false]) rfl ?hx ?hc ?h1 ?h2)
   case hx=>simp [go_sem,execOp,rcase,Act.eval,hz]
   case hc=>exact hc
   case h2=>intro hh;rw [hwt] at hh;simp at hh
   case h1 =>
    intro _
    have hbuf:(S.waiting.map msgV).toArray.getD 0 undef=msgV m:=by rw [hwt];rfl
    have hex:(S.waiting.map msgV).toArray.extract 1 (S.waiting.map msgV).toArray.size=(r.map msgV).toArray:=by
     rw [hwt]
     apply Array.ext'
     rw [Array.toList_extract]
     simp [List.extract]
     exact List.take_of_length_le (by simp)
    rw [hbuf,hex]
    have hS2:=H1.out.setChan r s0 (r0+1)
    have hB2:But (fun b=>b=V.cb) w' (w1.setChan V.cb S.queue (r.map msgV).toArray false s0 (r0+1) false):=(But.of_below HB1.out).trans (But.chan (F:=fun b=>b=V.cb) _ _ _ _ _ _ _ _ rfl) (fun _ _ e=>e)
    generalize w1.setChan V.cb S.queue (r.map msgV).toArray false s0 (r0+1) false=w2 at *
    have hcb:V.has sb V.cb:=Or.inr (Or.inr (Or.inr (Or.inl rfl)))
    have hBk2:BlkAt w2 B BV ov L:=HBK.out.but hB2 (fun b e=>by subst e;exact H.out.clear HBK.out _ hcb)
    have hSk2:SinkO w2 B cb n V.snd:=HSK.out.but hB2 (fun x y hx=>by
     have hf:=hx.free H.out
     exact ⟨fun e=>hf.1 (e ▸ hcb),fun e=>hf.2.1 (e ▸ hcb),fun e=>hf.2.2 (e ▸ hcb)⟩)
    have hE2:EncOK N0 w2 (pktS m (nextS S.last S.under)) d:=(hE m hm).but hB2 (fun b e=>by subst e;exact hV _ hcb)
    have cG:=hide fun w9 (hb:Below w2.heap.size w2 w9)=>begin_any (N0:=N0) sb B cb n m d V { S with waiting:=r } BV ov L w9 (hE2.below hb) hV (hS2.below hb) (hBk2.below hb) (hSk2.below hb) hL h0 hl
    have HB2:=hide hB2
    have HA2:=hide fun o=>(Below.refl w2.heap.size w2).alloc (Nat.le_refl _) o
    clear hc hS2 hB2 hBk2 hSk2 hE2 c4
    unfold msgV at cG ⊢
    simp only [Act.put,goInt]
    go_wp2
    refine wpN_of_wp ?_
    go_wp2_with fail
    refine (cG.out _ (HA2.out _)).mono ?_
    rintro e w4 ⟨rfl,hw4,uv',hs4,hu4⟩
    have hgs:goS V.snd.isSome S=beginS { S with waiting:=r } m:=by unfold goS;rw [hwt];simp only;rw [if_pos hmay]
    have HF:Hid (Wrote (V.has sb) w' B BV ov L (outTo n V.snd [d]) w4∧∃ uv',SesAt w4 sb { V with uv:=uv' } (goS V.snd.isSome S)∧(uv'.ownBlock=V.uv.ownBlock∨∃ b,uv'.ownBlock=some b∧w'.heap.size≤b)):=
     ⟨Wrote.behind (HB2.out.wide (fun b _ e=>by subst e;exact hcb)) (Wrote.after (HA2.out _) hw4),uv',by rw [hgs];exact hs4,hu4.imp id (fun ⟨b,e1,e2⟩=>⟨b,e1,Nat.le_trans (Nat.le_trans HB2.out.size (HA2.out _).size) e2⟩)⟩
    clear hw4 hs4 hu4
    go_wp2
    exact ⟨HF.out,_,_,_,_,_,_,_,_,_,_,_,_,_,_,_,rfl⟩
 · have cM:=hide (mayGo_any sb { V with uv:=uv' } (goS V.snd.isSome S) w' hs')
   have H:=hide hs'
   have HW:Hid (Wrote (V.has sb) w B BV ov L (if (goM V.snd.isSome S).isSome then outTo n V.snd [d] else []) w'):=hW
   have hlt':sb < w'.heap.size:=blk_lt hs'.blk
   generalize (if (goM V.snd.isSome S).isSome then outTo n V.snd [d] else [])=ms at *
   have HUV:=hide huv
   have hsnd:(({ V with uv:=uv' }:SesV).snd.isSome && decide (((goS V.snd.isSome S).under.length:Int) < (goS V.snd.isSome S).window))=mayS V.snd.isSome (goS V.snd.isSome S):=rfl
   rw [hsnd] at cM
   generalize hS':goS V.snd.isSome S=S' at *
   clear hW hs' huv hSt hsnd
   refine wpN_seq_wp fun K hK=>?_
   go_wp2_with fail
   refine cM.out.mono ?_
   rintro e w1 ⟨rfl,hB1⟩
   have HP:Hid (Wrote (V.has sb) w B BV ov L ms w1∧∃ uv',SesAt w1 sb { V with uv:=uv' } S'∧(uv'.ownBlock=V.uv.ownBlock∨∃ b,uv'.ownBlock=some b∧w.heap.size≤b)):=⟨HW.out.then_ hB1,uv',H.out.below hB1,HUV.out⟩
   have H1:=hide (H.out.below hB1)
   clear hB1
   cases hg:mayS V.snd.isSome S' with
   | false =>
     go_wp2
     go_end0
     exact ⟨rfl,HP.out⟩
   | true =>
     have hwt:S'.waiting = []:=hone.elim id (fun e=>by rw [hg] at e;cases e)
     go_wp2
     have c4:w1.cell? ⟨sb,4,none⟩=some (.chan (some V.cb)):=blk_cell H1.out.blk rfl
     obtain ⟨s0,r0,hc⟩:=H1.out.chn
     rw [hwt] at hc
     refine wpN_block (wpN_seq_wp fun K hK=>?_)
     go_wp2
     refine wpN_seq_k fun K hK=>(wpN_recv (c:=V.cb) (cap:=S'.queue) (s:=s0) (r:=r0) (buf:=#[]) (z:=.agg #[.string ByteArray.empty,.string ByteArray.empty,.int .i64 0,.bool false]) rfl ?hx ?hc ?h1 ?h2)
     case hx=>simp [go_sem,execOp,rcase,Act.eval,hz]
     case hc=>exact hc
     case h1=>intro hh;simp at hh
     case h2 =>
      intro _
      clear hc
      simp only [Act.put,goInt]
      go_wp2
      refine wpN_of_wp ?_
      go_wp2
      refine bodyPost_ret (v:=.tuple #[]) (by simp [results,Tryz.results174]) rfl ?_
      exact ⟨rfl,HP.out⟩
end br
namespace br
open Go.RowKit topPlain topWalks decPlain
def endS (p:Uw→Bool) (S:Ses):Ses:={ S with under:=S.under.filter fun u=>!p u }
def EndPost (sb B:Nat) (n:Int) (d:List UInt8) (p:Uw→Bool) (V:SesV) (S:Ses) (BV:BrV) (ov:Value) (L:List (OutS×Value)) (w:World) (e:Ending) (w':World):Prop:=
 e=.returned (.tuple #[])∧Wrote (V.has sb) w B BV ov L (if (goM V.snd.isSome (endS p S)).isSome then outTo n V.snd [d] else []) w'∧∃ uv',SesAt w' sb { V with uv:=uv' } (goS V.snd.isSome (endS p S))∧(uv'.ownBlock=V.uv.ownBlock∨∃ b,uv'.ownBlock=some b∧w.heap.size≤b)
theorem has_uv {V:SesV} {sb b:Nat} {v:Value} (hv:v.ownBlock=V.uv.ownBlock) (h:SesV.has { V with uv:=v } sb b):V.has sb b:=by
 rcases h with h | h | h | h | h
 · exact Or.inl h
 · exact Or.inr (Or.inl h)
 · exact Or.inr (Or.inr (Or.inl h))
 · exact Or.inr (Or.inr (Or.inr (Or.inl h)))
 · exact Or.inr (Or.inr (Or.inr (Or.inr (hv ▸ h))))
set_option maxHeartbeats 800000 in
set_option maxRecDepth 100000 in
theorem endD_any {N0:Nat} (sb B cb bx:Nat) (n id:Int) (d:List UInt8) (V:SesV) (S:Ses) (BV:BrV) (ov:Value) (L:List (OutS×Value)) (w:World) (hbx:w.heap[bx]?=some (.cells #[.int .i64 id] 3)) (hE:∀ m,goM V.snd.isSome (endS (isDone id) S)=some m→EncOK N0 w (pktS m (nextS S.last (endS (isDone id) S).under)) d) (hV:∀ b,V.has sb b→N0≤b) (hs:SesAt w sb V S) (h:BlkAt w B BV ov L) (hS:SinkO w B cb n V.snd) (hL:L.length < 1000000000000) (h0:0≤S.last) (hl:S.under.length < 65000)
 (hone:(goS V.snd.isSome (endS (isDone id) S)).waiting = []∨mayS V.snd.isSome (goS V.snd.isSome (endS (isDone id) S))=false) :
 Calls Tryz.prog 208 #[.pointer (some ⟨sb,0,none⟩),.func (.func 209) #[] #[.pointer (some ⟨bx,0,none⟩)]] w (EndPost sb B n d (isDone id) V S BV ov L w):=by
 have c5:w.cell? ⟨sb,5,none⟩=some V.uv:=blk_cell hs.blk rfl
 have hlt:=blk_lt hs.blk
 have cD:=hide (delD_any V.uv S.under id bx w hs.und hbx)
 have H:=hide hs
 have HBK:=hide h
 have HSK:=hide hS
 have HE:=hide hE
 clear hs h hS hE hbx
 obtain ⟨q5,k5,hq5⟩:=own_form H.out.und
 rw [hq5] at cD c5
 have HQ:=hide hq5
 clear hq5
 go_enter Tryz.func208,Tryz.ntmps208
 go_wp2_with fail
 refine cD.out.mono ?_
 rintro e w1 ⟨v',rfl,hb1,hvb,ho1⟩
 rw [← HQ.out] at hb1 hvb
 obtain ⟨q6,k6,hq6⟩:=own_form ho1
 obtain ⟨n1,n2,n3,n4,n5,n6,n7⟩:=H.out.own_ne
 have hblk1:w1.heap[sb]?=some (.cells (sesC V S) 188):=hb1.blk (fun e=>n2 e) H.out.blk
 have c5':w1.cell? ⟨sb,5,none⟩=some V.uv:=blk_cell hblk1 rfl
 rw [HQ.out] at c5'
 have f5:w1.frozen? ⟨sb,5,none⟩=false:=blk_frozen hblk1
 have hS2:SesAt (w1.setCell ⟨sb,5,none⟩ v') sb { V with uv:=v' } (endS (isDone id) S):=H.out.addUw ⟨hb1.os,hb1.tape,hb1.output,hb1.size,fun k hk hne=>hb1.keep k hk (fun e=>hne e.symm)⟩ ho1
 have hBut:But (V.has sb) w (w1.setCell ⟨sb,5,none⟩ v'):=(hb1.wide (fun b _ e=>Or.inr (Or.inr (Or.inr (Or.inr e))))).trans (But.set (F:=V.has sb) _ _ _ (Or.inl rfl)) (fun _ _ f=>f)
 have hlt1:sb < w1.heap.size:=blk_lt hblk1
 subst hq6
 have HW1:=hide hb1
 clear hb1 hblk1 n1 n2 n3 n4 n5 n6 n7 ho1 c5
 go_wp2_with fail
 generalize w1.setCell ⟨sb,5,none⟩ (.slice q6 _ k6)=w2 at *
 have hhas:∀ b,SesV.has { V with uv:=.slice q6 (S.under.filter fun u=>!isDone id u).length k6 } sb b→V.has sb b:=fun b hb=>has_uv hvb hb
 refine (goOn_one (N0:=N0) sb B cb n d { V with uv:=.slice q6 (S.under.filter fun u=>!isDone id u).length k6 } (endS (isDone id) S) BV ov L w2 (fun m hm=>(HE.out m hm).but hBut hV) (fun b hb=>hV b (hhas b hb)) hS2 (HBK.out.but hBut (H.out.clear HBK.out)) (HSK.out.but hBut (fun x y hx=>hx.free H.out)) hL h0 (Nat.lt_of_le_of_lt (List.length_filter_le _ _) hl) hone).mono ?_
 rintro e w3 ⟨rfl,hw3,uv',hs3,hu3⟩
 have HF:Hid (EndPost sb B n d (isDone id) V S BV ov L w (.returned (.tuple #[])) w3):=
  ⟨rfl,Wrote.behind hBut (hw3.wide hhas),uv',hs3,hu3.imp (fun e=>e.trans hvb) (fun ⟨b,e1,e2⟩=>⟨b,e1,Nat.le_trans hBut.size e2⟩)⟩
 clear hw3 hs3 hu3 hS2
 go_wp2
 go_end0
 exact HF.out
set_option maxHeartbeats 800000 in
set_option maxRecDepth 100000 in
theorem done_any {N0:Nat} (sb B cb:Nat) (n id:Int) (d:List UInt8) (V:SesV) (S:Ses) (BV:BrV) (ov:Value) (L:List (OutS×Value)) (w:World) (hE:∀ m,goM V.snd.isSome (endS (isDone id) S)=some m→EncOK N0 w (pktS m (nextS S.last (endS (isDone id) S).under)) d) (hV:∀ b,V.has sb b→N0≤b) (hs:SesAt w sb V S) (h:BlkAt w B BV ov L) (hS:SinkO w B cb n V.snd) (hL:L.length < 1000000000000) (h0:0≤S.last) (hl:S.under.length < 65000)
 (hone:(goS V.snd.isSome (endS (isDone id) S)).waiting = []∨mayS V.snd.isSome (goS V.snd.isSome (endS (isDone id) S))=false) :
 Calls Tryz.prog 159 #[.pointer (some ⟨sb,0,none⟩),.int .i64 id] w (EndPost sb B n d (isDone id) V S BV ov L w):=by
 have HA:=hide fun o=>(Below.refl w.heap.size w).alloc (Nat.le_refl _) o
 have cE:=hide fun w' bx (hb:Below w.heap.size w w') (hbx:w'.heap[bx]?=some (.cells #[.int .i64 id] 3))=>endD_any (N0:=N0) sb B cb bx n id d V S BV ov L w' hbx (fun m hm=>(hE m hm).below hb) hV (hs.below hb) (h.below hb) (hS.below hb) hL h0 hl hone
 clear hE hs h hS
 go_enter Tryz.func159,Tryz.ntmps159
 go_wp2_with fail
 refine (cE.out _ w.heap.size (HA.out _) (heap_alloc_new _ _)).mono ?_
 rintro e w1 ⟨rfl,hw1,uv',hs1,hu1⟩
 have HF:Hid (EndPost sb B n d (isDone id) V S BV ov L w (.returned (.tuple #[])) w1):=⟨rfl,Wrote.after (HA.out _) hw1,uv',hs1,hu1.imp (fun e=>e) (fun ⟨b,e1,e2⟩=>⟨b,e1,Nat.le_trans (HA.out _).size e2⟩)⟩
 clear hw1 hs1 hu1
 go_wp2
 go_end0
 exact HF.out
def relU (id:Int):Uw:=⟨id,2,true,⟨[],[],0,false⟩⟩
theorem SesAt.setUw {w:World} {sb g n kap i:Nat} {V:SesV} {S:Ses} (h:SesAt w sb V S) (hg:V.uv=.slice (some ⟨g,0,none⟩) n kap) (hi:i < S.under.length) (u:Uw):SesAt (w.setCells g (i*7) (uwC u)) sb V { S with under:=S.under.set i u }:=by
 obtain ⟨n1,n2,n3,n4,n5,n6,n7⟩:=h.own_ne
 have hvb:V.uv.ownBlock=some g:=by rw [hg];rfl
 have hk:∀ b,b≠g→(w.setCells g (i*7) (uwC u)).heap[b]?=w.heap[b]?:=fun b hb=>setCells_ne hb _ _ _
 have hn:n=S.under.length:=by
  have:=h.und
  rw [hg] at this
  rcases this.2 with ⟨e,_⟩ | ⟨_,_,_,e,_⟩
  · cases e
  · cases e;rfl
 refine ⟨(hk sb (fun e=>n2 (e ▸ hvb))).trans h.blk,own_keep h.fil (fun b hb=>hk b (fun e=>(n6 b hb).1 (e ▸ hvb))),?_,?_,?_⟩
 · have:=h.und
   rw [hg,hn] at this
   rw [hg,hn]
   show (w.setCells g (i*7) (uwC u)).ownsRow 0 252 7 _ (S.under.set i u).length _
   rw [List.length_set]
   exact own_set this rfl hi u
 · obtain ⟨D,⟨es,clock,hb,h1,h2,h3⟩,h4⟩:=h.kno
   exact ⟨D,⟨es,clock,(hk _ (fun e=>(n7 g hvb).1 e.symm)).trans hb,h1,h2,h3⟩,h4⟩
 · obtain ⟨s,r,hb⟩:=h.chn
   exact ⟨s,r,(hk _ (fun e=>(n7 g hvb).2 e.symm)).trans hb⟩
set_option maxHeartbeats 800000 in
set_option maxRecDepth 100000 in
theorem release_miss (sb:Nat) (id:Int) (V:SesV) (S:Ses) (w:World) (hs:SesAt w sb V S) (hi:idx (fun u=>u.id == id) S.under=-1) :
 Calls Tryz.prog 161 #[.pointer (some ⟨sb,0,none⟩),.int .i64 id] w fun e w'=>e=.returned (.tuple #[])∧Below w.heap.size w w':=by
 have cF:=hide (findId_any sb V.uv S.under id w (blk_cell hs.blk rfl) hs.und)
 rw [hi] at cF
 clear hs hi
 go_enter Tryz.func161,Tryz.ntmps161
 go_wp2_with fail
 refine cF.out.mono ?_
 rintro e w1 ⟨rfl,hB1⟩
 go_wp2
 refine bodyPost_ret (v:=.tuple #[]) (by simp [results,Tryz.results161]) rfl ?_
 exact ⟨rfl,hB1⟩
set_option maxHeartbeats 1600000 in
set_option maxRecDepth 100000 in
theorem release_hit {N0:Nat} (sb B cb i:Nat) (n id:Int) (u:Uw) (d:List UInt8) (V:SesV) (S:Ses) (BV:BrV) (ov:Value) (L:List (OutS×Value)) (w:World) (hE:EncOK N0 w (relS id) d) (hV:∀ b,V.has sb b→N0≤b) (hs:SesAt w sb V S) (h:BlkAt w B BV ov L) (hS:SinkO w B cb n V.snd) (hL:L.length < 1000000000000) (hi:idx (fun u=>u.id == id) S.under=(i:Int)) (hu:S.under[i]?=some u) (hq:u.qos=2) :
 Calls Tryz.prog 161 #[.pointer (some ⟨sb,0,none⟩),.int .i64 id] w fun e w'=>e=.returned (.tuple #[])∧Wrote (V.has sb) w B BV ov L (outTo n V.snd [d]) w'∧SesAt w' sb V { S with under:=S.under.set i (relU id) }:=by
 have cF:=hide (findId_any sb V.uv S.under id w (blk_cell hs.blk rfl) hs.und)
 rw [hi] at cF
 have hil:i < S.under.length:=(List.getElem?_eq_some_iff.1 hu).1
 obtain ⟨q5,k5,hq5⟩:=own_form hs.und
 have hund:=hs.und
 rw [hq5] at hund
 obtain ⟨g,rfl,hg,hkc,hcm,_⟩:=own_at hund (by omega)
 unfold maxLen at hcm
 have H:=hide hs
 have HBK:=hide h
 have HSK:=hide hS
 have HE:=hide hE
 have HQ:=hide hq5
 have HU:=hide hu
 have cP:=hide fun w=>pubrel_any id w
 have hlt:=blk_lt hs.blk
 clear hs h hS hE hi hq5 hu
 go_enter Tryz.func161,Tryz.ntmps161
 go_wp2_with fail
 refine cF.out.mono ?_
 rintro e w1 ⟨rfl,hB1⟩
 have H1:=hide (H.out.below hB1)
 have hund1:=H1.out.und
 rw [HQ.out] at hund1
 obtain ⟨j0,j1,j2,j3,j4,j5,j6⟩:=uw_cells (wr:=w1) hund1 HU.out rfl rfl
 rw [hq] at j1
 have c5:w1.cell? ⟨sb,5,none⟩=some (.slice (some ⟨g,0,none⟩) S.under.length k5):=by rw [← HQ.out];exact blk_cell H1.out.blk rfl
 obtain ⟨cur2,hcur2⟩:=own_blk hund1 (b:=g) rfl
 have q0:w1.frozen? ⟨g,i*7,none⟩=false:=blk_frozen hcur2
 have q1:w1.frozen? ⟨g,i*7+1,none⟩=false:=blk_frozen hcur2
 have q2:w1.frozen? ⟨g,i*7+2,none⟩=false:=blk_frozen hcur2
 have q3:w1.frozen? ⟨g,i*7+3,none⟩=false:=blk_frozen hcur2
 have q4:w1.frozen? ⟨g,i*7+4,none⟩=false:=blk_frozen hcur2
 have q5:w1.frozen? ⟨g,i*7+5,none⟩=false:=blk_frozen hcur2
 have q6:w1.frozen? ⟨g,i*7+6,none⟩=false:=blk_frozen hcur2
 have hS2:=H1.out.setUw HQ.out hil (relU id)
 have hB2:But (V.has sb) w (w1.setCells g (i*7) (uwC (relU id))):=(But.of_below hB1).trans (But.cells (F:=V.has sb) (Or.inr (Or.inr (Or.inr (Or.inr (by rw [HQ.out];rfl))))) (uwC (relU id)) w1 (i*7)) (fun _ _ f=>f)
 clear hund hund1 hcur2 hB1
 go_wp2_with fail
 show Calls Tryz.prog _ _ (w1.setCells g (i*7) (uwC (relU id))) _
 generalize w1.setCells g (i*7) (uwC (relU id))=w2 at *
 have hBk2:=HBK.out.but hB2 (H.out.clear HBK.out)
 have hSk2:=HSK.out.but hB2 (fun x y hx=>hx.free H.out)
 have hE2:=HE.out.but hB2 hV
 have HS2:=hide hS2
 have HB2:=hide hB2
 refine (cP.out _).mono ?_
 rintro e w3 ⟨rfl,hB3⟩
 have cW:=hide (swrite_any sb B cb n (relS id) d V _ BV ov L w3 (hE2.below hB3) (hS2.below hB3) (hBk2.below hB3) (hSk2.below hB3) hL)
 simp only [pkK,relS,zP] at cW ⊢
 have HB3:=hide hB3
 clear hS2 hB2 hBk2 hSk2 hE2 hB3
 go_wp2_with fail
 refine cW.out.mono ?_
 rintro e w4 ⟨rfl,hw4⟩
 have hb4:But (OutHas B ov) w3 w4:=by
  obtain ⟨ov',M,_,_,h3,_⟩:=hw4
  exact h3.wide (fun _ _ e=>e.elim (fun f=>f.elim) (fun e=>e))
 have hs3:=HS2.out.below HB3.out
 have hbk3:=(HBK.out.but HB2.out (H.out.clear HBK.out)).below HB3.out
 have HF:Hid (Wrote (V.has sb) w B BV ov L (outTo n V.snd [d]) w4∧SesAt w4 sb V { S with under:=S.under.set i (relU id) }):=⟨Wrote.behind HB2.out (Wrote.after HB3.out (hw4.wide (fun _ f=>f.elim))),hs3.but hb4 (fun b hb=>hs3.apart hbk3 hb)⟩
 clear hw4 hb4 hs3 hbk3
 go_wp2
 go_end0
 exact ⟨rfl,HF.out⟩
end br
namespace br
open Go.RowKit topPlain topWalks
def isComp (id:Int) (u:Uw):Bool:=u.id == id && u.rel
theorem comp1_any (u:Uw) (bx:Nat) (id:Int) (w:World) (hb:w.cell? ⟨bx,0,none⟩=some (.int .i64 id)) :
 Calls Tryz.prog 213 #[.agg #[.int .i64 u.id,.int .i64 u.qos,.bool u.rel,.string (bs u.msg.topic),.string (bs u.msg.payload),.int .i64 u.msg.qos,.bool u.msg.retain],.pointer (some ⟨bx,0,none⟩)] w fun e w'=>e=.returned (.bool (isComp id u))∧Below w.heap.size w w':=by
 have hlt:=cell_blt hb
 simp only at hlt
 unfold isComp
 by_cases h1:u.id=id
 · have h1b:(u.id == id)=true:=beq_iff_eq.2 h1
   rw [h1b]
   go_enter Tryz.func213,Tryz.ntmps213
   go_wp2
   go_ret
   exact ⟨by simp,(Below.refl _ _).alloc (Nat.le_refl _) _⟩
 · have h1b:(u.id == id)=false:=beq_eq_false_iff_ne.2 h1
   rw [h1b]
   go_enter Tryz.func213,Tryz.ntmps213
   go_wp2
   go_ret
   exact ⟨by simp,(Below.refl _ _).alloc (Nat.le_refl _) _⟩
set_option maxHeartbeats 400000 in
set_option maxRecDepth 100000 in
theorem idxC_any (v:Value) (l:List Uw) (id:Int) (bx:Nat) (w:World) (hv:w.ownsRow 0 252 7 v l.length (l.flatMap uwC)) (hbx:w.cell? ⟨bx,0,none⟩=some (.int .i64 id)) :
 Calls Tryz.prog 238 #[v,.func (.func 213) #[] #[.pointer (some ⟨bx,0,none⟩)]] w fun e w'=>e=.returned (.int .i64 (idx (isComp id) l))∧Below w.heap.size w w':=by
 obtain ⟨q,kap,rfl⟩:=own_form hv
 have HV:=hide hv
 have HX:=hide hbx
 have HF:=hide fun u w hb=>comp1_any u bx id w hb
 clear hv hbx
 go_enter Tryz.func238,Tryz.ntmps238
 go_wp2_with fail
 go_loopw [8] (fun i wx=>∃ (k:Nat),k≤l.length∧i=.int .i64 k∧Below w.heap.size w wx∧∀ (j:Nat) y,j < k→l[j]?=some y→isComp id y=false) (fun i _=>l.length - (intOf i).toNat)
 case atStart=>exact ⟨0,Nat.zero_le _,rfl,Below.refl _ _,fun j y h=>by omega⟩
 case round =>
  obtain ⟨k,hk,rfl,hB,hno⟩:=hrel
  have HB:=hide hB
  have HN:=hide hno
  clear hB hno
  by_cases hlt:k < l.length
  · obtain ⟨u,hu⟩:∃ u,l[k]?=some u:=⟨_,List.getElem?_eq_getElem hlt⟩
    obtain ⟨g,rfl,hg,hkc,hcm,_⟩:=own_at HV.out (by omega)
    unfold maxLen at hcm
    obtain ⟨h0,h1,h2,h3,h4,h5,h6⟩:=uw_cells (wr:=wr) HV.out hu rfl (HB.out.block _ hg)
    have HU:=hide hu
    clear hu
    go_wp2_with fail
    refine (HF.out u wr (by rw [HB.out.cell (cell_blt HX.out)];exact HX.out)).mono ?_
    rintro e w1 ⟨rfl,hB1⟩
    have HB1:=hide (HB.out.trans (hB1.mono HB.out.size))
    clear hB1
    by_cases hp:isComp id u=true
    · rw [hp]
      go_wp2
      go_ret
      exact ⟨by rw [idx_some HU.out hp HN.out];rfl,HB1.out⟩
    · have hp':isComp id u=false:=by simpa using hp
      rw [hp']
      have HP:=hide hp'
      clear hp hp'
      go_wp2
      go_roundw
      case rel=>exact ⟨k+1,by omega,by go_num,HB1.out,fun j y hj hy=>by
       by_cases e:j=k
       · subst e;have:=HU.out;rw [this] at hy;cases hy;exact HP.out
       · exact HN.out j y (by omega) hy⟩
      case measure=>simp [intOf];omega
  · go_wp2
    go_ret
    exact ⟨by rw [idx_none (fun j x hj=>HN.out j x (by have:=(List.getElem?_eq_some_iff.1 hj).1;omega) hj)];rfl,HB.out⟩
set_option maxHeartbeats 800000 in
set_option maxRecDepth 100000 in
theorem delC_any (v:Value) (l:List Uw) (id:Int) (bx:Nat) (w:World) (hv:w.ownsRow 0 252 7 v l.length (l.flatMap uwC)) (hbx:w.heap[bx]?=some (.cells #[.int .i64 id] 3)) :
 Calls Tryz.prog 237 #[v,.func (.func 213) #[] #[.pointer (some ⟨bx,0,none⟩)]] w fun e w'=>∃ v',e=.returned v'∧But (fun b=>v.ownBlock=some b) w w'∧v'.ownBlock=v.ownBlock∧w'.ownsRow 0 252 7 v' (l.filter fun u=>!isComp id u).length ((l.filter fun u=>!isComp id u).flatMap uwC):=by
 have cI:=hide (idxC_any v l id bx w hv (blk_cell hbx rfl))
 obtain ⟨q,kap,rfl⟩:=own_form hv
 have HV:=hide hv
 have HX:=hide hbx
 have HF:=hide fun u w hb=>comp1_any u bx id w hb
 clear hv hbx
 go_enter Tryz.func237,Tryz.ntmps237
 go_wp2_with fail
 refine cI.out.mono ?_
 rintro e w1 ⟨rfl,hB1⟩
 cases hi:l.findIdx? (isComp id) with
 | none =>
   have e1:idx (isComp id) l=-1:=by unfold idx;rw [hi]
   rw [e1]
   have hall:l.filter (fun u=>!isComp id u)=l:=by
    rw [List.filter_eq_self]
    intro u hu
    have:=List.findIdx?_eq_none_iff.1 hi u hu
    simp [this]
   have HALL:=hide hall
   clear hi hall
   go_wp2
   go_ret
   rw [HALL.out]
   exact ⟨_,rfl,But.of_below hB1,rfl,own_keep HV.out (fun b hb=>by obtain ⟨cur,hc⟩:=own_blk HV.out hb;exact hB1.block b (blk_lt hc))⟩
 | some k0 =>
   have e1:idx (isComp id) l=(k0:Int):=by unfold idx;rw [hi]
   rw [e1]
   obtain ⟨hk0,hp0,hb0⟩:=List.findIdx?_eq_some_iff_getElem.1 hi
   obtain ⟨g,rfl,hg,hkc,hcm,_⟩:=own_at HV.out (by omega)
   unfold maxLen at hcm
   have HB1:=hide hB1
   have HK:=hide (kept_start hk0 hp0 hb0)
   have HV1:=hide (own_keep HV.out (fun b hb=>by obtain ⟨cur,hc⟩:=own_blk HV.out hb;exact hB1.block b (blk_lt hc)))
   have hsz1:=hB1.size
   clear e1 hi hp0 hb0 hB1
   go_wp2_with fail
   go_loopw [5,6] (fun i j wx=>∃ (m k:Nat) (M:List Uw),k≤l.length∧i=.int .i64 m∧j=.int .i64 k∧KeptAt (isComp id) l m k M∧wx.ownsRow 0 252 7 (.slice (some ⟨g,0,none⟩) l.length kap) l.length (M.flatMap uwC)∧But (fun b=>b=g) w wx) (fun _ j _=>l.length - (intOf j).toNat)
   case atStart=>exact ⟨k0,k0+1,l,by omega,rfl,by go_num,HK.out,HV1.out,But.of_below HB1.out⟩
   case round =>
    obtain ⟨m,k,M,hk,rfl,rfl,hK,hO,hbut⟩:=hrel
    have hmk:=hK.lt
    have hMl:=hK.len
    have HKA:=hide hK
    have HO:=hide hO
    have HBU:=hide hbut
    have hszr:=hbut.size
    obtain ⟨cur,hcur⟩:=own_blk hO (b:=g) rfl
    clear hK hO hbut
    by_cases hlt:k < l.length
    · obtain ⟨u,hu⟩:∃ u,l[k]?=some u:=⟨_,List.getElem?_eq_getElem hlt⟩
      have hMu:M[k]?=some u:=by rw [HKA.out.high k (by omega)];exact hu
      obtain ⟨h0,h1,h2,h3,h4,h5,h6⟩:=uw_cells (wr:=wr) HO.out hMu hMl rfl
      obtain ⟨y,hy⟩:∃ y,M[m]?=some y:=⟨_,List.getElem?_eq_getElem (by omega)⟩
      have HU:=hide hu
      have HBX:Hid (wr.heap[bx]?=some (.cells #[.int .i64 id] 3)):=HBU.out.blk (fun e=>by have h9:=HX.out;obtain ⟨c9,hc9⟩:=own_blk HV.out (b:=g) rfl;rw [e,hc9] at h9;simp at h9) HX.out
      have HAL:=hide fun o=>(Below.refl wr.heap.size wr).alloc (Nat.le_refl _) o
      clear hu hMu
      have hgr:g < wr.heap.size:=by omega
      go_wp2_with fail
      refine (HF.out u _ (alloc_cell (blk_cell HBX.out rfl) _)).mono ?_
      rintro e w2 ⟨rfl,hB2⟩
      have hB2r:=(HAL.out _).trans (hB2.mono (HAL.out _).size)
      have hO2:=own_keep HO.out (fun b hb=>by obtain ⟨c9,hc9⟩:=own_blk HO.out hb;exact hB2r.block b (blk_lt hc9))
      have hv2:=(hB2.block _ (by simp)).trans (heap_alloc_new wr (.cells #[.int .i64 u.id,.int .i64 u.qos,.bool u.rel,.string (bs u.msg.topic),.string (bs u.msg.payload),.int .i64 u.msg.qos,.bool u.msg.retain] 252))
      have hl2:=blk_lt hv2
      obtain ⟨j0,j1,j2,j3,j4,j5,j6⟩:=uw_cells (wr:=w2) hO2 hy hMl rfl
      have n0:w2.cell? ⟨wr.heap.size,0,none⟩=some (.int .i64 u.id):=blk_cell hv2 rfl
      have n1:w2.cell? ⟨wr.heap.size,1,none⟩=some (.int .i64 u.qos):=blk_cell hv2 rfl
      have n2:w2.cell? ⟨wr.heap.size,2,none⟩=some (.bool u.rel):=blk_cell hv2 rfl
      have n3:w2.cell? ⟨wr.heap.size,3,none⟩=some (.string (bs u.msg.topic)):=blk_cell hv2 rfl
      have n4:w2.cell? ⟨wr.heap.size,4,none⟩=some (.string (bs u.msg.payload)):=blk_cell hv2 rfl
      have n5:w2.cell? ⟨wr.heap.size,5,none⟩=some (.int .i64 u.msg.qos):=blk_cell hv2 rfl
      have n6:w2.cell? ⟨wr.heap.size,6,none⟩=some (.bool u.msg.retain):=blk_cell hv2 rfl
      obtain ⟨cur2,hcur2⟩:=own_blk hO2 (b:=g) rfl
      have q0:w2.frozen? ⟨g,m*7,none⟩=false:=blk_frozen hcur2
      have q1:w2.frozen? ⟨g,m*7+1,none⟩=false:=blk_frozen hcur2
      have q2:w2.frozen? ⟨g,m*7+2,none⟩=false:=blk_frozen hcur2
      have q3:w2.frozen? ⟨g,m*7+3,none⟩=false:=blk_frozen hcur2
      have q4:w2.frozen? ⟨g,m*7+4,none⟩=false:=blk_frozen hcur2
      have q5:w2.frozen? ⟨g,m*7+5,none⟩=false:=blk_frozen hcur2
      have q6:w2.frozen? ⟨g,m*7+6,none⟩=false:=blk_frozen hcur2
      have HO2:=hide hO2
      have HB2:=hide (HBU.out.trans (But.of_below (F:=fun _=>False) hB2r) (fun _ _ f=>f.elim))
      have hg2:g < w2.heap.size:=by have:=hB2r.size;omega
      clear hB2 hB2r hO2 hv2 hcur2 hcur h0 h1 h2 h3 h4 h5 h6
      by_cases hp:isComp id u=true
      · rw [hp]
        have HP:=hide hp
        clear hp
        go_wp2
        go_roundw
        case rel =>
         refine ⟨_,_,_,_,_,_,_,_,_,_,_,_,_,_,_,_,_,_,_,_,_,_,_,?_,rfl⟩
         exact ⟨m,k+1,M,by omega,rfl,by go_num,HKA.out.drop HU.out HP.out,HO2.out,HB2.out⟩
        case measure=>simp [intOf];omega
      · have hp':isComp id u=false:=by simpa using hp
        rw [hp']
        have HP:=hide hp'
        clear hp hp'
        go_wp2
        go_roundw
        case rel =>
         refine ⟨_,_,_,_,_,_,_,_,_,_,_,_,_,_,_,_,_,_,_,_,_,_,_,?_,rfl⟩
         exact ⟨m+1,k+1,M.set m u,by omega,by go_num,by go_num,HKA.out.keep HU.out HP.out (by omega),own_set HO2.out hMl (by omega) u,HB2.out.trans (But.cells (F:=fun b=>b=g) rfl (uwC u) w2 (m*7)) (fun _ _ e=>e)⟩
        case measure=>simp [intOf];omega
    · have hkl:k=l.length:=by omega
      subst hkl
      obtain ⟨vs,hvs,hclr⟩:∃ vs:List Value,vs.length=(l.length - m)*7∧∀ ty,(Builtin.clear_ #[186] ty #[.slice (some ⟨g,m*7,none⟩) (l.length - m) (kap - m)]).run Tryz.prog wr=.ok (.tuple #[]) (wr.setCells g (m*7) vs):=by
       obtain ⟨vs,h1,h2⟩:=run_clear_uw wr 0 g (m*7) (l.length - m) (kap - m) (by omega) (fun j hj=>row_some HO.out hMl (by omega)) (fun j hj=>blk_frozen hcur)
       exact ⟨vs,h1,fun ty=>h2⟩
      have HVS:=hide hvs
      have HCL:=hide hcur
      clear hvs hcur hlt
      go_wp2_with fail
      go_ret
      have hlow:=HKA.out.low
      rw [List.take_length] at hlow
      have hml:(l.filter fun u=>!isComp id u).length=m:=by rw [← hlow,List.length_take,hMl];omega
      refine ⟨_,rfl,(HBU.out.trans (But.cells (F:=fun b=>b=g) rfl vs wr (m*7)) (fun _ _ e=>e)).wide (fun b _ e=>by rw [e];rfl),rfl,?_⟩
      rw [hml,← hlow]
      exact own_cut HO.out hMl (by omega) HVS.out
end br
namespace br
open Go.RowKit topPlain topWalks decPlain
set_option maxHeartbeats 800000 in
set_option maxRecDepth 100000 in
theorem endC_any {N0:Nat} (sb B cb bx:Nat) (n id:Int) (d:List UInt8) (V:SesV) (S:Ses) (BV:BrV) (ov:Value) (L:List (OutS×Value)) (w:World) (hbx:w.heap[bx]?=some (.cells #[.int .i64 id] 3)) (hE:∀ m,goM V.snd.isSome (endS (isComp id) S)=some m→EncOK N0 w (pktS m (nextS S.last (endS (isComp id) S).under)) d) (hV:∀ b,V.has sb b→N0≤b) (hs:SesAt w sb V S) (h:BlkAt w B BV ov L) (hS:SinkO w B cb n V.snd) (hL:L.length < 1000000000000) (h0:0≤S.last) (hl:S.under.length < 65000)
 (hone:(goS V.snd.isSome (endS (isComp id) S)).waiting = []∨mayS V.snd.isSome (goS V.snd.isSome (endS (isComp id) S))=false) :
 Calls Tryz.prog 208 #[.pointer (some ⟨sb,0,none⟩),.func (.func 213) #[] #[.pointer (some ⟨bx,0,none⟩)]] w (EndPost sb B n d (isComp id) V S BV ov L w):=by
 have c5:w.cell? ⟨sb,5,none⟩=some V.uv:=blk_cell hs.blk rfl
 have hlt:=blk_lt hs.blk
 have cD:=hide (delC_any V.uv S.under id bx w hs.und hbx)
 have H:=hide hs
 have HBK:=hide h
 have HSK:=hide hS
 have HE:=hide hE
 clear hs h hS hE hbx
 obtain ⟨q5,k5,hq5⟩:=own_form H.out.und
 rw [hq5] at cD c5
 have HQ:=hide hq5
 clear hq5
 go_enter Tryz.func208,Tryz.ntmps208
 go_wp2_with fail
 refine cD.out.mono ?_
 rintro e w1 ⟨v',rfl,hb1,hvb,ho1⟩
 rw [← HQ.out] at hb1 hvb
 obtain ⟨q6,k6,hq6⟩:=own_form ho1
 obtain ⟨n1,n2,n3,n4,n5,n6,n7⟩:=H.out.own_ne
 have hblk1:w1.heap[sb]?=some (.cells (sesC V S) 188):=hb1.blk (fun e=>n2 e) H.out.blk
 have c5':w1.cell? ⟨sb,5,none⟩=some V.uv:=blk_cell hblk1 rfl
 rw [HQ.out] at c5'
 have f5:w1.frozen? ⟨sb,5,none⟩=false:=blk_frozen hblk1
 have hS2:SesAt (w1.setCell ⟨sb,5,none⟩ v') sb { V with uv:=v' } (endS (isComp id) S):=H.out.addUw ⟨hb1.os,hb1.tape,hb1.output,hb1.size,fun k hk hne=>hb1.keep k hk (fun e=>hne e.symm)⟩ ho1
 have hBut:But (V.has sb) w (w1.setCell ⟨sb,5,none⟩ v'):=(hb1.wide (fun b _ e=>Or.inr (Or.inr (Or.inr (Or.inr e))))).trans (But.set (F:=V.has sb) _ _ _ (Or.inl rfl)) (fun _ _ f=>f)
 have hlt1:sb < w1.heap.size:=blk_lt hblk1
 subst hq6
 have HW1:=hide hb1
 clear hb1 hblk1 n1 n2 n3 n4 n5 n6 n7 ho1 c5
 go_wp2_with fail
 generalize w1.setCell ⟨sb,5,none⟩ (.slice q6 _ k6)=w2 at *
 have hhas:∀ b,SesV.has { V with uv:=.slice q6 (S.under.filter fun u=>!isComp id u).length k6 } sb b→V.has sb b:=fun b hb=>has_uv hvb hb
 refine (goOn_one (N0:=N0) sb B cb n d { V with uv:=.slice q6 (S.under.filter fun u=>!isComp id u).length k6 } (endS (isComp id) S) BV ov L w2 (fun m hm=>(HE.out m hm).but hBut hV) (fun b hb=>hV b (hhas b hb)) hS2 (HBK.out.but hBut (H.out.clear HBK.out)) (HSK.out.but hBut (fun x y hx=>hx.free H.out)) hL h0 (Nat.lt_of_le_of_lt (List.length_filter_le _ _) hl) hone).mono ?_
 rintro e w3 ⟨rfl,hw3,uv',hs3,hu3⟩
 have HF:Hid (EndPost sb B n d (isComp id) V S BV ov L w (.returned (.tuple #[])) w3):=
  ⟨rfl,Wrote.behind hBut (hw3.wide hhas),uv',hs3,hu3.imp (fun e=>e.trans hvb) (fun ⟨b,e1,e2⟩=>⟨b,e1,Nat.le_trans hBut.size e2⟩)⟩
 clear hw3 hs3 hu3 hS2
 go_wp2
 go_end0
 exact HF.out
set_option maxHeartbeats 800000 in
set_option maxRecDepth 100000 in
theorem complete_any {N0:Nat} (sb B cb:Nat) (n id:Int) (d:List UInt8) (V:SesV) (S:Ses) (BV:BrV) (ov:Value) (L:List (OutS×Value)) (w:World) (hE:∀ m,goM V.snd.isSome (endS (isComp id) S)=some m→EncOK N0 w (pktS m (nextS S.last (endS (isComp id) S).under)) d) (hV:∀ b,V.has sb b→N0≤b) (hs:SesAt w sb V S) (h:BlkAt w B BV ov L) (hS:SinkO w B cb n V.snd) (hL:L.length < 1000000000000) (h0:0≤S.last) (hl:S.under.length < 65000)
 (hone:(goS V.snd.isSome (endS (isComp id) S)).waiting = []∨mayS V.snd.isSome (goS V.snd.isSome (endS (isComp id) S))=false) :
 Calls Tryz.prog 165 #[.pointer (some ⟨sb,0,none⟩),.int .i64 id] w (EndPost sb B n d (isComp id) V S BV ov L w):=by
 have HA:=hide fun o=>(Below.refl w.heap.size w).alloc (Nat.le_refl _) o
 have cE:=hide fun w' bx (hb:Below w.heap.size w w') (hbx:w'.heap[bx]?=some (.cells #[.int .i64 id] 3))=>endC_any (N0:=N0) sb B cb bx n id d V S BV ov L w' hbx (fun m hm=>(hE m hm).below hb) hV (hs.below hb) (h.below hb) (hS.below hb) hL h0 hl hone
 clear hE hs h hS
 go_enter Tryz.func165,Tryz.ntmps165
 go_wp2_with fail
 refine (cE.out _ w.heap.size (HA.out _) (heap_alloc_new _ _)).mono ?_
 rintro e w1 ⟨rfl,hw1,uv',hs1,hu1⟩
 have HF:Hid (EndPost sb B n d (isComp id) V S BV ov L w (.returned (.tuple #[])) w1):=⟨rfl,Wrote.after (HA.out _) hw1,uv',hs1,hu1.imp (fun e=>e) (fun ⟨b,e1,e2⟩=>⟨b,e1,Nat.le_trans (HA.out _).size e2⟩)⟩
 clear hw1 hs1 hu1
 go_wp2
 go_end0
 exact HF.out
def packS (id:Int):Pkt:={ zP with kind:=4,id:=id }
set_option maxHeartbeats 800000 in
set_option maxRecDepth 100000 in
theorem receive_one (B cb:Nat) (p:Pkt) (w:World) (Q2:World→Prop) (R:Ending→World→Prop) (f1:Option Addr) (f2 f3:Nat) (c1:Option Addr) (c2 c3:Nat) (hfv:p.fv=.slice f1 f2 f3) (hcv:p.cv=.slice c1 c2 c3) (hq:p.qos=1)
 (hP:∀ w',Below w.heap.size w w'→Calls Tryz.prog 110 #[.pointer (some ⟨B,0,none⟩),msgV (ofS p)] w' fun e w''=>e=.returned (.tuple #[])∧Q2 w''∧Keep w.heap.size w' w'')
 (hW:∀ w',Q2 w'→Calls Tryz.prog 131 #[.pointer (some ⟨B,0,none⟩),.pointer (some ⟨cb,0,none⟩),.agg (pkK (packS p.id))] w' fun e w''=>e=.returned (.tuple #[])∧R e w'') :
 Calls Tryz.prog 157 #[.pointer (some ⟨B,0,none⟩),.pointer (some ⟨cb,0,none⟩),.agg (pkK p)] w R:=by
 have HP:=hide hP
 have HW:=hide hW
 have HB:=hide fun o=>(Below.refl w.heap.size w).alloc (Nat.le_refl _) o
 have cO:=hide fun w=>of_any p w
 simp only [pkK,hfv,hcv,hq,msgV,ofS,packS,zP] at HP HW cO ⊢
 clear hP hW hq hfv hcv
 go_enter Tryz.func157,Tryz.ntmps157
 go_wp2_with fail
 have hBA:=HB.out (.cells #[.int .i64 p.kind,.bool p.clean,.bool p.will,.int .i64 p.keep,.string (bs p.client),.bool p.present,.int .i64 p.code,.bool p.dup,.int .i64 1,.bool p.retain,.string (bs p.topic),.string (bs p.payload),.int .i64 p.id,.slice f1 f2 f3,.slice c1 c2 c3] 36)
 have hnew:=heap_alloc_new w (.cells #[.int .i64 p.kind,.bool p.clean,.bool p.will,.int .i64 p.keep,.string (bs p.client),.bool p.present,.int .i64 p.code,.bool p.dup,.int .i64 1,.bool p.retain,.string (bs p.topic),.string (bs p.payload),.int .i64 p.id,.slice f1 f2 f3,.slice c1 c2 c3] 36)
 generalize w.alloc (.cells #[.int .i64 p.kind,.bool p.clean,.bool p.will,.int .i64 p.keep,.string (bs p.client),.bool p.present,.int .i64 p.code,.bool p.dup,.int .i64 1,.bool p.retain,.string (bs p.topic),.string (bs p.payload),.int .i64 p.id,.slice f1 f2 f3,.slice c1 c2 c3] 36)=W0 at *
 have hl0:=blk_lt hnew
 have HN:=hide hnew
 have HBA:=hide hBA
 obtain ⟨d0,d1,d2,d3,d4,d5,d6,d7,d8,d9,d10,d11,d12,d13,d14⟩:=cells15 hnew
 clear hnew hBA HB
 go_region
 all_goals go_wp2_with fail
 all_goals
  refine (cO.out _).mono ?_
  rintro e w2 ⟨rfl,hB2⟩
  have hB2':Below w.heap.size w w2:=HBA.out.drew.trans (hB2.mono HBA.out.size)
  have hN2:w2.heap[w.heap.size]?=some (.cells #[.int .i64 p.kind,.bool p.clean,.bool p.will,.int .i64 p.keep,.string (bs p.client),.bool p.present,.int .i64 p.code,.bool p.dup,.int .i64 1,.bool p.retain,.string (bs p.topic),.string (bs p.payload),.int .i64 p.id,.slice f1 f2 f3,.slice c1 c2 c3] 36):=(hB2.block _ hl0).trans HN.out
  have hl2:=blk_lt hN2
  have HN2:=hide hN2
  have HB2:=hide hB2'
  clear hB2 hB2' hN2
  go_wp2_with fail
  refine (HP.out _ HB2.out).mono ?_
  rintro e w3 ⟨rfl,hq3,hk3⟩
  have hN3:w3.heap[w.heap.size]?=some (.cells #[.int .i64 p.kind,.bool p.clean,.bool p.will,.int .i64 p.keep,.string (bs p.client),.bool p.present,.int .i64 p.code,.bool p.dup,.int .i64 1,.bool p.retain,.string (bs p.topic),.string (bs p.payload),.int .i64 p.id,.slice f1 f2 f3,.slice c1 c2 c3] 36):=(hk3.2 _ (Nat.le_refl _) hl2).trans HN2.out
  have HQC:=hide hq3
  have g8:w3.cell? ⟨w.heap.size,8,none⟩=some (.int .i64 1):=blk_cell hN3 rfl
  have g12:w3.cell? ⟨w.heap.size,12,none⟩=some (.int .i64 p.id):=blk_cell hN3 rfl
  have hl3:=blk_lt hN3
  clear hq3 hk3 hN3
  go_wp2_with fail
  refine (HW.out _ HQC.out).mono ?_
  rintro e w4 ⟨rfl,hR⟩
  have HR:=hide hR
  clear hR
  go_wp2
  go_end0
  exact HR.out
set_option maxHeartbeats 800000 in
set_option maxRecDepth 100000 in
theorem receive_zero (B cb:Nat) (p:Pkt) (w:World) (Q2:World→Prop) (R:Ending→World→Prop) (f1:Option Addr) (f2 f3:Nat) (c1:Option Addr) (c2 c3:Nat) (hfv:p.fv=.slice f1 f2 f3) (hcv:p.cv=.slice c1 c2 c3) (hq:p.qos=0)
 (hP:∀ w',Below w.heap.size w w'→Calls Tryz.prog 110 #[.pointer (some ⟨B,0,none⟩),msgV (ofS p)] w' fun e w''=>e=.returned (.tuple #[])∧Q2 w''∧Keep w.heap.size w' w'')
 (hW:∀ w',Q2 w'→R (.returned (.tuple #[])) w') :
 Calls Tryz.prog 157 #[.pointer (some ⟨B,0,none⟩),.pointer (some ⟨cb,0,none⟩),.agg (pkK p)] w R:=by
 have HP:=hide hP
 have HW:=hide hW
 have HB:=hide fun o=>(Below.refl w.heap.size w).alloc (Nat.le_refl _) o
 have cO:=hide fun w=>of_any p w
 simp only [pkK,hfv,hcv,hq,msgV,ofS] at HP cO ⊢
 clear hP hW hq hfv hcv
 go_enter Tryz.func157,Tryz.ntmps157
 go_wp2_with fail
 have hBA:=HB.out (.cells #[.int .i64 p.kind,.bool p.clean,.bool p.will,.int .i64 p.keep,.string (bs p.client),.bool p.present,.int .i64 p.code,.bool p.dup,.int .i64 0,.bool p.retain,.string (bs p.topic),.string (bs p.payload),.int .i64 p.id,.slice f1 f2 f3,.slice c1 c2 c3] 36)
 have hnew:=heap_alloc_new w (.cells #[.int .i64 p.kind,.bool p.clean,.bool p.will,.int .i64 p.keep,.string (bs p.client),.bool p.present,.int .i64 p.code,.bool p.dup,.int .i64 0,.bool p.retain,.string (bs p.topic),.string (bs p.payload),.int .i64 p.id,.slice f1 f2 f3,.slice c1 c2 c3] 36)
 generalize w.alloc (.cells #[.int .i64 p.kind,.bool p.clean,.bool p.will,.int .i64 p.keep,.string (bs p.client),.bool p.present,.int .i64 p.code,.bool p.dup,.int .i64 0,.bool p.retain,.string (bs p.topic),.string (bs p.payload),.int .i64 p.id,.slice f1 f2 f3,.slice c1 c2 c3] 36)=W0 at *
 have hl0:=blk_lt hnew
 have HN:=hide hnew
 have HBA:=hide hBA
 obtain ⟨d0,d1,d2,d3,d4,d5,d6,d7,d8,d9,d10,d11,d12,d13,d14⟩:=cells15 hnew
 clear hnew hBA HB
 go_region
 all_goals go_wp2_with fail
 all_goals
  refine (cO.out _).mono ?_
  rintro e w2 ⟨rfl,hB2⟩
  have hB2':Below w.heap.size w w2:=HBA.out.drew.trans (hB2.mono HBA.out.size)
  have hN2:w2.heap[w.heap.size]?=some (.cells #[.int .i64 p.kind,.bool p.clean,.bool p.will,.int .i64 p.keep,.string (bs p.client),.bool p.present,.int .i64 p.code,.bool p.dup,.int .i64 0,.bool p.retain,.string (bs p.topic),.string (bs p.payload),.int .i64 p.id,.slice f1 f2 f3,.slice c1 c2 c3] 36):=(hB2.block _ hl0).trans HN.out
  have hl2:=blk_lt hN2
  have HN2:=hide hN2
  have HB2:=hide hB2'
  clear hB2 hB2' hN2
  go_wp2_with fail
  refine (HP.out _ HB2.out).mono ?_
  rintro e w3 ⟨rfl,hq3,hk3⟩
  have hN3:w3.heap[w.heap.size]?=some (.cells #[.int .i64 p.kind,.bool p.clean,.bool p.will,.int .i64 p.keep,.string (bs p.client),.bool p.present,.int .i64 p.code,.bool p.dup,.int .i64 0,.bool p.retain,.string (bs p.topic),.string (bs p.payload),.int .i64 p.id,.slice f1 f2 f3,.slice c1 c2 c3] 36):=(hk3.2 _ (Nat.le_refl _) hl2).trans HN2.out
  have HQC:=hide hq3
  have g8:w3.cell? ⟨w.heap.size,8,none⟩=some (.int .i64 0):=blk_cell hN3 rfl
  have g12:w3.cell? ⟨w.heap.size,12,none⟩=some (.int .i64 p.id):=blk_cell hN3 rfl
  have hl3:=blk_lt hN3
  clear hq3 hk3 hN3
  go_wp2
  go_end0
  exact HW.out _ HQC.out
end br
end Go.Proofs.YtnmfmoimjkoieaaGreatDoor
