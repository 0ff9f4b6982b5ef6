import Derived.Test.YtnmfmoimjkoieaaGreatDoorF29
import Derived.Laws.OwnMore
import Derived.Deep.RegionLaw
import Derived.Test.YtnmfmoimjkoieaaGreatDoorF37
namespace Go.Proofs.YtnmfmoimjkoieaaGreatDoor
namespace br
open Go.RowKit topPlain topWalks
theorem fl_len {α:Type} {c:α→List Value} {z:Nat} (hz:∀ a,(c a).length=z) (l:List α):(l.flatMap c).length=l.length*z:=by
 induction l with
 | nil=>simp
 | cons a t ih=>rw [List.flatMap_cons,List.length_append,ih,hz,List.length_cons,Nat.add_mul];omega
theorem fl_drop {α:Type} {c:α→List Value} {z:Nat} (hz:∀ a,(c a).length=z) (l:List α) (k:Nat):(l.flatMap c).drop (k*z)=(l.drop k).flatMap c:=by
 induction l generalizing k with
 | nil=>simp
 | cons a t ih =>
   cases k with
   | zero=>simp
   | succ k =>
     rw [List.flatMap_cons,List.drop_succ_cons,← ih k,List.drop_append,hz,List.drop_eq_nil_of_le (by rw [hz,Nat.add_mul];omega),List.nil_append,Nat.add_mul]
     congr 1
     omega
theorem fl_take {α:Type} {c:α→List Value} {z:Nat} (hz:∀ a,(c a).length=z) (l:List α) (k:Nat):(l.flatMap c).take (k*z)=(l.take k).flatMap c:=by
 have h1:=List.take_append_drop (k*z) (l.flatMap c)
 have h2:(l.take k).flatMap c ++ (l.drop k).flatMap c=l.flatMap c:=by rw [← List.flatMap_append,List.take_append_drop]
 rw [fl_drop hz] at h1
 exact List.append_cancel_right (h1.trans h2.symm)
theorem own_take {w:World} {C g n kap i z:Nat} {e:TypeId} {xs:List Value} (h:w.ownsRow C e z (.slice (some ⟨g,0,none⟩) n kap) n xs) (hi:i≤n):w.ownsRow C e z (.slice (some ⟨g,0,none⟩) i kap) i (xs.take (i*z)):=by
 have hm:i*z≤n*z:=Nat.mul_le_mul_right _ hi
 refine ⟨by rw [List.length_take,h.1];omega,?_⟩
 rcases h.2 with ⟨h1,_⟩ | ⟨g',cap,cur,e1,h2,hg,h3,h4,h5,h6⟩
 · cases h1
 · cases e1
   exact Or.inr ⟨g,kap,cur,rfl,h2,hg,by omega,h4,h5,by rw [← h6,List.take_take];congr 1;omega⟩
theorem own_spare {w:World} {C g n kap z o:Nat} {e:TypeId} {xs vs:List Value} (h:w.ownsRow C e z (.slice (some ⟨g,0,none⟩) n kap) n xs) (ho:n*z≤o) (hs:o+vs.length≤kap*z):(w.setCells g o vs).ownsRow C e z (.slice (some ⟨g,0,none⟩) n kap) n xs:=by
 refine ⟨h.1,?_⟩
 rcases h.2 with ⟨h1,_⟩ | ⟨g',cap,cur,e1,h2,hg,h3,h4,h5,h6⟩
 · cases h1
 · cases e1
   refine Or.inr ⟨g,kap,patch cur o vs,rfl,h2,setCells_blk _ _ _ _ hg,h3,h4,by rw [patch_size];exact h5,?_⟩
   rw [← h6]
   apply List.ext_getElem?
   intro k
   rw [List.getElem?_take,List.getElem?_take,Array.getElem?_toList,Array.getElem?_toList,patch_get _ _ _ _ (by omega)]
   by_cases hk:k < n*z
   · rw [if_pos hk,if_pos hk,if_neg (by omega)]
   · rw [if_neg hk,if_neg hk]
theorem own_room {w:World} {C g n kap z j:Nat} {e:TypeId} {xs:List Value} (h:w.ownsRow C e z (.slice (some ⟨g,0,none⟩) n kap) n xs) (hj:j < kap*z):(w.cell? ⟨g,j,none⟩).isSome=true∧w.frozen? ⟨g,j,none⟩=false:=by
 rcases h.2 with ⟨h1,_⟩ | ⟨g',cap,cur,e1,h2,hg,h3,h4,h5,h6⟩
 · cases h1
 · cases e1
   exact ⟨by rw [blk_cell hg (Array.getElem?_eq_getElem (show j < cur.size by omega))];rfl,blk_frozen hg⟩
theorem wpList_append_fits {P:Program} (w:World) {ops:Array Oper} {rest:List Oper} {o:Oper} {a:Act} {Q:Exit→Act→World→Prop} (hgd:o.guard=none) (s x:Operand) (t:TypeId)
 (ho:o.op=.call { callee:=.builtin .append,args:=#[s,x],argTypes:=#[t,t] }) (base:Nat) (e:TypeId) (i:TypeInfo) (size:Nat) (ht:P.underlying t=some (.slice e)) (hi:P.info? e=some i) (hsize:i.size=size)
 (g n cap:Nat) (xs:List Value) (hs:a.eval s=.slice (some ⟨g,0,none⟩) n cap) (hown:w.ownsRow base e size (.slice (some ⟨g,0,none⟩) n cap) n xs)
 (ad:Addr) (m c:Nat) (news:List Value) (hx:a.eval x=.slice (some ad) m c) (hl:news.length=m*size) (hnews:∀ j u,news[j]?=some u→w.cell? (ad.add j)=some u) (h1:∀ u∈news,u.oneCell'=true)
 (hroom:n+m≤cap)
 (h:∀ w',w'.ownsRow base e size (.slice (some ⟨g,0,none⟩) (n+m) cap) (n+m) (xs ++ news)→w.grownBy w' (some g)→wpList P ops Q rest (a.put o.dst (.slice (some ⟨g,0,none⟩) (n+m) cap)) w') :
 wpList P ops Q (o :: rest) a w:=by
 refine wpList_plain hgd fun K hK=>?_
 obtain ⟨w',hr,h2,h3⟩:=run_append_fits (P:=P) w base t o.type e i size ht hi hsize g n cap xs hown ad m c news hl hnews h1 hroom
 unfold Oper.wp
 simp [execOp,ho,resolve,invoke,builtin,hs,hx,hr,Result.andThen]
 exact hK _ _ (h w' h2 h3)
theorem step_append_fits {P:Program} {ops:Array Oper} {o:Oper} {a:Act} {w:World} {K:Act→World→Prop} {Q:Exit→Act→World→Prop} {E:Prop}
 (hg:o.guard=none) (s x:Operand) (t:TypeId) (hop:o.op=Op.call { callee:=Callee.builtin Builtin.append,args:=#[s,x],argTypes:=#[t,t] })
 (base:Nat) (e:TypeId) (i:TypeInfo) (size:Nat) (ht:P.underlying t=some (.slice e)) (hi:P.info? e=some i) (hsize:i.size=size)
 (g n cap:Nat) (xs:List Value) (hs:a.eval s=.slice (some ⟨g,0,none⟩) n cap) (hown:w.ownsRow base e size (.slice (some ⟨g,0,none⟩) n cap) n xs)
 (ad:Addr) (m c:Nat) (news:List Value) (hx:a.eval x=.slice (some ad) m c) (hl:news.length=m*size) (hnews:∀ j u,news[j]?=some u→w.cell? (ad.add j)=some u) (h1:∀ u∈news,u.oneCell'=true)
 (hroom:n+m≤cap)
 (hK:∀ w',w'.ownsRow base e size (.slice (some ⟨g,0,none⟩) (n+m) cap) (n+m) (xs ++ news)→w.grownBy w' (some g)→K (a.put o.dst (.slice (some ⟨g,0,none⟩) (n+m) cap)) w') :
 if Region.wanted o (yielded ops a.tmps)=true then Oper.wp P o a w K Q else E:=by
 have hw:Region.wanted o (yielded ops a.tmps)=true:=by simp [Region.wanted,hg]
 rw [if_pos hw]
 obtain ⟨w',hr,h2,h3⟩:=run_append_fits (P:=P) w base t o.type e i size ht hi hsize g n cap xs hown ad m c news hl hnews h1 hroom
 unfold Oper.wp
 simp [execOp,hop,resolve,invoke,builtin,hs,hx,hr,Result.andThen]
 exact hK w' h2 h3
end br
namespace br
open Go.RowKit topPlain topWalks decPlain
def filc (f:List UInt8×Int):List Value:=[.string (bs f.1),.int .i64 f.2]
theorem infoFil2:(Tryz.prog.info? 95).map (fun i=>(i.zero,i.size,i.bytes))=some (some (.agg #[.string ByteArray.empty,.int .i64 0]),2,24):=by kernel_rfl
def zFil:Value:=.agg #[.string ByteArray.empty,.int .i64 0]
theorem run_clear_fil (w:World) (ty:TypeId) (b o n c:Nat) (hn:0 < n) (hc:∀ j,j < n*2→(w.cell? ⟨b,o+j,none⟩).isSome=true) (hf:∀ j,j < n*2→w.frozen? ⟨b,o+j,none⟩=false) :
 ∃ vs,vs.length=n*2∧(Builtin.clear_ #[33] ty #[.slice (some ⟨b,o,none⟩) n c]).run Tryz.prog w=.ok (.tuple #[]) (w.setCells b o vs):=by
 refine ⟨(Builtin.zeroCells zFil.cells n).toList,by simp [Builtin.zeroCells,zFil,Value.cells],?_⟩
 have hl:(Builtin.zeroCells zFil.cells n).toList.length=n*2:=by simp [Builtin.zeroCells,zFil,Value.cells]
 have hst:=run_storeCells_cells (P:=Tryz.prog) b o (Builtin.zeroCells zFil.cells n).toList 0 w (by rw [hl];simpa using hc) (by rw [hl];simpa using hf) (by
  intro v hv
  have hm:v∈(Array.range (n*2)).map (fun i=>(#[.string ByteArray.empty,.int .i64 0]:Array Value)[i % 2]!):=Array.mem_toList_iff.1 hv
  obtain ⟨i,_,rfl⟩:=Array.mem_map.1 hm
  have h7:i % 2 < 2:=Nat.mod_lt _ (by decide)
  match i % 2,h7 with
  | 0,_=>rfl | 1,_=>rfl)
 simp only [Nat.add_zero] at hst
 obtain ⟨m,rfl⟩:∃ m,n=m+1:=⟨n - 1,by omega⟩
 simp [Builtin.clear_,run_underlying Tryz.underlying33]
 show (Result.andThen (Sem.run Tryz.prog (storeCells ⟨b,o,none⟩ (Builtin.zeroCells zFil.cells (m+1)).toList) w) _)=_
 rw [hst]
 rfl
set_option maxHeartbeats 1600000 in
set_option maxRecDepth 100000 in
theorem delFil_any (v:Value) (l:List (List UInt8×Int)) (i j:Nat) (w:World) (hv:w.ownsRow 0 95 2 v l.length (l.flatMap filc)) (hi:i < l.length) (hj:j=i+1) :
 Calls Tryz.prog 242 #[v,.int .i64 i,.int .i64 j] w fun e w'=>∃ v',e=.returned v'∧But (fun b=>v.ownBlock=some b) w w'∧v'.ownBlock=v.ownBlock∧w'.ownsRow 0 95 2 v' (l.eraseIdx i).length ((l.eraseIdx i).flatMap filc):=by
 obtain ⟨q,kap,rfl⟩:=own_form hv
 obtain ⟨g,rfl,hg,hkc,hcm,hcell⟩:=own_at hv (by omega)
 have hz:∀ a,(filc a).length=2:=fun _=>rfl
 have hel:l.eraseIdx i=l.take i ++ l.drop j:=by rw [hj];exact List.eraseIdx_eq_take_drop_succ _ _
 have hlen:(l.eraseIdx i).length=l.length - 1:=by rw [List.length_eraseIdx,if_pos hi]
 have HOT:=hide (own_take hv (Nat.le_of_lt hi))
 rw [fl_take hz] at HOT
 have HNW:=hide (show ∀ k u,((l.drop j).flatMap filc)[k]?=some u→w.cell? ((⟨g,j*2,none⟩:Addr).add k)=some u from fun k u hu=>by
  rw [add_off]
  rw [← fl_drop hz,List.getElem?_drop] at hu
  exact hcell _ _ hu)
 have HNL:=hide (show ((l.drop j).flatMap filc).length=(l.length - j)*2 by rw [fl_len hz,List.length_drop])
 have HN1:=hide (show ∀ u∈(l.drop j).flatMap filc,u.oneCell'=true from fun u hu=>by
  obtain ⟨a,_,ha⟩:=List.mem_flatMap.1 hu
  simp [filc] at ha
  rcases ha with rfl | rfl<;>rfl)
 have HEL:=hide hel
 have HLN:=hide hlen
 obtain ⟨i0,hi0,hz0,hz1,hz2⟩:=info_parts infoFil2
 unfold maxLen at hcm
 clear hv hcell hlen hz
 have hik:i≤kap:=by omega
 have hij:i≤j:=by omega
 have hnj:i≠j:=by omega
 have hjl:j≤l.length:=by omega
 have hjk:j≤kap:=by omega
 have hil:i≤l.length:=by omega
 have HJ:=hide hj
 have hlj:kap=j→l.length=j:=by omega
 clear hj hel
 rcases (show kap=j∨kap≠j by omega) with hcap | hcap
 · subst hcap
   have hdn:l.drop kap = []:=List.drop_eq_nil_of_le (by omega)
   have HDN:=hide hdn
   have hll:l.length - kap=0:=by omega
   clear hlj hdn
   go_enter Tryz.func242,Tryz.ntmps242
   go_wp2_with fail
   go_region_law (
    refine step_append_fits rfl (.tmp 22) (.tmp 25) 33 rfl 0 95 i0 2 Tryz.underlying33 hi0 hz1 g i kap ((l.take i).flatMap filc) ?s1 ?s2 ⟨g,0,none⟩ 0 0 [] ?s3 rfl ?s4 ?s6 ?s5 ?_
    case s1=>simp [Act.eval,Act.put]
    case s3=>simp [Act.eval,Act.put]
    case s2=>exact HOT.out
    case s4=>intro j u hu;simp at hu
    case s6=>intro u hu;simp at hu
    case s5=>omega
    intro w1 how1 hgr1
    have HO1:=hide how1
    have HG1:=hide hgr1
    clear how1 hgr1)
   all_goals
    have hO:=HO1.out
    simp only [Nat.add_zero,List.append_nil] at hO
    have hl1:l.length=i+1:=by have:=HJ.out;omega
    replace HO1:=hide hO
    clear hO
    have hgb:But (fun b=>b=g) w w1:=But.of_grown (row:=some g) ⟨HG1.out.os,HG1.out.tape,HG1.out.output,HG1.out.size,HG1.out.block⟩ (fun b e=>by cases e;rfl)
    obtain ⟨vs,hvs,hclr⟩:∃ vs:List Value,vs.length=1*2∧∀ ty,(Builtin.clear_ #[33] ty #[.slice (some ⟨g,i*2,none⟩) 1 (kap - i)]).run Tryz.prog w1=.ok (.tuple #[]) (w1.setCells g (i*2) vs):=by
     obtain ⟨vs,h1,h2⟩:=run_clear_fil w1 0 g (i*2) 1 (kap - i) (by omega) (fun j hj=>(own_room HO1.out (by omega)).1) (fun j hj=>(own_room HO1.out (by omega)).2)
     exact ⟨vs,h1,fun ty=>h2⟩
    have HVS:=hide hvs
    have HGB:=hide hgb
    have hkl:i≤l.length:=by omega
    have hkk:i≤kap:=by omega
    have hkn:kap≠i:=by omega
    have hlk:l.length≤kap:=by omega
    clear hvs hgb
    go_wp2_with fail
    go_ret
    refine ⟨_,rfl,(HGB.out.trans (But.cells (F:=fun b=>b=g) rfl vs w1 (i*2)) (fun _ _ e=>e)).wide (fun b _ e=>by rw [e];rfl),rfl,?_⟩
    have hO9:=own_spare (o:=i*2) (vs:=vs) HO1.out (Nat.le_refl _) (by rw [HVS.out];omega)
    rw [HLN.out,HEL.out,List.flatMap_append]
    rw [HDN.out,List.flatMap_nil,List.append_nil,show l.length - 1=i by omega]
    exact hO9
 · go_enter Tryz.func242,Tryz.ntmps242
   go_wp2_with fail
   go_region_law (
    refine step_append_fits rfl (.tmp 22) (.tmp 25) 33 rfl 0 95 i0 2 Tryz.underlying33 hi0 hz1 g i kap ((l.take i).flatMap filc) ?s1 ?s2 ⟨g,j*2,none⟩ (l.length - j) (kap - j) ((l.drop j).flatMap filc) ?s3 HNL.out ?s4 HN1.out ?s5 ?_
    case s1=>simp [Act.eval,Act.put]
    case s3=>simp [Act.eval,Act.put]
    case s2=>exact HOT.out
    case s4=>exact HNW.out
    case s5=>have:=HJ.out;omega
    intro w1 how1 hgr1
    have HO1:=hide how1
    have HG1:=hide hgr1
    clear how1 hgr1)
   all_goals
    obtain ⟨k,hk⟩:∃ k,i+(l.length - j)=k:=⟨_,rfl⟩
    rw [hk] at HO1 ⊢
    have hl1:l.length=k+1:=by have:=HJ.out;omega
    have HK:=hide hk
    clear hk
    have hgb:But (fun b=>b=g) w w1:=But.of_grown (row:=some g) ⟨HG1.out.os,HG1.out.tape,HG1.out.output,HG1.out.size,HG1.out.block⟩ (fun b e=>by cases e;rfl)
    obtain ⟨vs,hvs,hclr⟩:∃ vs:List Value,vs.length=1*2∧∀ ty,(Builtin.clear_ #[33] ty #[.slice (some ⟨g,k*2,none⟩) 1 (kap - k)]).run Tryz.prog w1=.ok (.tuple #[]) (w1.setCells g (k*2) vs):=by
     obtain ⟨vs,h1,h2⟩:=run_clear_fil w1 0 g (k*2) 1 (kap - k) (by omega) (fun j hj=>(own_room HO1.out (by omega)).1) (fun j hj=>(own_room HO1.out (by omega)).2)
     exact ⟨vs,h1,fun ty=>h2⟩
    have HVS:=hide hvs
    have HGB:=hide hgb
    have hkl:k≤l.length:=by omega
    have hkk:k≤kap:=by omega
    have hkn:kap≠k:=by omega
    have hlk:l.length≤kap:=by omega
    clear hvs hgb
    go_wp2_with fail
    go_ret
    refine ⟨_,rfl,(HGB.out.trans (But.cells (F:=fun b=>b=g) rfl vs w1 (k*2)) (fun _ _ e=>e)).wide (fun b _ e=>by rw [e];rfl),rfl,?_⟩
    have hO9:=own_spare (o:=k*2) (vs:=vs) HO1.out (Nat.le_refl _) (by rw [HVS.out];omega)
    rw [HLN.out,HEL.out,List.flatMap_append]
    rw [show l.length - 1=k by omega]
    exact hO9
def zMsg:Value:=.agg #[.string ByteArray.empty,.string ByteArray.empty,.int .i64 0,.bool false]
theorem run_clear_msg (w:World) (ty:TypeId) (b o n c:Nat) (hn:0 < n) (hc:∀ j,j < n*4→(w.cell? ⟨b,o+j,none⟩).isSome=true) (hf:∀ j,j < n*4→w.frozen? ⟨b,o+j,none⟩=false) :
 ∃ vs,vs.length=n*4∧(Builtin.clear_ #[127] ty #[.slice (some ⟨b,o,none⟩) n c]).run Tryz.prog w=.ok (.tuple #[]) (w.setCells b o vs):=by
 refine ⟨(Builtin.zeroCells zMsg.cells n).toList,by simp [Builtin.zeroCells,zMsg,Value.cells],?_⟩
 have hl:(Builtin.zeroCells zMsg.cells n).toList.length=n*4:=by simp [Builtin.zeroCells,zMsg,Value.cells]
 have hst:=run_storeCells_cells (P:=Tryz.prog) b o (Builtin.zeroCells zMsg.cells n).toList 0 w (by rw [hl];simpa using hc) (by rw [hl];simpa using hf) (by
  intro v hv
  have hm:v∈(Array.range (n*4)).map (fun i=>(#[.string ByteArray.empty,.string ByteArray.empty,.int .i64 0,.bool false]:Array Value)[i % 4]!):=Array.mem_toList_iff.1 hv
  obtain ⟨i,_,rfl⟩:=Array.mem_map.1 hm
  have h7:i % 4 < 4:=Nat.mod_lt _ (by decide)
  match i % 4,h7 with
  | 0,_=>rfl | 1,_=>rfl | 2,_=>rfl | 3,_=>rfl)
 simp only [Nat.add_zero] at hst
 obtain ⟨m,rfl⟩:∃ m,n=m+1:=⟨n - 1,by omega⟩
 simp [Builtin.clear_,run_underlying Tryz.underlying127]
 show (Result.andThen (Sem.run Tryz.prog (storeCells ⟨b,o,none⟩ (Builtin.zeroCells zMsg.cells (m+1)).toList) w) _)=_
 rw [hst]
 rfl
set_option maxHeartbeats 1600000 in
set_option maxRecDepth 100000 in
theorem delMsg_any (v:Value) (l:List (Msg)) (i j:Nat) (w:World) (hv:w.ownsRow 0 206 4 v l.length (l.flatMap msgC)) (hi:i < l.length) (hj:j=i+1) :
 Calls Tryz.prog 189 #[v,.int .i64 i,.int .i64 j] w fun e w'=>∃ v',e=.returned v'∧But (fun b=>v.ownBlock=some b) w w'∧v'.ownBlock=v.ownBlock∧w'.ownsRow 0 206 4 v' (l.eraseIdx i).length ((l.eraseIdx i).flatMap msgC):=by
 obtain ⟨q,kap,rfl⟩:=own_form hv
 obtain ⟨g,rfl,hg,hkc,hcm,hcell⟩:=own_at hv (by omega)
 have hz:∀ a,(msgC a).length=4:=fun _=>rfl
 have hel:l.eraseIdx i=l.take i ++ l.drop j:=by rw [hj];exact List.eraseIdx_eq_take_drop_succ _ _
 have hlen:(l.eraseIdx i).length=l.length - 1:=by rw [List.length_eraseIdx,if_pos hi]
 have HOT:=hide (own_take hv (Nat.le_of_lt hi))
 rw [fl_take hz] at HOT
 have HNW:=hide (show ∀ k u,((l.drop j).flatMap msgC)[k]?=some u→w.cell? ((⟨g,j*4,none⟩:Addr).add k)=some u from fun k u hu=>by
  rw [add_off]
  rw [← fl_drop hz,List.getElem?_drop] at hu
  exact hcell _ _ hu)
 have HNL:=hide (show ((l.drop j).flatMap msgC).length=(l.length - j)*4 by rw [fl_len hz,List.length_drop])
 have HN1:=hide (show ∀ u∈(l.drop j).flatMap msgC,u.oneCell'=true from fun u hu=>by
  obtain ⟨a,_,ha⟩:=List.mem_flatMap.1 hu
  simp [msgC] at ha
  rcases ha with rfl | rfl | rfl | rfl<;>rfl)
 have HEL:=hide hel
 have HLN:=hide hlen
 obtain ⟨i0,hi0,hz0,hz1,hz2⟩:=info_parts infoMsg4
 unfold maxLen at hcm
 clear hv hcell hlen hz
 have hik:i≤kap:=by omega
 have hij:i≤j:=by omega
 have hnj:i≠j:=by omega
 have hjl:j≤l.length:=by omega
 have hjk:j≤kap:=by omega
 have hil:i≤l.length:=by omega
 have HJ:=hide hj
 have hlj:kap=j→l.length=j:=by omega
 clear hj hel
 rcases (show kap=j∨kap≠j by omega) with hcap | hcap
 · subst hcap
   have hdn:l.drop kap = []:=List.drop_eq_nil_of_le (by omega)
   have HDN:=hide hdn
   have hll:l.length - kap=0:=by omega
   clear hlj hdn
   go_enter Tryz.func189,Tryz.ntmps189
   go_wp2_with fail
   go_region_law (
    refine step_append_fits rfl (.tmp 22) (.tmp 25) 127 rfl 0 206 i0 4 Tryz.underlying127 hi0 hz1 g i kap ((l.take i).flatMap msgC) ?s1 ?s2 ⟨g,0,none⟩ 0 0 [] ?s3 rfl ?s4 ?s6 ?s5 ?_
    case s1=>simp [Act.eval,Act.put]
    case s3=>simp [Act.eval,Act.put]
    case s2=>exact HOT.out
    case s4=>intro j u hu;simp at hu
    case s6=>intro u hu;simp at hu
    case s5=>omega
    intro w1 how1 hgr1
    have HO1:=hide how1
    have HG1:=hide hgr1
    clear how1 hgr1)
   all_goals
    have hO:=HO1.out
    simp only [Nat.add_zero,List.append_nil] at hO
    have hl1:l.length=i+1:=by have:=HJ.out;omega
    replace HO1:=hide hO
    clear hO
    have hgb:But (fun b=>b=g) w w1:=But.of_grown (row:=some g) ⟨HG1.out.os,HG1.out.tape,HG1.out.output,HG1.out.size,HG1.out.block⟩ (fun b e=>by cases e;rfl)
    obtain ⟨vs,hvs,hclr⟩:∃ vs:List Value,vs.length=1*4∧∀ ty,(Builtin.clear_ #[127] ty #[.slice (some ⟨g,i*4,none⟩) 1 (kap - i)]).run Tryz.prog w1=.ok (.tuple #[]) (w1.setCells g (i*4) vs):=by
     obtain ⟨vs,h1,h2⟩:=run_clear_msg w1 0 g (i*4) 1 (kap - i) (by omega) (fun j hj=>(own_room HO1.out (by omega)).1) (fun j hj=>(own_room HO1.out (by omega)).2)
     exact ⟨vs,h1,fun ty=>h2⟩
    have HVS:=hide hvs
    have HGB:=hide hgb
    have hkl:i≤l.length:=by omega
    have hkk:i≤kap:=by omega
    have hkn:kap≠i:=by omega
    have hlk:l.length≤kap:=by omega
    clear hvs hgb
    go_wp2_with fail
    go_ret
    refine ⟨_,rfl,(HGB.out.trans (But.cells (F:=fun b=>b=g) rfl vs w1 (i*4)) (fun _ _ e=>e)).wide (fun b _ e=>by rw [e];rfl),rfl,?_⟩
    have hO9:=own_spare (o:=i*4) (vs:=vs) HO1.out (Nat.le_refl _) (by rw [HVS.out];omega)
    rw [HLN.out,HEL.out,List.flatMap_append]
    rw [HDN.out,List.flatMap_nil,List.append_nil,show l.length - 1=i by omega]
    exact hO9
 · go_enter Tryz.func189,Tryz.ntmps189
   go_wp2_with fail
   go_region_law (
    refine step_append_fits rfl (.tmp 22) (.tmp 25) 127 rfl 0 206 i0 4 Tryz.underlying127 hi0 hz1 g i kap ((l.take i).flatMap msgC) ?s1 ?s2 ⟨g,j*4,none⟩ (l.length - j) (kap - j) ((l.drop j).flatMap msgC) ?s3 HNL.out ?s4 HN1.out ?s5 ?_
    case s1=>simp [Act.eval,Act.put]
    case s3=>simp [Act.eval,Act.put]
    case s2=>exact HOT.out
    case s4=>exact HNW.out
    case s5=>have:=HJ.out;omega
    intro w1 how1 hgr1
    have HO1:=hide how1
    have HG1:=hide hgr1
    clear how1 hgr1)
   all_goals
    obtain ⟨k,hk⟩:∃ k,i+(l.length - j)=k:=⟨_,rfl⟩
    rw [hk] at HO1 ⊢
    have hl1:l.length=k+1:=by have:=HJ.out;omega
    have HK:=hide hk
    clear hk
    have hgb:But (fun b=>b=g) w w1:=But.of_grown (row:=some g) ⟨HG1.out.os,HG1.out.tape,HG1.out.output,HG1.out.size,HG1.out.block⟩ (fun b e=>by cases e;rfl)
    obtain ⟨vs,hvs,hclr⟩:∃ vs:List Value,vs.length=1*4∧∀ ty,(Builtin.clear_ #[127] ty #[.slice (some ⟨g,k*4,none⟩) 1 (kap - k)]).run Tryz.prog w1=.ok (.tuple #[]) (w1.setCells g (k*4) vs):=by
     obtain ⟨vs,h1,h2⟩:=run_clear_msg w1 0 g (k*4) 1 (kap - k) (by omega) (fun j hj=>(own_room HO1.out (by omega)).1) (fun j hj=>(own_room HO1.out (by omega)).2)
     exact ⟨vs,h1,fun ty=>h2⟩
    have HVS:=hide hvs
    have HGB:=hide hgb
    have hkl:k≤l.length:=by omega
    have hkk:k≤kap:=by omega
    have hkn:kap≠k:=by omega
    have hlk:l.length≤kap:=by omega
    clear hvs hgb
    go_wp2_with fail
    go_ret
    refine ⟨_,rfl,(HGB.out.trans (But.cells (F:=fun b=>b=g) rfl vs w1 (k*4)) (fun _ _ e=>e)).wide (fun b _ e=>by rw [e];rfl),rfl,?_⟩
    have hO9:=own_spare (o:=k*4) (vs:=vs) HO1.out (Nat.le_refl _) (by rw [HVS.out];omega)
    rw [HLN.out,HEL.out,List.flatMap_append]
    rw [show l.length - 1=k by omega]
    exact hO9
end br
end Go.Proofs.YtnmfmoimjkoieaaGreatDoor
