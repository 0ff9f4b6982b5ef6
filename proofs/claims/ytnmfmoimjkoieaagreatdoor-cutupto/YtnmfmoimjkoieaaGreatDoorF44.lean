import Derived.Test.YtnmfmoimjkoieaaGreatDoorF43
import Derived.Test.YtnmfmoimjkoieaaGreatDoorF37
import Derived.Test.YtnmfmoimjkoieaaGreatDoorF32
import Derived.Test.YtnmfmoimjkoieaaGreatDoorF26
import Derived.Test.YtnmfmoimjkoieaaGreatDoorF38
import Derived.Test.YtnmfmoimjkoieaaGreatDoorF36
namespace Go.Proofs.YtnmfmoimjkoieaaGreatDoor
namespace br
open Go.RowKit topPlain topWalks decPlain rd ew encPlain rf Go.Maps cu
def shutO:OutS:=⟨3,[],true⟩
def stepS (x:Ses×List Msg) (q:cu.Dec):(Ses×List Msg)×List OutS×Bool:=
 if q.1.kind=3 then ((recvS x.1 q.1,recvR x.1 x.2 q.1),recvO x.1 q.1,false)
 else if q.1.kind=4 then ((goS true (endS (isDone q.1.id) x.1),x.2),endO (isDone q.1.id) x.1,false)
 else if q.1.kind=5 then ((recT x.1 q.1.id,x.2),recO x.1 q.1.id,false)
 else if q.1.kind=6 then (({ x.1 with known:=x.1.known.erase q.1.id },x.2),[⟨3,encD (compS q.1.id) [] [],false⟩],false)
 else if q.1.kind=7 then ((goS true (endS (isComp q.1.id) x.1),x.2),endO (isComp q.1.id) x.1,false)
 else if q.1.kind=8 then (((retA x.2 ((subF x.1 q.2.1).1,[subO x.1 q.1 q.2.1]) (subF x.1 q.2.1).2.1).1,x.2),(retA x.2 ((subF x.1 q.2.1).1,[subO x.1 q.1 q.2.1]) (subF x.1 q.2.1).2.1).2,false)
 else if q.1.kind=10 then ((dropA x.1 q.2.1,x.2),[⟨3,encD (unsS q.1.id) [] [],false⟩],false)
 else if q.1.kind=12 then (x,[⟨3,encD pongS [] [],false⟩],false)
 else (x,[shutO],true)
theorem tellR_pre (q:Int) (os:List OutS):∀ (l:List Msg) (s:Ses) (o:List OutS),l.foldl (tellR q) (s,os ++ o)=((l.foldl (tellR q) (s,o)).1,os ++ (l.foldl (tellR q) (s,o)).2):=by
 intro l
 induction l with
 | nil=>exact fun s o=>rfl
 | cons a t ih =>
   intro s o
   rw [List.foldl_cons,List.foldl_cons]
   have:tellR q (s,os ++ o) a=(tellS true s (toldS a q true),os ++ (o ++ tellP s (toldS a q true))):=by simp [tellR]
   rw [this,ih]
   rfl
theorem retA_pre (R:List Msg) (os:List OutS):∀ (T:List (List UInt8×Int)) (s:Ses) (o:List OutS),retA R (s,os ++ o) T=((retA R (s,o) T).1,os ++ (retA R (s,o) T).2):=by
 intro T
 induction T with
 | nil=>exact fun s o=>rfl
 | cons a t ih =>
   intro s o
   have e:∀ x,retA R x (a :: t)=retA R (retF R x a) t:=fun _=>rfl
   rw [e,e]
   have:retF R (s,os ++ o) a=((retF R (s,o) a).1,os ++ (retF R (s,o) a).2):=tellR_pre a.2 os (matchS a.1 R) s o
   rw [this,ih]
theorem step_ok {x:Ses×List Msg} {p:Pkt} {fs:List (List UInt8×Int)} {cs:List Int} (hS:OkS x.1) (hR:OkR x.2) (hd:DecOk p fs):OkS (stepS x (p,fs,cs)).1.1∧OkR (stepS x (p,fs,cs)).1.2∧(stepS x (p,fs,cs)).2.1.length≤3000:=by
 have hft:∀ f∈fs,f.1.length≤65535:=fun f hf=>Nat.le_trans (hd.fil f hf) (by omega)
 have hend:∀ q S,(endO q S).length≤1:=fun q S=>by unfold endO;split<;>simp
 have hrec:∀ id,(recO x.1 id).length≤1:=fun id=>by unfold recO;split<;>simp
 unfold stepS
 simp only
 split
 · rename_i h3
   refine ⟨hS.recv p (fun e=>⟨hd.idp h3 e,hd.id.2⟩),hR.recv p (Nat.le_trans (hd.top h3) (by omega)),?_⟩
   show (recvO x.1 p).length≤3000
   have h1:=pubO_len (recv0 x.1 p) (ofS p)
   have h2:(recvA p).length≤1:=by unfold recvA;split;simp;split<;>simp
   unfold recvO
   rw [List.length_append]
   split
   · simp only [List.length_nil];omega
   · omega
 · split
   · exact ⟨(hS.done _).1,hR,Nat.le_trans (hend _ _) (by omega)⟩
   · split
     · exact ⟨hS.rec_ _,hR,Nat.le_trans (hrec _) (by omega)⟩
     · split
       · exact ⟨hS.forget _,hR,by simp⟩
       · split
         · exact ⟨(hS.comp _).1,hR,Nat.le_trans (hend _ _) (by omega)⟩
         · split
           · obtain ⟨h1,h2,h3⟩:=subF_ok hS hft
             obtain ⟨h4,h5⟩:=retA_ok hR.len (subF x.1 fs).2.1 ((subF x.1 fs).1,[subO x.1 p fs]) h1
             refine ⟨h4,hR,?_⟩
             have:=hd.len
             simp only [List.length_singleton] at h5
             exact Nat.le_trans h5 (by omega)
           · split
             · exact ⟨hS.drops _,hR,by simp⟩
             · split
               · exact ⟨hS,hR,by simp⟩
               · exact ⟨hS,hR,by simp⟩
theorem call_once7 (args:Array Value) (w:World):(callFunc 168 args).run Tryz.prog w=.ok (.enter 168 args) w:=by
 simp [callFunc,go_sem,Tryz.func168]
 kernel_rfl
theorem call_once8 (args:Array Value) (w:World):(callFunc 170 args).run Tryz.prog w=.ok (.enter 170 args) w:=by
 simp [callFunc,go_sem,Tryz.func170]
 kernel_rfl
theorem call_once9 (args:Array Value) (w:World):(callFunc 171 args).run Tryz.prog w=.ok (.enter 171 args) w:=by
 simp [callFunc,go_sem,Tryz.func171]
 kernel_rfl
theorem call_not (args:Array Value) (w:World):(callFunc 126 args).run Tryz.prog w=.ok (.enter 126 args) w:=by
 simp [callFunc,go_sem,Tryz.func126]
 kernel_rfl
theorem conC_x7 (n:Int) (V:ConV) (p:Pkt):(conC n V ⟨[],0,some p⟩)[2+10]?=some (.func (.func 168) #[] #[.pointer (some ⟨V.x',0,none⟩),.pointer (some ⟨V.y',0,none⟩)]):=by kernel_rfl
theorem conC_x8 (n:Int) (V:ConV) (p:Pkt):(conC n V ⟨[],0,some p⟩)[2+12]?=some (.func (.func 170) #[] #[.pointer (some ⟨V.x',0,none⟩),.pointer (some ⟨V.y',0,none⟩)]):=by kernel_rfl
theorem conC_x9 (n:Int) (V:ConV) (p:Pkt):(conC n V ⟨[],0,some p⟩)[2+14]?=some (.func (.func 171) #[] #[.pointer (some ⟨V.x',0,none⟩),.pointer (some ⟨V.y',0,none⟩)]):=by kernel_rfl
theorem conC_no (n:Int) (V:ConV) (p:Pkt) (K:Nat) (hK:K=1∨K=2∨K=9∨K=11∨K=13):(conC n V ⟨[],0,some p⟩)[2+K]?=some (.func (.func 126) #[] #[.pointer (some ⟨V.x,0,none⟩),.pointer (some ⟨V.y,0,none⟩)]):=by
 rcases hK with rfl | rfl | rfl | rfl | rfl<;>kernel_rfl
def After (P:Par) (os:List OutS) (y:(Ses×List Msg)×List OutS×Bool):Fpr:=if y.2.2 then EndAt P (os ++ y.2.1) else At P y.1.1 y.1.2 (os ++ y.2.1)
def HandIs (P:Par) (Q:OneV) (w:World) (K:Nat) (p:Pkt) (A:Fpr):Prop:=∃ (f:Nat) (cps:Array Value),(conC 3 Q.X.cv ⟨[],0,some P.hello⟩)[2+K]?=some (.func (.func f) #[] cps)∧(∀ (args:Array Value) (w:World),(callFunc f args).run Tryz.prog w=.ok (.enter f args) w)∧Calls Tryz.prog f (#[.agg (pkK p)] ++ cps) w fun e w'=>e=.returned (.tuple #[])∧Went A (Q.has P) w w'
theorem lit_wf {id:Int} (h:0≤id∧id≤65535):(Lit.int .i64 id).wf=true:=by
 have e1:IntKind.i64.min=-9223372036854775808:=by kernel_rfl
 have e2:IntKind.i64.max=9223372036854775807:=by kernel_rfl
 show (decide (IntKind.i64.min≤id) && decide (id≤IntKind.i64.max))=true
 rw [e1,e2,decide_eq_true (show (-9223372036854775808:Int)≤id by omega),decide_eq_true (show id≤(9223372036854775807:Int) by omega)]
 rfl
theorem One.hand {P:Par} {w:World} {Q:OneV} {x:Ses×List Msg} {os:List OutS} {wt:List UInt8} (h:One P w Q x.1 x.2 os) (hM:Mine P) (hS:OkS x.1) (hR:OkR x.2) (hw:w.ownsRow 0 5 1 P.wv wt.length (u8k wt)) (hL:os.length < 900000000000) (p:Pkt) (fs:List (List UInt8×Int)) (cs:List Int) (hd:DecOk p fs) (fv cv:Value) (hfv:w.ownsRow 0 95 2 fv fs.length (filK fs)) (hcv:∃ a b c,cv=.slice a b c) (hfn:∀ b,fv.ownBlock=some b→¬ Q.has P b) :
 ∃ K:Nat,K < 15∧p.kind=(K:Int)∧HandIs P Q w K { p with fv:=fv,cv:=cv } (After P os (stepS x (p,fs,cs))):=by
 have hfs:∃ a b c,fv=.slice a b c:=by obtain ⟨q,k,e⟩:=own_form hfv;exact ⟨_,_,_,e⟩
 have hft:∀ f∈fs,f.1.length≤65535:=fun f hf=>Nat.le_trans (hd.fil f hf) (by omega)
 have hK:=hd.kind
 have hid:=lit_wf hd.id
 have dn:∀ {w'},Below w.heap.size w w'→One P w' Q x.1 x.2 os:=fun hb=>h.down hb
 have wrap:∀ {A:Fpr} {w' w''} {e:Ending},Below w.heap.size w w'→(e=.returned (.tuple #[])∧Went A (Q.has P) w' w'')→e=.returned (.tuple #[])∧e=.returned (.tuple #[])∧Went A (Q.has P) w w'':=fun hb ⟨h1,h2⟩=>⟨h1,h1,h2.after hb⟩
 have hou:=hS.und
 have how:=hS.win
 have hul:x.1.under.length < 65000:=by omega
 obtain ⟨K,hK',hKl⟩:∃ K:Nat,p.kind=(K:Int)∧K < 15:=⟨p.kind.toNat,by omega,by omega⟩
 refine ⟨K,hKl,hK',?_⟩
 have hall:K=3∨K=4∨K=5∨K=6∨K=7∨K=8∨K=10∨K=12∨K=14∨(K=1∨K=2∨K=9∨K=11∨K=13):=by omega
 rcases hall with rfl | rfl | rfl | rfl | rfl | rfl | rfl | rfl | rfl | hno
 · have e:stepS x (p,fs,cs)=((recvS x.1 p,recvR x.1 x.2 p),recvO x.1 p,false):=by unfold stepS;simp [hK']
   rw [e]
   refine ⟨_,_,conC_pub _ _ _ ⟨_,rfl⟩,call_once1,h_pub P.B P.cb _ _ _ w _ h.b2 hfs hcv fun w' hb=>?_⟩
   exact ((dn hb).receive hM (hS.fair hR) hS.klen { p with fv:=fv,cv:=cv } hfs hcv (Nat.le_trans (hd.top hK') (by omega)) hid (hd.qos hK') (by omega)).mono fun e w'' hh=>wrap hb hh
 · have e:stepS x (p,fs,cs)=((goS true (endS (isDone p.id) x.1),x.2),endO (isDone p.id) x.1,false):=by unfold stepS;simp [hK']
   rw [e]
   refine ⟨_,_,conC_ack _ _ _ ⟨_,rfl⟩,call_once2,h_ack P.B P.cb _ _ P.sp _ w _ h.b2 h.c18 hfs hcv fun w' hb=>?_⟩
   exact ((dn hb).done p.id (by omega) hS.last hul (hS.done _).2).mono fun e w'' hh=>wrap hb hh
 · have e:stepS x (p,fs,cs)=((recT x.1 p.id,x.2),recO x.1 p.id,false):=by unfold stepS;simp [hK']
   rw [e]
   refine ⟨_,_,conC_rec _ _ _ ⟨_,rfl⟩,call_once3,h_rec P.B P.cb _ _ P.sp _ w _ h.b2 h.c18 hfs hcv fun w' hb=>?_⟩
   exact ((dn hb).released p.id (by omega)).mono fun e w'' hh=>wrap hb hh
 · have e:stepS x (p,fs,cs)=(({ x.1 with known:=x.1.known.erase p.id },x.2),[⟨3,encD (compS p.id) [] [],false⟩],false):=by unfold stepS;simp [hK']
   rw [e]
   refine ⟨_,_,conC_rel _ _ _ ⟨_,rfl⟩,call_once4,h_rel P.B P.cb _ _ _ w _ h.b2 hfs hcv fun w' hb=>?_⟩
   exact ((dn hb).rel { p with fv:=fv,cv:=cv } hfs hcv hid hS.knd (by omega)).mono fun e w'' hh=>wrap hb hh
 · have e:stepS x (p,fs,cs)=((goS true (endS (isComp p.id) x.1),x.2),endO (isComp p.id) x.1,false):=by unfold stepS;simp [hK']
   rw [e]
   refine ⟨_,_,conC_comp _ _ _ ⟨_,rfl⟩,call_once5,h_comp P.B P.cb _ _ P.sp _ w _ h.b2 h.c18 hfs hcv fun w' hb=>?_⟩
   exact ((dn hb).complete p.id (by omega) hS.last hul (hS.comp _).2).mono fun e w'' hh=>wrap hb hh
 · have e:stepS x (p,fs,cs)=(((retA x.2 ((subF x.1 fs).1,[subO x.1 p fs]) (subF x.1 fs).2.1).1,x.2),(retA x.2 ((subF x.1 fs).1,[subO x.1 p fs]) (subF x.1 fs).2.1).2,false):=by unfold stepS;simp [hK']
   rw [e]
   refine ⟨_,_,conC_sub _ _ _ ⟨_,rfl⟩,call_once6,h_sub P.B P.cb _ _ _ w _ h.b2 hfs hcv fun w' hb=>?_⟩
   refine ((dn hb).subs hS hR { p with fv:=fv,cv:=cv } fs hcv (own_below4 hfv hb) hfn (Nat.le_trans hd.len (by omega)) hft hL).mono fun e w'' hh=>?_
   rw [retA_pre] at hh
   exact wrap hb hh
 · have e:stepS x (p,fs,cs)=((dropA x.1 fs,x.2),[⟨3,encD (unsS p.id) [] [],false⟩],false):=by unfold stepS;simp [hK']
   rw [e]
   refine ⟨_,_,conC_x7 _ _ _,call_once7,h_uns P.B P.cb _ _ _ w _ h.b2 hfs hcv fun w' hb=>?_⟩
   exact ((dn hb).uns { p with fv:=fv,cv:=cv } fs hcv (own_below4 hfv hb) hfn (Nat.le_trans hd.len (by omega)) (by omega)).mono fun e w'' hh=>wrap hb hh
 · have e:stepS x (p,fs,cs)=(x,[⟨3,encD pongS [] [],false⟩],false):=by unfold stepS;simp [hK']
   rw [e]
   refine ⟨_,_,conC_x8 _ _ _,call_once8,h_ping P.B P.cb _ _ _ w _ h.b2 hfs hcv fun w' hb=>?_⟩
   exact ((dn hb).write pongS _ ((dn hb).gd.enc pongS rfl rfl) (by omega)).mono fun e w'' hh=>wrap hb hh
 · have e:stepS x (p,fs,cs)=(x,[shutO],true):=by unfold stepS;simp [hK']
   rw [e]
   refine ⟨_,_,conC_x9 _ _ _,call_once9,h_bye P.B P.cb _ _ _ w _ h.b2 hfs hcv fun w' hb=>?_⟩
   exact ((dn hb).shut hM (own_below4 hw hb) (by omega)).mono fun e w'' hh=>wrap hb hh
 · have e:stepS x (p,fs,cs)=(x,[shutO],true):=by
    unfold stepS
    simp only [hK']
    rcases hno with rfl | rfl | rfl | rfl | rfl<;>rfl
   rw [e]
   refine ⟨_,_,conC_no _ _ _ K hno,call_not,h_not P.B P.cb _ _ _ w _ h.b1 hfs hcv fun w' hb=>?_⟩
   exact ((dn hb).cut hM (own_below4 hw hb) (by omega)).mono fun e w'' hh=>wrap hb hh
end br
namespace br
open Go.RowKit topPlain topWalks decPlain rd ew encPlain rf
theorem u8k_len (l:List UInt8):(u8k l).length=l.length:=by simp [u8k]
theorem u8k_app (l m:List UInt8):u8k (l ++ m)=u8k l ++ u8k m:=by simp [u8k]
theorem u8k_one (l:List UInt8):∀ u∈u8k l,u.oneCell'=true:=by
 intro u hu
 simp only [u8k,List.mem_map] at hu
 obtain ⟨x,_,rfl⟩:=hu
 rfl
theorem wpList_append_wait (w:World) {ops:Array Oper} {rest:List Oper} {o:Oper} {a:Act} {Q:Exit→Act→World→Prop} (hgd:o.guard=none) (s x:Operand)
 (ho:o.op=.call { callee:=.builtin .append,args:=#[s,x],argTypes:=#[45,45] }) (i:TypeInfo) (hi:Tryz.prog.info? 5=some i) (hz:i.zero=some (.int .u8 0)) (hsize:i.size=1) (hby:i.bytes=1)
 (v:Value) (xs ys:List UInt8) (hs:a.eval s=v) (hown:w.ownsRow 0 5 1 v xs.length (u8k xs)) (ad:Addr) (c:Nat) (hx:a.eval x=.slice (some ad) ys.length c) (hnews:∀ j u,(u8k ys)[j]?=some u→w.cell? (ad.add j)=some u)
 (hl:xs.length+ys.length≤1000000000)
 (h:∀ rv w',w'.ownsRow 0 5 1 rv (xs ++ ys).length (u8k (xs ++ ys))→w'.ownsRow 0 5 1 v xs.length (u8k xs)→But (fun b=>v.ownBlock=some b) w w'→(∀ b,rv.ownBlock=some b→v.ownBlock=some b∨w.heap.size≤b)→wpList Tryz.prog ops Q rest (a.put o.dst rv) w') :
 wpList Tryz.prog ops Q (o :: rest) a w:=by
 have hrow:∀ {w':World} {rv:Value},w'.ownsRow 0 5 1 rv (xs.length+ys.length) (u8k xs ++ u8k ys)→w'.ownsRow 0 5 1 rv (xs ++ ys).length (u8k (xs ++ ys)):=fun hr=>by rw [u8k_app,List.length_append];exact hr
 have hnl:(u8k ys).length=ys.length*1:=by rw [u8k_len,Nat.mul_one]
 have hnil:∀ {w':World},w.grownBy w' none→w'.ownsRow 0 5 1 v xs.length (u8k xs)∧But (fun b=>v.ownBlock=some b) w w':=fun hg=>⟨own_keep hown (fun b hb=>by obtain ⟨cur,hc⟩:=own_blk hown hb;exact hg.block b (blk_lt hc) (fun e=>by cases e)),But.of_grown hg (fun b hb=>by cases hb)⟩
 obtain ⟨q,kap,rfl⟩:=own_form hown
 by_cases hroom:xs.length+ys.length≤kap
 · cases q with
   | some ad0 =>
     obtain ⟨g,rfl⟩:∃ g,ad0=⟨g,0,none⟩:=by
      rcases hown.2 with ⟨h1,_⟩ | ⟨g,cap,cur,e1,_⟩
      · cases h1
      · cases e1;exact ⟨g,rfl⟩
     refine wpList_append_fits w hgd s x 45 ho 0 5 i 1 Tryz.underlying45 hi hsize g xs.length kap (u8k xs) hs hown ad ys.length c (u8k ys) hx hnl hnews (u8k_one ys) hroom ?_
     intro w' hr hg
     refine h _ w' (hrow hr) ?_ (But.of_grown hg (fun b hb=>hb)) (fun b hb=>Or.inl hb)
     have:=own_take hr (i:=xs.length) (by omega)
     rw [Nat.mul_one,List.take_append_of_le_length (by rw [u8k_len];exact Nat.le_refl _),List.take_of_length_le (by rw [u8k_len];exact Nat.le_refl _)] at this
     exact this
   | none =>
     have hk:kap=0∧xs.length=0:=by
      rcases hown.2 with ⟨h1,h2⟩ | ⟨g,cap,cur,e1,_⟩
      · simp only [Value.slice.injEq] at h1;exact ⟨h1.2.2,h2⟩
      · cases e1
     refine wpList_append_own_at w hgd s x 45 ho 0 5 i (.int .u8 0) 1 1 Tryz.underlying45 hi hz hsize hby rfl (by decide) _ xs.length (u8k xs) hs hown ad ys.length c (u8k ys) hx hnl hnews (u8k_one ys) (by unfold maxLen;omega) (by omega) (Nat.zero_le _) ?_
     intro v' w' h1 h2 h3 h4
     obtain ⟨j1,j2⟩:=hnil h2
     refine h v' w' (hrow h1) j1 j2 (fun b hb=>?_)
     rw [h3.2 ⟨by rw [hk.1,hk.2],by omega⟩] at hb
     cases hb
 · refine wpList_append_new w hgd s x 45 ho 5 i (.int .u8 0) 1 1 Tryz.underlying45 hi hz hsize hby rfl (by decide) _ xs.length (u8k xs) hs hown ad ys.length c (fun q' cp e=>by cases e;omega) (by
    obtain ⟨_,h2⟩:=hown
    rcases h2 with ⟨h1,h2⟩ | ⟨g,cap,cur,e1,_,_,h3,_⟩
    · omega
    · cases e1;omega) (u8k ys) hx hnl hnews (u8k_one ys) (by unfold maxLen;omega) (by omega) ?_
   intro v' w' h1 h2 h3
   obtain ⟨j1,j2⟩:=hnil h2
   exact h v' w' (hrow h1) j1 j2 (fun b hb=>by rw [h3] at hb;cases hb;exact Or.inr (Nat.le_refl _))
def RestV (w:World) (v:Value) (l:List UInt8):Prop:=(l = []∧v=.slice none 0 0)∨BytesV w.heap.size w v l
set_option maxHeartbeats 800000 in
set_option maxRecDepth 100000 in
theorem clone_any (v:Value) (l:List UInt8) (w:World) (h:RestV w v l) (hl:l.length≤1000000000):Calls Tryz.prog 91 #[v] w fun e w'=>∃ v',e=.returned v'∧Below w.heap.size w w'∧w'.ownsRow w.heap.size 5 1 v' l.length (u8k l):=by
 rcases h with ⟨rfl,rfl⟩ | ⟨b,off,cap,rfl,h1,h2,h3,h4⟩
 · have hq:∀ w:World,(binOp .eql 45 (.slice none 0 0) (.slice none 0 0)).run Tryz.prog w=.ok (.bool true) w:=fun w=>by kernel_rfl
   go_enter Tryz.func91,Tryz.ntmps91
   go_wp2_with fail
   go_ret
   exact ⟨_,rfl,Below.refl _ _,rfl,Or.inl ⟨rfl,rfl⟩⟩
 · have hq:∀ w:World,(binOp .eql 45 (.slice (some ⟨b,off,none⟩) l.length cap) (.slice none 0 0)).run Tryz.prog w=.ok (.bool false) w:=fun w=>by kernel_rfl
   obtain ⟨i0,hi0,hz0,hz1,hz2⟩:=info_parts infoU8
   have HC:=hide (show ∀ j u,(u8k l)[j]?=some u→((w.alloc (.cells #[] 5)).cell? ((⟨b,off,none⟩:Addr).add j))=some u from fun j u hu=>by
    rw [add_off]
    simp only [u8k,List.getElem?_map,Option.map_eq_some_iff] at hu
    obtain ⟨x,hx,rfl⟩:=hu
    exact alloc_cell (h4 j x hx) _)
   have HO:=hide (show (w.alloc (.cells #[] 5)).ownsRow w.heap.size 5 1 (.slice (some ⟨w.heap.size,0,none⟩) 0 0) 0 [] from ⟨rfl,Or.inr ⟨w.heap.size,0,#[],rfl,Nat.le_refl _,heap_alloc_new _ _,Nat.le_refl _,by unfold maxLen;omega,rfl,rfl⟩⟩)
   have HL:=hide (show (u8k l).length=l.length*1 by rw [u8k_len,Nat.mul_one])
   have HONE:=hide (u8k_one l)
   clear h4
   go_enter Tryz.func91,Tryz.ntmps91
   go_wp2_with (first | (at_builtin;refine wpList_append_own_at _ rfl _ _ 45 rfl w.heap.size 5 i0 (.int .u8 0) 1 1 Tryz.underlying45 hi0 hz0 hz1 hz2 rfl (by decide) _ 0 [] rfl HO.out ⟨b,off,none⟩ l.length cap (u8k l) rfl HL.out HC.out HONE.out (by unfold maxLen;omega) (by omega) (by simp) ?_;intro rv w1 how1 hgr1 _ hloc1) | fail)
   have hB:Below w.heap.size w w1:=((Below.refl w.heap.size w).alloc (Nat.le_refl _) (.cells #[] 5)).trans ⟨hgr1.os,hgr1.tape,hgr1.output,hgr1.size,fun k hk=>hgr1.block k (by simp;omega) (fun e=>by have e2:some k=some w.heap.size:=e;injection e2 with e2;omega)⟩
   rw [Nat.zero_add,List.nil_append] at how1
   have HB:=hide hB
   have HW:=hide how1
   obtain ⟨q',k',rfl⟩:=own_form how1
   clear hB how1 hgr1 hloc1
   go_wp2_with fail
   go_ret
   exact ⟨_,rfl,HB.out,HW.out⟩
end br
namespace br
open Go.RowKit topPlain topWalks decPlain rd ew encPlain rf cu
section
variable {σ:Type} (step:σ→cu.Dec→σ×List OutS×Bool) (shut:OutS)
theorem readS_short {s:σ} {l:List UInt8} (h:decL l=.inl true):readS step shut s l=(s,[],some l):=by unfold readS readF;rw [h]
theorem readS_wrong {s:σ} {l:List UInt8} (h:decL l=.inl false):readS step shut s l=(s,[shut],none):=by unfold readS readF;rw [h]
theorem readS_next {s:σ} {l:List UInt8} {q:cu.Dec} {n:Nat} (h:decL l=.inr (q,n)):readS step shut s l=if (step s q).2.2 then ((step s q).1,(step s q).2.1,none) else ((readS step shut (step s q).1 (l.drop n)).1,(step s q).2.1 ++ (readS step shut (step s q).1 (l.drop n)).2.1,(readS step shut (step s q).1 (l.drop n)).2.2):=by
 obtain ⟨g1,g2⟩:=cu.dec_len h
 have hl:(l.drop n).length < l.length:=by rw [List.length_drop];omega
 rw [← readS_is step shut l.length _ (l.drop n) hl]
 unfold readS
 rw [readF,h]
 have hs:∃ s' o c,step s q=(s',o,c):=⟨_,_,_,rfl⟩
 obtain ⟨s',o,c,hs⟩:=hs
 simp only [hs]
 cases c<;>rfl
end
structure RdKit {σ:Type} (N0:Nat) (ash aw:Addr) (B k cb:Nat) (wv:Value) (wt:List UInt8) (step:σ→cu.Dec→σ×List OutS×Bool) (Inv:σ→List OutS→List UInt8→Fpr) (Ens:List OutS→Fpr):Prop where
 fit:∀ s o l,Fit N0 (Inv s o l)
 fitE:∀ o,Fit N0 (Ens o)
 gd:∀ s o l F w,Inv s o l F w→Gd N0 ash aw w
 blk:∀ s o l F w,Inv s o l F w→∃ BV ov,w.heap[B]?=some (.cells (brC BV ov) 131)∧BV.cv k=.pointer (some ⟨cb,0,none⟩)∧BV.clk=0
 con:∀ s o l F w,Inv s o l F w→∃ V C,w.heap[cb]?=some (.cells (conC (k:Int) V C) 137)∧C.heard=0∧V.wv=wv
 shut:∀ o F w,Ens o F w→(∃ BV ov,w.heap[B]?=some (.cells (brC BV ov) 131)∧BV.cv k=.pointer none)∧∃ V C,w.heap[cb]?=some (.cells (conC (k:Int) V C) 137)
 cut:∀ s o l F w,Inv s o l F w→decL l=.inl false→w.ownsRow 0 5 1 wv wt.length (u8k wt)→Calls Tryz.prog 79 #[.pointer (some ⟨B,0,none⟩),.pointer (some ⟨cb,0,none⟩)] w fun e w'=>e=.returned (.tuple #[])∧Went (Ens (o ++ [shutO])) F w w'
 hand:∀ s o l F w p fs cs n,Inv s o l F w→decL l=.inr ((p,fs,cs),n)→∀ w' fv cv,Below w.heap.size w w'→w'.ownsRow w.heap.size 95 2 fv fs.length (filC fs)→w'.ownsRow w.heap.size 3 1 cv cs.length (ints cs)→w'.ownsRow 0 5 1 wv wt.length (u8k wt) →
  ∃ (K f:Nat) (cps:Array Value),K < 15∧p.kind=(K:Int)∧w'.cell? ⟨cb,2+K,none⟩=some (.func (.func f) #[] cps)∧(∀ (args:Array Value) (w:World),(callFunc f args).run Tryz.prog w=.ok (.enter f args) w)∧Calls Tryz.prog f (#[.agg (pkCells { p with fv:=fv,cv:=cv })] ++ cps) w' fun e w''=>e=.returned (.tuple #[])∧Went (if (step s (p,fs,cs)).2.2 then Ens (o ++ (step s (p,fs,cs)).2.1) else Inv (step s (p,fs,cs)).1 (o ++ (step s (p,fs,cs)).2.1) (l.drop n)) F w' w''
def RestW (w1:World) (F0:Nat→Prop) (rv:Value) (l:List UInt8):Prop:=(l = []∧rv=.slice none 0 0)∨∃ b off cap,rv=.slice (some ⟨b,off,none⟩) l.length cap∧l.length≤cap∧cap≤maxLen∧b < w1.heap.size∧¬ F0 b∧∀ j x,l[j]?=some x→w1.cell? ⟨b,off+j,none⟩=some (.int .u8 (x.toNat:Int))
theorem RestW.now {w1 wx:World} {F0:Nat→Prop} {rv:Value} {l:List UInt8} (h:RestW w1 F0 rv l) (hb:But F0 w1 wx):RestV wx rv l:=by
 rcases h with h | ⟨b,off,cap,h1,h2,h3,h4,h5,h6⟩
 · exact Or.inl h
 · exact Or.inr ⟨b,off,cap,h1,h2,h3,Nat.lt_of_lt_of_le h4 hb.size,fun j x hx=>hb.cell h5 (h6 j x hx)⟩
theorem RestV.below {w w':World} {v:Value} {l:List UInt8} (h:RestV w v l) (hb:Below w.heap.size w w'):RestV w' v l:=by
 rcases h with h | ⟨b,off,cap,h1,h2,h3,h4,h5⟩
 · exact Or.inl h
 · exact Or.inr ⟨b,off,cap,h1,h2,h3,Nat.lt_of_lt_of_le h4 hb.size,fun j x hx=>by rw [hb.cell h4];exact h5 j x hx⟩
theorem RestW.drop {w1:World} {F0:Nat→Prop} {b off cap:Nat} {l:List UInt8} {n:Nat} (h2:l.length≤cap) (h3:cap≤maxLen) (h4:b < w1.heap.size) (h5:¬ F0 b) (h6:∀ j x,l[j]?=some x→w1.cell? ⟨b,off+j,none⟩=some (.int .u8 (x.toNat:Int))) (hn:n≤l.length):RestW w1 F0 (.slice (some (if cap=n then ⟨b,off,none⟩ else ⟨b,off+n,none⟩)) (l.length - n) (cap - n)) (l.drop n):=by
 right
 by_cases hc:cap=n
 · rw [if_pos hc]
   refine ⟨b,off,cap - n,by rw [List.length_drop],by rw [List.length_drop];omega,by omega,h4,h5,fun j x hx=>?_⟩
   have:(l.drop n).length=0:=by rw [List.length_drop];omega
   have:=(List.getElem?_eq_some_iff.1 hx).1
   omega
 · rw [if_neg hc]
   refine ⟨b,off+n,cap - n,by rw [List.length_drop],by rw [List.length_drop];omega,by omega,h4,h5,fun j x hx=>?_⟩
   rw [List.getElem?_drop] at hx
   rw [Nat.add_assoc]
   exact h6 _ x hx
section
variable {σ:Type} (step:σ→cu.Dec→σ×List OutS×Bool) (Inv:σ→List OutS→List UInt8→Fpr) (Ens:List OutS→Fpr)
structure RdI (w1:World) (F0:Nat→Prop) (s0:σ) (l0:List UInt8) (rv:Value) (wx:World) (s:σ) (o:List OutS) (l:List UInt8) (F:Nat→Prop):Prop where
 inv:Inv s o l F wx
 but:But F0 w1 wx
 new:∀ b,F b→F0 b∨w1.heap.size≤b
 pl:readS step shutO s0 l0=((readS step shutO s l).1,o ++ (readS step shutO s l).2.1,(readS step shutO s l).2.2)
 rest:RestW w1 F0 rv l
 len:l.length≤1000000000
structure RdE (w1:World) (F0:Nat→Prop) (s0:σ) (l0:List UInt8) (wx:World) (s:σ) (o:List OutS) (F:Nat→Prop):Prop where
 ens:Ens o F wx
 but:But F0 w1 wx
 new:∀ b,F b→F0 b∨w1.heap.size≤b
 pl:readS step shutO s0 l0=(s,o,none)
def RdR (w1:World) (F0:Nat→Prop) (s0:σ) (l0:List UInt8) (g:Nat) (rv:Value) (wx:World):Prop:=
 (∃ s o l F,g=l.length+1∧RdI step Inv w1 F0 s0 l0 rv wx s o l F)∨(g=0∧∃ s o F,RdE step Ens w1 F0 s0 l0 wx s o F)
def RdPost (cb:Nat) (G F0:Nat→Prop) (s0:σ) (l0:List UInt8) (w:World) (e:Ending) (w':World):Prop:=
 e=.returned (.tuple #[])∧((∃ s o F,readS step shutO s0 l0=(s,o,none)∧Ens o F w'∧But G w w'∧∀ b,F b→F0 b∨w.heap.size≤b) ∨
  ∃ s o r F w2 w3 v,readS step shutO s0 l0=(s,o,some r)∧Inv s o r F w2∧But G w w2∧(∀ b,F b→F0 b∨w.heap.size≤b)∧Below w2.heap.size w2 w3∧w3.ownsRow w2.heap.size 5 1 v r.length (u8k r)∧w'=w3.setCell ⟨cb,1,none⟩ v)
end
theorem RdI.next {σ:Type} {step:σ→cu.Dec→σ×List OutS×Bool} {Inv:σ→List OutS→List UInt8→Fpr} {Ens:List OutS→Fpr} {w1 wx wy wz:World} {F0:Nat→Prop} {s0:σ} {l0:List UInt8} {rv rv':Value} {s:σ} {o:List OutS} {l:List UInt8} {F:Nat→Prop} {q:cu.Dec} {n:Nat} (h:RdI step Inv w1 F0 s0 l0 rv wx s o l F) (hd:decL l=.inr (q,n)) (hb:Below wx.heap.size wx wy) (hr:RestW w1 F0 rv' (l.drop n))
 (hw:Went (if (step s q).2.2 then Ens (o ++ (step s q).2.1) else Inv (step s q).1 (o ++ (step s q).2.1) (l.drop n)) F wy wz):∃ g,g < l.length+1∧RdR step Inv Ens w1 F0 s0 l0 g rv' wz:=by
 obtain ⟨F',k1,k2,k3⟩:=hw
 have hp:=h.pl
 rw [readS_next step shutO hd] at hp
 have hbut:But F0 w1 wz:=(h.but.trans (But.of_below (F:=fun _=>False) hb) (fun _ _ f=>f.elim)).trans k2 (fun x hx e=>(h.new x e).elim (fun e=>e) (fun e=>by omega))
 have hnew:∀ b,F' b→F0 b∨w1.heap.size≤b:=fun b e=>(k3 b e).elim (h.new b) (fun e=>Or.inr (Nat.le_trans (Nat.le_trans h.but.size hb.size) e))
 obtain ⟨g1,g2⟩:=cu.dec_len hd
 cases hc:(step s q).2.2 with
 | true =>
   rw [hc] at k1 hp
   simp only [if_true] at k1 hp
   exact ⟨0,by omega,Or.inr ⟨rfl,_,_,F',k1,hbut,hnew,hp⟩⟩
 | false =>
   rw [hc] at k1 hp
   simp only [Bool.false_eq_true,if_false] at k1 hp
   refine ⟨(l.drop n).length+1,by rw [List.length_drop];omega,Or.inl ⟨_,_,_,F',rfl,k1,hbut,hnew,?_,hr,by rw [List.length_drop];have:=h.len;omega⟩⟩
   rw [hp,List.append_assoc]
theorem conC_same (n:Int) (V:ConV) (C:Con) (h:C.heard=0):(conC n V C).setIfInBounds 17 (.int .i64 0)=conC n V C:=by
 rw [conC_heard]
 obtain ⟨wt,hd,hl⟩:=C
 simp only at h
 subst h
 rfl
theorem below_same {w:World} {b i:Nat} {c:Array Value} {t:TypeId} {v:Value} (h:w.heap[b]?=some (.cells c t)) (hc:c.setIfInBounds i v=c):Below w.heap.size w (w.setCell ⟨b,i,none⟩ v):=by
 refine ⟨rfl,rfl,rfl,by simp [World.setCell],fun x hx=>?_⟩
 by_cases e:x=b
 · subst e;rw [blk_set _ h,hc,h]
 · exact Below.heap_setCell _ _ _ _ (fun e'=>e e')
theorem neq_iface (t:TypeId) (x:Value) (w:World):(binOp .neq 118 (.iface t x) .nilIface).run Tryz.prog w=.ok (.bool true) w:=by kernel_rfl
end br
namespace br
open Go.RowKit topPlain topWalks decPlain rd ew encPlain rf Go.Maps cu Go.Sort
def meB:List UInt8:=[109,101]
def helB:List UInt8:=[16,14,0,4,77,81,84,84,4,0,0,0,0,2,109,101]
def helP:Pkt:=helloD meB false
theorem hel_dec:decL helB=.inr ((helP,[],[]),16):=by kernel_rfl
theorem hel_short:∀ k:Fin 16,(match decL (helB.take k.val) with | .inl true=>true | _=>false)=true:=by decide +kernel
def Begins (l:List UInt8):Prop:=∃ m,l <+: helB ++ m
theorem begins_dec {l:List UInt8} (h:Begins l):decL l=.inl true∨decL l=.inr ((helP,[],[]),16):=by
 obtain ⟨m,t,ht⟩:=h
 have hlen:helB.length=16:=rfl
 by_cases hl:l.length < 16
 · left
   have e:l=helB.take l.length:=by
    have h1:(l ++ t).take l.length=l:=by simp
    rw [ht,List.take_append_of_le_length (by rw [hlen];omega)] at h1
    exact h1.symm
   have:=hel_short ⟨l.length,hl⟩
   simp only [← e] at this
   split at this
   · rename_i h1;exact h1
   · cases this
 · right
   have e:l=helB ++ l.drop 16:=by
    have h1:(l ++ t).take 16=helB:=by rw [ht];rfl
    rw [List.take_append_of_le_length (by omega)] at h1
    rw [← h1,List.take_append_drop]
   rw [e,dec_more _ (by rw [hel_dec];simp),hel_dec]
def NewHas (P:Par) (BV:BrV) (CV:ConV) (b:Nat):Prop:=b=P.B∨b=BV.mb∨b=P.cb∨b=CV.x∨b=CV.y∨b=CV.x'∨b=CV.y'
structure NewIs (P:Par) (win:Int) (que:Nat) (w:World) (BV:BrV) (CV:ConV):Prop where
 gd:Gd P.N0 P.ash P.aw w
 blk:BlkAt w P.B BV (.slice none 0 0) []
 con:w.heap[P.cb]?=some (.cells (conC 3 CV ⟨[],0,none⟩) 137)
 b1:Boxes w P.B P.cb CV.x CV.y
 b2:Boxes w P.B P.cb CV.x' CV.y'
 ecb:CV.cb=P.cb
 ewv:CV.wv=P.wv
 map:w.ownsMap Tryz.prog 9 ptrElem BV.mb 0 (.map [])
 rv:BV.rv=.slice none 0 0
 cv3:∀ j,BV.cv j=if j=3 then .pointer (some ⟨P.cb,0,none⟩) else .pointer none
 clk:BV.clk=0
 win:BV.win=win∧1≤win∧win≤8
 que:BV.que=(que:Int)∧que≤8
 n0:∀ b,NewHas P BV CV b→P.N0≤b
 n1:P.N1≤w.heap.size
def NewAt (P:Par) (win:Int) (que:Nat):Fpr:=fun F w=>∃ BV CV,NewIs P win que w BV CV∧F=NewHas P BV CV
theorem NewIs.lt {P:Par} {win:Int} {que:Nat} {w:World} {BV:BrV} {CV:ConV} (h:NewIs P win que w BV CV) {b:Nat} (hb:NewHas P BV CV b):b < w.heap.size:=by
 rcases hb with rfl | rfl | rfl | rfl | rfl | rfl | rfl
 · exact blk_lt h.blk.blk
 · obtain ⟨es,cl,hm⟩:=map_blk h.map;exact blk_lt hm
 · exact blk_lt h.con
 · exact blk_lt h.b1.bx
 · exact blk_lt h.b1.by_
 · exact blk_lt h.b2.bx
 · exact blk_lt h.b2.by_
theorem NewIs.keep {P:Par} {win:Int} {que:Nat} {w w':World} {BV:BrV} {CV:ConV} {G:Nat→Prop} (h:NewIs P win que w BV CV) (hb:But G w w') (hG:∀ x,G x→¬ NewHas P BV CV x∧P.N0≤x):NewIs P win que w' BV CV:=by
 have hk:∀ b,NewHas P BV CV b→w'.heap[b]?=w.heap[b]?:=fun b hx=>hb.keep b (h.lt hx) (fun g=>(hG b g).1 hx)
 refine ⟨h.gd.below (hb.below (fun b g=>(hG b g).2) h.gd.env.size),⟨(hk _ ?_).trans h.blk.blk,OutsAt.nil _⟩,(hk _ ?_).trans h.con,h.b1.keep (hk _ ?_) (hk _ ?_),h.b2.keep (hk _ ?_) (hk _ ?_),h.ecb,h.ewv,map_keep h.map (hk _ ?_),h.rv,h.cv3,h.clk,h.win,h.que,h.n0,Nat.le_trans h.n1 hb.size⟩
 all_goals unfold NewHas;simp
theorem new_fit (P:Par) (win:Int) (que:Nat):Fit P.N0 (NewAt P win que):=
 ⟨fun F G a b ⟨BV,CV,h,e⟩ hb hG=>⟨BV,CV,h.keep hb (fun x hx=>by subst e;exact hG x hx),e⟩,fun F a ⟨BV,CV,h,e⟩ b hb=>by subst e;exact h.lt hb⟩
def meD (sp:Nat):DataW Unit:=(DataW.map []:DataW Unit).put (.string meB) (.lit (.int .i64 (sp:Int)))
theorem me_keys {sp:Nat} {ss:List (List UInt8)} (h:ss.Perm (strKeys (meD sp))):ss.mergeSort (fun x y=>decide (x≤y)) = [meB]:=by
 have h:ss.Perm [meB]:=h
 have hl:=h.length_eq
 match ss,hl with
 | [x],_ =>
   have hx:x∈([meB]:List (List UInt8)):=h.subset (by simp)
   simp at hx
   subst hx
   simp
def Par.on (P:Par) (fv cv:Value) (sp:Nat):Par:={ P with me:=meB,hello:={ helP with fv:=fv,cv:=cv },D:=meD sp,sp:=sp }
theorem mine_on (P:Par) (fv cv:Value) (sp:Nat):Mine (P.on fv cv sp):=⟨fun ss h=>me_keys h,by show (1:Nat)≤1000000;decide,by show meB.length≤1000;decide,rfl,rfl,rfl⟩
def ackO1:OutS:=⟨3,encD (ackS false 0) [] [],false⟩
theorem new_ok (win:Int) (que:Nat) (h:1≤win∧win≤8):OkS (newS win que):=⟨by show (0:Int)≤0;decide,h,by show ((0:Nat):Int)≤win;omega,Or.inl rfl,by show ([]:List Int).Nodup;simp,(fun f hf=>by cases hf),by show ([]:List Int).Nodup;simp,(fun f hf=>by cases hf)⟩
theorem NewIs.connect {P:Par} {win:Int} {que:Nat} {w:World} {BV:BrV} {CV:ConV} {wt:List UInt8} (h:NewIs P win que w BV CV) (hw:w.ownsRow 0 5 1 P.wv wt.length (u8k wt)) (f1:Option Addr) (f2 f3:Nat) (c1:Option Addr) (c2 c3:Nat) :
 Calls Tryz.prog 90 #[.pointer (some ⟨P.B,0,none⟩),.pointer (some ⟨P.cb,0,none⟩),.agg (pkK { helP with fv:=.slice f1 f2 f3,cv:=.slice c1 c2 c3 })] w fun e w'=>e=.returned (.tuple #[])∧∃ sp,Went (At (P.on (.slice f1 f2 f3) (.slice c1 c2 c3) sp) (newS win que) [] [ackO1]) (NewHas P BV CV) w w':=by
 have hcon:ConAt w P.B ((3:Nat):Int) CV ⟨wt,0,none⟩:=⟨by rw [h.ecb];exact h.con,by rw [h.ewv];exact hw,by rw [h.ecb];exact h.b1,by rw [h.ecb];exact h.b2⟩
 have hcf:=conn_fresh (N0:=P.N0) P.B 0 ((3:Nat):Int) que helP f1 f2 f3 c1 c2 c3 (encD (ackS false 0) [] []) (.map []) BV (.slice none 0 0) [] CV ⟨wt,0,none⟩ (fun j=>if j=3 then some (CV,⟨wt,0,none⟩) else none) w (h.gd.enc _ rfl rfl) h.blk hcon rfl (fun j hj=>?_) (fun j hj=>?_) (by decide) h.map rfl (by decide) (by decide) (by decide) h.que.1 h.que.2 (by decide) ⟨by rw [h.ecb];exact h.n0 _ (Or.inr (Or.inr (Or.inl rfl))),h.n0 _ (Or.inr (Or.inl rfl))⟩
 rotate_left
 · show ConO w P.B BV j (if j=3 then some (CV,⟨wt,0,none⟩) else none)
   by_cases hj3:j=3
   · subst hj3
     rw [if_pos rfl]
     exact ⟨by rw [h.cv3,if_pos rfl,h.ecb],hcon⟩
   · rw [if_neg hj3]
     show BV.cv j=.pointer none
     rw [h.cv3,if_neg hj3]
 · show notFor helP.client (if j=3 then some (CV,⟨wt,0,none⟩) else none)
   by_cases hj3:j=3
   · rw [if_pos hj3];intro q hq;cases hq
   · rw [if_neg hj3];trivial
 rw [h.ecb] at hcf
 refine hcf.mono ?_
 rintro e w' ⟨rfl,w0,sb,V,CV',x,y,hb0,hx,hy,hC⟩
 refine ⟨rfl,sb,?_⟩
 obtain ⟨ov',M,k1,k2,k3,k4,k5⟩:=hC.out
 obtain ⟨dv,rfl⟩:=map_one k2
 have hs0:=hb0.size
 have hmb:BV.mb < w.heap.size:=h.lt (Or.inr (Or.inl rfl))
 have hbut:But (fun g=>g=P.B∨g=BV.mb∨g=P.cb) w w':=(hb0.wide (fun _ _ e=>Or.inr (Or.inl e))).trans k3 (fun g _ e=>by
  rcases e with (e | e) | e | e
  · exact Or.inr (Or.inr (by rw [← h.ecb];exact e))
  · exact Or.inr (Or.inl e)
  · exact Or.inl e
  · cases e)
 have hsub:∀ g,(g=P.B∨g=BV.mb∨g=P.cb)→NewHas P BV CV g:=fun g e=>by
  rcases e with e | e | e
  · exact Or.inl e
  · exact Or.inr (Or.inl e)
  · exact Or.inr (Or.inr (Or.inl e))
 have hvn:∀ g,SesV.has { V with snd:=some (x,y) } sb g→w.heap.size≤g:=fun g hg=>Nat.le_trans hs0 (hC.new g hg)
 have hnew:∀ b,(OneV.mk BV ov' [(⟨((3:Nat):Int),encD (ackS false 0) [] [],false⟩,dv)] ⟨CV',{ V with snd:=some (x,y) },x,y⟩).has (P.on (.slice f1 f2 f3) (.slice c1 c2 c3) sb) b→NewHas P BV CV b∨w.heap.size≤b:=fun b e=>by
  rcases e with e | e | ⟨o,ho,e⟩ | e | e | e | e | (e | e | e | e) | e | e
  · exact Or.inl (Or.inl e)
  · rcases k4 with k | ⟨b',k,k'⟩
    · have e2:ov'.ownBlock=some b:=e
      rw [k] at e2;cases e2
    · have e2:ov'.ownBlock=some b:=e
      rw [k] at e2;cases e2;exact Or.inr (Nat.le_trans hs0 k')
  · exact Or.inr (Nat.le_trans hs0 (k5 o ho b e))
  · exact Or.inr (hvn b e)
  · exact Or.inl (Or.inr (Or.inl e))
  · have e2:BV.rv.ownBlock=some b:=e
    rw [h.rv] at e2;cases e2
  · exact Or.inl (Or.inr (Or.inr (Or.inl e)))
  · exact Or.inr (by have:=hC.bx.1;have e2:b=CV'.x:=e;omega)
  · exact Or.inr (by have:=hC.bx.2.1;have e2:b=CV'.y:=e;omega)
  · exact Or.inr (by have:=hC.bx.2.2.1;have e2:b=CV'.x':=e;omega)
  · exact Or.inr (by have:=hC.bx.2.2.2;have e2:b=CV'.y':=e;omega)
  · exact Or.inr (by have e2:b=x:=e;omega)
  · exact Or.inr (by have e2:b=y:=e;omega)
 refine ⟨_,⟨⟨BV,ov',[(⟨((3:Nat):Int),encD (ackS false 0) [] [],false⟩,dv)],⟨CV',{ V with snd:=some (x,y) },x,y⟩⟩,?_,rfl⟩,hbut.wide (fun b _ e=>hsub b e),hnew⟩
 have hcb':CV'.cb=P.cb:=hC.cb.trans h.ecb
 refine ⟨h.gd.below (hbut.below (fun b e=>h.n0 b (hsub b e)) h.gd.env.size),k1,rfl,?_,?_,?_,hcb',hC.wv.trans h.ewv,hC.sp,?_,rfl,?_,hC.map,?_,?_,?_,h.clk,fun b e=>(hnew b e).elim (h.n0 b) (fun e=>Nat.le_trans h.gd.env.size e),Nat.le_trans h.n1 hbut.size,fun b e=>?_⟩
 · have:=hC.con.blk
   rw [hcb'] at this
   exact this
 · have:=hC.con.b1
   rw [hcb'] at this
   exact this
 · have:=hC.con.b2
   rw [hcb'] at this
   exact this
 · have:=hC.ses
   rw [h.win.1] at this
   exact this
 · have:=hC.snk
   rw [h.ecb] at this
   exact this
 · show w'.ownsRow 0 206 4 BV.rv 0 []
   rw [h.rv]
   exact ⟨rfl,Or.inl ⟨rfl,rfl⟩⟩
 · intro e
   have h1:w.heap.size≤V.kb:=hvn V.kb (Or.inr (Or.inr (Or.inl rfl)))
   have h2:V.kb=BV.mb:=e
   omega
 · show BV.cv 3=_
   rw [h.cv3,if_pos rfl]
   rfl
 · refine Nat.le_trans h.n1 ?_
   rcases e with e | ⟨o,ho,e⟩
   · rcases k4 with k | ⟨b',k,k'⟩
     · have e2:ov'.ownBlock=some b:=e
       rw [k] at e2;cases e2
     · have e2:ov'.ownBlock=some b:=e
       rw [k] at e2;cases e2;exact Nat.le_trans hs0 k'
   · exact Nat.le_trans hs0 (k5 o ho b e)
end br
namespace br
open Go.RowKit topPlain topWalks decPlain rd ew encPlain rf Go.Maps cu
abbrev St:=Option (Ses×List Msg)
def stepC (win:Int) (que:Nat):St→cu.Dec→St×List OutS×Bool
 | none,_=>(some (newS win que,[]),[ackO1],false)
 | some x,q=>(some (stepS x q).1,(stepS x q).2.1,(stepS x q).2.2)
def Mid (P:Par) (win:Int) (que:Nat) (s:St) (o:List OutS) (F:Nat→Prop) (w:World):Prop:=match s with
 | none=>o = []∧NewAt P win que F w
 | some x=>∃ fv cv sp,At (P.on fv cv sp) x.1 x.2 o F w
def Good (s:St) (o:List OutS) (l:List UInt8):Prop:=o.length+3000*l.length≤100000000000∧match s with
 | none=>Begins l
 | some x=>OkS x.1∧OkR x.2
def InvC (P:Par) (win:Int) (que:Nat) (s:St) (o:List OutS) (l:List UInt8):Fpr:=fun F w=>Mid P win que s o F w∧Good s o l
theorem mid_fit (P:Par) (win:Int) (que:Nat) (s:St) (o:List OutS):Fit P.N0 (Mid P win que s o):=by
 cases s with
 | none=>exact ⟨fun F G a b ⟨h1,h2⟩ hb hG=>⟨h1,(new_fit P win que).keep F G a b h2 hb hG⟩,fun F a ⟨_,h2⟩=>(new_fit P win que).lt F a h2⟩
 | some x=>exact ⟨fun F G a b ⟨fv,cv,sp,h⟩ hb hG=>⟨fv,cv,sp,(at_fit _ _ _ _).keep F G a b h hb hG⟩,fun F a ⟨_,_,_,h⟩=>(at_fit _ _ _ _).lt F a h⟩
theorem end_on {P:Par} {fv cv:Value} {sp:Nat} {o:List OutS} {F:Nat→Prop} {w:World} (h:EndAt (P.on fv cv sp) o F w):EndAt P o F w:=by
 obtain ⟨BV,ov,L,h,e⟩:=h
 exact ⟨BV,ov,L,⟨h.gd,h.blk,h.los,h.cv3,h.con,h.n0,h.o1⟩,e⟩
theorem good_next {win:Int} {que:Nat} {s:St} {o:List OutS} {l:List UInt8} {p:Pkt} {fs:List (List UInt8×Int)} {cs:List Int} {n:Nat} (h:Good s o l) (hd:decL l=.inr ((p,fs,cs),n)) (hw:1≤win∧win≤8):Good (stepC win que s (p,fs,cs)).1 (o ++ (stepC win que s (p,fs,cs)).2.1) (l.drop n):=by
 obtain ⟨g1,g2⟩:=cu.dec_len hd
 obtain ⟨h1,h2⟩:=h
 cases s with
 | none =>
   refine ⟨?_,new_ok win que hw,⟨(fun m hm=>by cases hm),by simp⟩⟩
   simp only [stepC,List.length_append,List.length_singleton,List.length_drop]
   omega
 | some x =>
   obtain ⟨k1,k2,k3⟩:=step_ok (cs:=cs) h2.1 h2.2 (cu.dec_ok hd)
   refine ⟨?_,k1,k2⟩
   simp only [stepC,List.length_append,List.length_drop]
   omega
theorem inv_kit (P:Par) (win:Int) (que:Nat) (wt:List UInt8):RdKit P.N0 P.ash P.aw P.B 3 P.cb P.wv wt (stepC win que) (InvC P win que) (EndAt P):=by
 refine ⟨fun s o l=>⟨fun F G a b ⟨h1,h2⟩ hb hG=>⟨(mid_fit P win que s o).keep F G a b h1 hb hG,h2⟩,fun F a ⟨h1,_⟩=>(mid_fit P win que s o).lt F a h1⟩,end_fit P,?_,?_,?_,?_,?_,?_⟩
 · rintro s o l F w ⟨h1,h2⟩
   cases s with
   | none=>obtain ⟨_,BV,CV,h,_⟩:=h1;exact h.gd
   | some x=>obtain ⟨fv,cv,sp,Q,h,_⟩:=h1;exact h.gd
 · rintro s o l F w ⟨h1,h2⟩
   cases s with
   | none=>obtain ⟨_,BV,CV,h,_⟩:=h1;exact ⟨BV,_,h.blk.blk,by rw [h.cv3,if_pos rfl],h.clk⟩
   | some x=>obtain ⟨fv,cv,sp,Q,h,_⟩:=h1;exact ⟨Q.BV,_,h.blk.blk,h.cv3,h.clk⟩
 · rintro s o l F w ⟨h1,h2⟩
   cases s with
   | none=>obtain ⟨_,BV,CV,h,_⟩:=h1;exact ⟨CV,_,h.con,rfl,h.ewv⟩
   | some x=>obtain ⟨fv,cv,sp,Q,h,_⟩:=h1;exact ⟨Q.X.cv,_,h.con,rfl,h.ewv⟩
 · rintro o F w ⟨BV,ov,L,h,_⟩
   obtain ⟨cv,C,hc⟩:=h.con
   exact ⟨⟨BV,ov,h.blk.blk,h.cv3⟩,cv,C,hc⟩
 · rintro s o l F w ⟨h1,hL,h2⟩ hd hwv
   cases s with
   | none=>rcases begins_dec h2 with e | e<;>rw [e] at hd<;>cases hd
   | some x =>
     obtain ⟨fv,cv,sp,Q,h,rfl⟩:=h1
     exact (h.cut (mine_on P fv cv sp) hwv (by omega)).mono fun e w' ⟨i1,i2⟩=>⟨i1,i2.mono (fun G b hb=>end_on hb)⟩
 · rintro s o l F w p fs cs n ⟨h1,h2⟩ hd w' fv cv hb hfv hcv hwv
   cases s with
   | none =>
     have hdd:=begins_dec h2.2
     rw [hd] at hdd
     have e0:((p,fs,cs),n)=((helP,[],[]),16):=by
      rcases hdd with e | e
      · cases e
      · injection e
     cases e0
     obtain ⟨rfl,BV,CV,h,rfl⟩:=h1
     have h':=h.keep (But.of_below (F:=fun _=>False) hb) (fun _ f=>f.elim)
     obtain ⟨f1,f3,rfl⟩:=own_form hfv
     obtain ⟨c1,c3,rfl⟩:=own_form hcv
     have hg:=good_next (win:=win) (que:=que) h2 hd h.win.2
     refine ⟨1,_,_,by decide,rfl,blk_cell h'.con (conC_bef _ _ _ rfl),call_beforeConnect1,?_⟩
     refine h_conn P.B P.cb CV.x' CV.y' { helP with fv:=.slice f1 ([]:List (List UInt8×Int)).length f3,cv:=.slice c1 ([]:List Int).length c3 } w' _ h'.b2 ⟨_,_,_,rfl⟩ ⟨_,_,_,rfl⟩ fun w1 hb1=>?_
     have h'':=h'.keep (But.of_below (F:=fun _=>False) hb1) (fun _ f=>f.elim)
     refine (h''.connect (own_below4 hwv hb1) f1 _ f3 c1 _ c3).mono ?_
     rintro e w2 ⟨rfl,sp,hW⟩
     refine ⟨rfl,rfl,?_⟩
     exact (hW.mono (A':=InvC P win que (some (newS win que,[])) ([] ++ [ackO1]) (l.drop 16)) (fun G b hG=>⟨⟨_,_,sp,hG⟩,hg⟩)).after hb1
   | some x =>
     obtain ⟨fv0,cv0,sp,Q,h,rfl⟩:=h1
     have h':=h.down hb
     obtain ⟨hL,hS,hR⟩:=h2
     have hwin:1≤x.1.window∧x.1.window≤8:=hS.win
     have hg:=good_next (win:=x.1.window) (que:=que) (s:=some x) ⟨hL,hS,hR⟩ hd hwin
     obtain ⟨c1,c3,hcv'⟩:=own_form hcv
     obtain ⟨K,hK,hk,f,cps,i1,i2,i3⟩:=h'.hand (mine_on P fv0 cv0 sp) hS hR hwv (by omega) p fs cs (cu.dec_ok hd) fv cv (own_zero hfv).1 ⟨_,_,_,hcv'⟩ (fun b hb' e=>by have h1:=(own_zero hfv).2 b hb';have:=h.lt e;omega)
     refine ⟨K,f,cps,hK,hk,blk_cell h'.con i1,i2,i3.mono fun e w2 ⟨j1,j2⟩=>⟨j1,?_⟩⟩
     refine j2.mono (fun G b hG=>?_)
     unfold After at hG
     show (if (stepS x (p,fs,cs)).2.2 then EndAt P (o ++ (stepS x (p,fs,cs)).2.1) else InvC P win que (some (stepS x (p,fs,cs)).1) (o ++ (stepS x (p,fs,cs)).2.1) (l.drop n)) G b
     cases hc:(stepS x (p,fs,cs)).2.2 with
     | true =>
       rw [hc] at hG
       exact end_on hG
     | false =>
       rw [hc] at hG
       exact ⟨⟨fv0,cv0,sp,hG⟩,hg⟩
end br
end Go.Proofs.YtnmfmoimjkoieaaGreatDoor
