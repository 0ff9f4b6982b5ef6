import Derived.Test.YtnmfmoimjkoieaaGreatDoorF47
import Derived.Test.YtnmfmoimjkoieaaGreatDoorF46
import Derived.Test.YtnmfmoimjkoieaaGreatDoorF27
import Derived.Test.YtnmfmoimjkoieaaGreatDoorF04
import Derived.Test.YtnmfmoimjkoieaaGreatDoorF36
namespace Go.Proofs.YtnmfmoimjkoieaaGreatDoor
namespace br
open Go.RowKit topPlain topWalks decPlain rd ew encPlain rf Go.Maps cu
structure Plc where
 N0:Nat
 ash:Addr
 aw:Addr
 win:Int
 que:Nat
def Plc.par (X:Plc) (B cb:Nat):Par:=⟨X.N0,0,X.ash,X.aw,B,cb,.slice none 0 0,[],zP,.map [],0⟩
def Plc.ok (X:Plc):Prop:=(1≤X.win∧X.win≤8)∧X.que≤8
structure OpIs (X:Plc) (la B mb:Nat) (w:World):Prop where
 gd:Gd X.N0 X.ash X.aw w
 line:w.heap[la]?=some (.cells (lineC ⟨B,fun _=>.slice none 0 0,fun _=>false,false⟩) 60)
 blk:BlkAt w B ⟨X.win,(X.que:Int),fun _=>.pointer none,mb,.slice none 0 0,0⟩ (.slice none 0 0) []
 map:w.ownsMap Tryz.prog 9 ptrElem mb 0 (.map [])
 n0:X.N0≤la∧X.N0≤B∧X.N0≤mb
def OpAt (X:Plc) (la:Nat):Fpr:=fun F w=>∃ B mb,OpIs X la B mb w∧F=fun b=>b=la∨b=B∨b=mb
theorem OpIs.lt {X:Plc} {la B mb:Nat} {w:World} (h:OpIs X la B mb w) {b:Nat} (hb:b=la∨b=B∨b=mb):b < w.heap.size:=by
 rcases hb with rfl | rfl | rfl
 · exact blk_lt h.line
 · exact blk_lt h.blk.blk
 · obtain ⟨es,cl,hm⟩:=map_blk h.map;exact blk_lt hm
theorem op_fit (X:Plc) (la:Nat):Fit X.N0 (OpAt X la):=by
 refine ⟨fun F G a b ⟨B,mb,h,e⟩ hb hG=>⟨B,mb,?_,e⟩,fun F a ⟨B,mb,h,e⟩ b hb=>by subst e;exact h.lt hb⟩
 subst e
 have hk:∀ x,(x=la∨x=B∨x=mb)→b.heap[x]?=a.heap[x]?:=fun x hx=>hb.keep x (h.lt hx) (fun g=>(hG x g).1 hx)
 exact ⟨h.gd.below (hb.below (fun b g=>(hG b g).2) h.gd.env.size),(hk la (Or.inl rfl)).trans h.line,⟨(hk B (Or.inr (Or.inl rfl))).trans h.blk.blk,OutsAt.nil _⟩,map_keep h.map (hk mb (Or.inr (Or.inr rfl))),h.n0⟩
theorem open_line (X:Plc) (hX:X.ok) (a:World) (hG:Gd X.N0 X.ash X.aw a) :
 Calls Tryz.prog 22 #[.int .i64 X.win,.int .i64 (X.que:Int)] a fun e a'=>∃ la F,e=.returned (.pointer (some ⟨la,0,none⟩))∧Below a.heap.size a a'∧OpAt X la F a'∧∀ b,F b→a.heap.size≤b:=by
 have hs:=hG.env.size
 refine (opened_any X.win (X.que:Int) a hX.1.1 hX.1.2 (by omega) (by have:=hX.2;omega)).mono ?_
 rintro e a' ⟨la,B,mb,rfl,hb,hB,hm,hl,n1,n2,k1,k2,k3⟩
 exact ⟨la,_,rfl,hb,⟨B,mb,⟨hG.below (hb.mono hs),k1,k2,k3,by omega,by omega,by omega⟩,rfl⟩,fun b e=>by rcases e with e | e | e<;>omega⟩
structure LiIs (X:Plc) (la:Nat) (s:St) (wt:List UInt8) (w:World) (B cb:Nat) (G:Nat→Prop) (V:LineV):Prop where
 idle:IdleAt (X.par B cb) X.win X.que s wt G w
 line:w.heap[la]?=some (.cells (lineC V) 60)
 eb:V.b=B
 gn:¬ G la
 l0:X.N0≤la
 g0:∀ b,G b→X.N0≤b
def LiAt (X:Plc) (la:Nat) (s:St) (wt:List UInt8):Fpr:=fun F w=>∃ B cb G V,LiIs X la s wt w B cb G V∧F=fun b=>b=la∨G b
theorem li_fit (X:Plc) (la:Nat) (s:St) (wt:List UInt8):Fit X.N0 (LiAt X la s wt):=by
 refine ⟨fun F G' a b ⟨B,cb,G,V,h,e⟩ hb hG=>⟨B,cb,G,V,⟨?_,?_,h.eb,h.gn,h.l0,h.g0⟩,e⟩,fun F a ⟨B,cb,G,V,h,e⟩ b hb=>?_⟩
 · subst e
   exact (idle_fit (X.par B cb) X.win X.que s wt).keep G G' a b h.idle hb (fun x hx=>⟨fun f=>(hG x hx).1 (Or.inr f),(hG x hx).2⟩)
 · subst e
   exact hb.blk (fun g=>(hG la g).1 (Or.inl rfl)) h.line
 · subst e
   rcases hb with rfl | hb
   · exact blk_lt h.line
   · exact (idle_fit (X.par B cb) X.win X.que s wt).lt G a h.idle b hb
theorem LiIs.cell {X:Plc} {la:Nat} {s:St} {wt:List UInt8} {w:World} {B cb:Nat} {G:Nat→Prop} {V:LineV} (h:LiIs X la s wt w B cb G V):w.cell? ⟨la,0,none⟩=some (.pointer (some ⟨B,0,none⟩)):=by
 rw [← h.eb];exact blk_cell h.line rfl
theorem two_step {A' B:Fpr} {N:Nat} {F G:Nat→Prop} {a a':World} (hB:Fit N B) (hb:B G a) (hd:∀ x,F x→¬ G x) (hn:∀ x,F x→N≤x) (hw:Went A' F a a'):∃ F',A' F' a'∧B G a'∧(∀ x,F' x→¬ G x)∧But F a a':=by
 obtain ⟨F',k1,k2,k3⟩:=hw
 exact ⟨F',k1,hB.keep G F a a' hb k2 (fun x hx=>⟨hd x hx,hn x hx⟩),fun x hx g=>(k3 x hx).elim (fun f=>hd x f g) (fun e=>by have:=hB.lt G a hb x g;omega),k2⟩
theorem open3 {X:Plc} (hX:X.ok) {la B mb:Nat} {a:World} (h:OpIs X la B mb a) :
 Calls Tryz.prog 23 #[.pointer (some ⟨B,0,none⟩),.int .i64 3] a fun e a'=>e=.returned (.int .i64 0)∧Went (LiAt X la none []) (fun b=>b=la∨b=B∨b=mb) a a':=by
 have hs:=h.gd.env.size
 have ho:=open_any B 3 ⟨X.win,(X.que:Int),fun _=>.pointer none,mb,.slice none 0 0,0⟩ (.slice none 0 0) [] a h.blk (by omega) rfl
 refine ho.mono ?_
 rintro e a' ⟨rfl,CV,k1,k2,k3,k4,k5⟩
 have hlB:la≠B:=fun e=>by have h1:=h.line;rw [e] at h1;have h2:=h.blk.blk;rw [h1] at h2;simp at h2
 obtain ⟨es,cl,hm⟩:=map_blk h.map
 have hmB:mb≠B:=fun e=>by rw [e,h.blk.blk] at hm;cases hm
 have hlm:la≠mb:=fun e=>by have h1:=h.line;rw [e,hm] at h1;cases h1
 have hlt:=fun {b} (hb:b=la∨b=B∨b=mb)=>h.lt hb
 have hnew:∀ b,NewHas ((X.par B CV.cb).wait (.slice none 0 0) |>.base 0) (BrV.setCon ⟨X.win,(X.que:Int),fun _=>.pointer none,mb,.slice none 0 0,0⟩ 3 (.pointer (some ⟨CV.cb,0,none⟩))) CV b→(b=B∨b=mb)∨a.heap.size≤b:=fun b e=>by
  rcases e with e | e | e | e | e | e | e
  · exact Or.inl (Or.inl e)
  · exact Or.inl (Or.inr e)
  · exact Or.inr (k3 b (Or.inl e))
  · exact Or.inr (k3 b (Or.inr (Or.inr (Or.inl e))))
  · exact Or.inr (k3 b (Or.inr (Or.inr (Or.inr (Or.inl e)))))
  · exact Or.inr (k3 b (Or.inr (Or.inr (Or.inr (Or.inr (Or.inl e))))))
  · exact Or.inr (k3 b (Or.inr (Or.inr (Or.inr (Or.inr (Or.inr e))))))
 have hnew0:=fun b e=>(hnew b e).elim (fun e=>e.elim (fun e=>by have:=h.n0.2.1;show X.N0≤b;omega) (fun e=>by have:=h.n0.2.2;show X.N0≤b;omega)) (fun e=>Nat.le_trans hs e)
 refine ⟨rfl,_,⟨B,CV.cb,_,⟨B,fun _=>.slice none 0 0,fun _=>false,false⟩,⟨⟨.slice none 0 0,_,⟨⟨0,_,rfl,rfl,rfl,CV,⟨?_,k1,k2.blk,k2.b1,k2.b2,rfl,k4,?_,rfl,fun j=>rfl,rfl,⟨rfl,hX.1⟩,⟨rfl,hX.2⟩,?_,Nat.zero_le _⟩,rfl⟩,⟨rfl,Or.inl ⟨rfl,rfl⟩⟩,fun b hb=>by cases hb⟩,rfl⟩,?_,rfl,?_,h.n0.1,?_⟩,rfl⟩,k5.wide (fun b _ e=>Or.inr (Or.inl e)),?_⟩
 · exact h.gd.below (k5.below (fun b e=>by have:=h.n0.2.1;omega) hs)
 · exact map_keep h.map (k5.keep _ (blk_lt hm) hmB)
 · exact hnew0
 · exact k5.blk hlB h.line
 · rintro (e | e)
   · rcases hnew _ e with e | e
     · rcases e with e | e
       · exact hlB e
       · exact hlm e
     · have:=hlt (Or.inl rfl);omega
   · cases e
 · rintro b (e | e)
   · exact hnew0 b e
   · cases e
 · rintro b (e | e | e)
   · exact Or.inl (Or.inl e)
   · exact (hnew b e).imp Or.inr id
   · cases e
def Plc.rd (X:Plc) (l:List UInt8):St×List OutS×Option (List UInt8):=readS (stepC X.win X.que) shutO none l
structure FedA (X:Plc) (w:World) (l:List UInt8) (lb ab:Nat) (xv:Value) (kap:Nat) (a:World) (G:Nat→Prop) (L1:List (OutS×Value)):Prop where
 bel:Below w.heap.size w a
 cap:l.length≤kap∧kap≤maxLen
 all:a.ownsRow 0 5 1 (.slice (some ⟨ab,0,none⟩) l.length kap) l.length (u8s l)
 li:LiAt X lb none [] G a
 out:OutsAt a xv L1
 is:L1.map Prod.fst=(X.rd l).2.1
 nab:¬ G ab
 nx:∀ b,OutBlk xv L1 b→¬ G b
structure FedB (X:Plc) (w:World) (l:List UInt8) (lb ab kap:Nat) (xv:Value) (at_:Nat) (y:Value) (a:World) (L1 M:List (OutS×Value)):Prop where
 bel:Below w.heap.size w a
 cap:l.length≤kap∧kap≤maxLen
 all:a.ownsRow 0 5 1 (.slice (some ⟨ab,0,none⟩) l.length kap) l.length (u8s l)
 out:OutsAt a xv L1
 is:L1.map Prod.fst=(X.rd l).2.1
 you:OutsAt a y M
 nxy:∀ b,y.ownBlock=some b→xv.ownBlock≠some b
 yw:∀ b,y.ownBlock=some b→w.heap.size≤b
 st:(∃ s r G,LiAt X lb s r G a∧X.rd (l.take at_)=(s,M.map Prod.fst,some r)∧Good s [] r∧¬ G ab∧∀ b,(OutBlk xv L1 b∨OutBlk y M b)→¬ G b)∨(at_=l.length∧∃ s,X.rd l=(s,M.map Prod.fst,none))
theorem good_take (data:ByteArray) (hd:data.size≤1048576) (k:Nat):Good none [] ((allB data).take k):=by
 have h1:(allB data).length=16+data.size:=by
  unfold allB
  rw [List.length_append]
  rfl
 refine ⟨?_,data.data.toList,?_⟩
 · rw [List.length_take,h1]
   simp only [List.length_nil]
   omega
 · exact List.take_prefix k (allB data)
theorem all_len (data:ByteArray):(allB data).length=16+data.size:=by
 unfold allB
 rw [List.length_append]
 rfl
theorem good_feed {X:Plc} (data:ByteArray) (hd:data.size≤1048576) {at_ n:Nat} {s:St} {o:List OutS} {r:List UInt8} (h:X.rd ((allB data).take at_)=(s,o,some r)) (hg:Good s [] r):Good s [] (r ++ ((allB data).drop at_).take n):=by
 obtain ⟨h1,h2,h3⟩:=(readS_outs X.win X.que _ none ((allB data).take at_) (Nat.le_refl _)).1 s o r h
 have hl:=all_len data
 cases s with
 | none =>
   obtain ⟨_,_,rfl⟩:=h3 rfl
   rw [← List.take_add]
   exact good_take data hd _
 | some x =>
   refine ⟨?_,hg.2⟩
   simp only [List.length_append,List.length_take,List.length_drop,List.length_nil] at h2 ⊢
   omega
theorem outs_val {w:World} {v:Value} {L:List (OutS×Value)} (h:OutsAt w v L):∀ u∈outC L,u.oneCell'=true:=outC_one L (fun o ho=>by obtain ⟨q,k,e⟩:=own_form (h.dat o ho);rw [e];rfl)
theorem u8_cells {w:World} {ab kap:Nat} {l:List UInt8} (h:w.ownsRow 0 5 1 (.slice (some ⟨ab,0,none⟩) l.length kap) l.length (u8s l)) (at_ n:Nat):∀ (j:Nat) x,((l.drop at_).take n)[j]?=some x→w.cell? ⟨ab,at_+j,none⟩=some (.int .u8 (x.toNat:Int)):=by
 intro j x hx
 have hj:l[at_+j]?=some x:=by
  rw [List.getElem?_take] at hx
  split at hx
  · rw [List.getElem?_drop] at hx;exact hx
  · cases hx
 have hlt:=(List.getElem?_eq_some_iff.1 hj).1
 obtain ⟨g,e,_,_,_,hc⟩:=own_at h (by omega)
 cases e
 refine hc _ _ ?_
 rw [u8s,List.getElem?_map,hj]
 rfl
theorem outC_app (L M:List (OutS×Value)):outC (L ++ M)=outC L ++ outC M:=by simp [outC]
theorem closed_is {X:Plc} {s:St} {l:List UInt8} {L:List (OutS×Value)} {s':St} {r:Option (List UInt8)} (h:readS (stepC X.win X.que) shutO s l=(s',L.map Prod.fst,r)):closedL L=r.isNone:=by
 obtain ⟨h1,h2⟩:=readS_outs X.win X.que _ s l (Nat.le_refl _)
 unfold closedL
 cases r with
 | none =>
   obtain ⟨p,hp,_⟩:=h2 s' _ h
   have hl:(L.map Prod.fst).getLast?=some shutO:=by rw [hp];simp
   rw [List.getLast?_map] at hl
   cases hg:L.getLast? with
   | none=>rw [hg] at hl;cases hl
   | some o =>
     rw [hg] at hl
     simp only [Option.map_some,Option.some.injEq] at hl
     simp only [hl]
     rfl
 | some r =>
   obtain ⟨hp,_⟩:=h1 s' _ r h
   cases hg:L.getLast? with
   | none=>rfl
   | some o =>
     have:=hp o.1 (List.mem_map.2 ⟨o,List.mem_of_getLast? hg,rfl⟩)
     simp only [this.2]
     rfl
theorem FedB.below {X:Plc} {w:World} {l:List UInt8} {lb ab kap:Nat} {xv:Value} {at_:Nat} {y:Value} {a b:World} {L1 M:List (OutS×Value)} (h:FedB X w l lb ab kap xv at_ y a L1 M) (hb:Below a.heap.size a b):FedB X w l lb ab kap xv at_ y b L1 M:=
 ⟨h.bel.trans (hb.mono h.bel.size),h.cap,own_below4 h.all hb,h.out.below hb,h.is,h.you.below hb,h.nxy,h.yw,h.st.imp (fun ⟨s,r,G,k1,k2⟩=>⟨s,r,G,(li_fit X lb s r).below k1 hb,k2⟩) (fun h=>h)⟩
theorem OutsAt.but3 {F:Nat→Prop} {w w':World} {v:Value} {L:List (OutS×Value)} (h:OutsAt w v L) (hb:But F w w') (hn:∀ b,OutBlk v L b→¬ F b):OutsAt w' v L:=h.keep (fun b e=>by obtain ⟨cur,hc⟩:=own_blk h.row e;exact hb.keep _ (blk_lt hc) (hn b (Or.inl e))) (fun o b ho e=>by obtain ⟨cur,hc⟩:=own_blk (h.dat o ho) e;exact hb.keep _ (blk_lt hc) (hn b (Or.inr ⟨o,ho,e⟩)))
theorem OutsAt.lt {w:World} {v:Value} {L:List (OutS×Value)} (h:OutsAt w v L) {b:Nat} (hb:OutBlk v L b):b < w.heap.size:=by
 rcases hb with e | ⟨o,ho,e⟩
 · obtain ⟨cur,hc⟩:=own_blk h.row e;exact blk_lt hc
 · obtain ⟨cur,hc⟩:=own_blk (h.dat o ho) e;exact blk_lt hc
theorem FedB.fed {X:Plc} (hX:X.ok) {w:World} (hN:X.N0=w.heap.size) {data:ByteArray} (hd:data.size≤1048576) {lb ab kap:Nat} {xv:Value} {at_ n:Nat} {y:Value} {a:World} {L1 M:List (OutS×Value)} (h:FedB X w (allB data) lb ab kap xv at_ y a L1 M) (hat:at_ < (allB data).length) (hn:at_+n≤(allB data).length) :
 ∃ B,a.cell? ⟨lb,0,none⟩=some (.pointer (some ⟨B,0,none⟩))∧Calls Tryz.prog 24 #[.pointer (some ⟨B,0,none⟩),.int .i64 3,.slice (some ⟨ab,at_,none⟩) n (kap - at_)] a fun e a'=>∃ lv L m ys,e=.returned (.tuple #[lv,.int .i64 0])∧FedK (allB data).length (fun lb ab kap xv at_ y a=>∃ L1 M,FedB X w (allB data) lb ab kap xv at_ y a L1 M) lb ab kap xv at_ n y a' lv L m ys∧a'.cell? ⟨lb,0,none⟩=some (.pointer (some ⟨B,0,none⟩)):=by
 have hal:=all_len data
 rcases h.st with ⟨s,r,G,⟨B,cb,Gb,V,hL,rfl⟩,hrd,hg,hnab,hnx⟩ | ⟨e,_⟩
 · refine ⟨B,hL.cell,?_⟩
   have hdn:(((allB data).drop at_).take n).length=n:=by rw [List.length_take,List.length_drop];omega
   have hf:=feed_cut hL.idle rfl (good_feed (n:=n) data hd hrd hg) ab at_ (kap - at_) (u8_cells h.all at_ n)
   rw [hdn] at hf
   refine Calls.mono hf ?_
   rintro e a' ⟨lv,L,rfl,hF⟩
   have hs1:=hF.but.size
   have hwa:=h.bel.size
   have hty:∀ b,y.ownBlock=some b→∃ c,a'.heap[b]?=some (.cells c 66):=fun b e=>by
    obtain ⟨cur,hc⟩:=own_blk h.you.row e
    exact ⟨cur,(hF.but.keep b (blk_lt hc) (fun g=>hnx b (Or.inr (Or.inl e)) (Or.inr g))).trans hc⟩
   have hylt:∀ b,y.ownBlock=some b→b < a.heap.size:=fun b e=>h.you.lt (Or.inl e)
   have hY:=h.you.but3 hF.but (fun b e g=>hnx b (Or.inr e) (Or.inr g))
   have hXv:=h.out.but3 hF.but (fun b e g=>hnx b (Or.inl e) (Or.inr g))
   have hall:=own_but h.all hF.but (fun b e g=>by cases e;exact hnab (Or.inr g))
   have hrd2:X.rd ((allB data).take (at_+n))=((readS (stepC X.win X.que) shutO s (r ++ ((allB data).drop at_).take n)).1,M.map Prod.fst ++ (readS (stepC X.win X.que) shutO s (r ++ ((allB data).drop at_).take n)).2.1,(readS (stepC X.win X.que) shutO s (r ++ ((allB data).drop at_).take n)).2.2):=by
    rw [List.take_add]
    exact readS_more X.win X.que hrd
   have hos:(readS (stepC X.win X.que) shutO s (r ++ ((allB data).drop at_).take n)).2.1=L.map Prod.fst:=by
    rcases hF.is with ⟨s',e⟩ | ⟨s',r',G',e,_⟩<;>rw [e]
   have hlen:M.length+L.length≤1000000000000:=by
    have h1:=readS_len X.win X.que hX.1 _ none ((allB data).take (at_+n)) (Nat.le_refl _) (good_take data hd _)
    have h2:(readS (stepC X.win X.que) shutO none ((allB data).take (at_+n))).2.1=M.map Prod.fst ++ L.map Prod.fst:=by rw [← hos];exact congrArg (fun z=>z.2.1) hrd2
    rw [h2,List.length_append,List.length_map,List.length_map,List.length_take,hal] at h1
    omega
   refine ⟨lv,L,M.length,outC M,rfl,⟨hF.out.row,hY.row,hlen,outs_val hF.out,fun v' a2 ho2 hgr hloc=>?_⟩,hF.but.cell hL.gn hL.cell⟩
   have hb2:But (fun b=>y.ownBlock=some b) a' a2:=But.of_grown hgr (fun b e=>e)
   have hnu:∀ {b:Nat} {c:Array Value} {t:TypeId},a'.heap[b]?=some (.cells c t)→t≠66→y.ownBlock≠some b:=fun hb ht e=>by
    obtain ⟨c',hc'⟩:=hty _ e
    rw [hb] at hc';simp at hc';exact ht hc'.2
   have hdat:∀ {o:OutS×Value},a'.ownsRow 0 5 1 o.2 o.1.data.length (u8k o.1.data)→a2.ownsRow 0 5 1 o.2 o.1.data.length (u8k o.1.data):=fun ho=>own_but ho hb2 (fun b e=>by obtain ⟨cur,hc⟩:=own_blk ho e;exact hnu hc (by decide))
   have hnew:∀ b,OutBlk lv L b→a.heap.size≤b:=hF.new
   have hlr2:a2.ownsRow 0 66 3 lv L.length (outC L):=own_but hF.out.row hb2 (fun b e e'=>by have:=hnew b (Or.inl e);have:=hylt b e';omega)
   have hX2:OutsAt a2 xv L1:=⟨own_but hXv.row hb2 (fun b e e'=>h.nxy b e' e),fun o ho=>hdat (hXv.dat o ho)⟩
   have hall2:=own_but hall hb2 (fun b e=>by obtain ⟨cur,hc⟩:=own_blk hall e;exact hnu hc (by decide))
   have hY2:OutsAt a2 v' (M ++ L):=by
    refine ⟨by rw [outC_app,List.length_append];exact ho2,fun o ho=>?_⟩
    rcases List.mem_append.1 ho with ho | ho
    · exact hdat (hY.dat o ho)
    · exact hdat (hF.out.dat o ho)
   have hbel:Below w.heap.size w a2:=by
    have b1:Below w.heap.size w a':=h.bel.trans (hF.but.below (fun b g=>by have:=hL.g0 b g;omega) hwa)
    exact b1.trans (hb2.below (fun b e=>h.yw b e) b1.size)
   refine ⟨⟨L1,M ++ L,hbel,h.cap,hall2,hX2,h.is,hY2,fun b e e'=>?_,fun b e=>?_,?_⟩,hlr2⟩
   · rcases hloc with k | k
     · exact h.nxy b (k ▸ e) e'
     · rw [k] at e;cases e;have:=h.out.lt (Or.inl e');omega
   · rcases hloc with k | k
     · exact h.yw b (k ▸ e)
     · rw [k] at e;cases e;omega
   · rcases hF.is with ⟨s',e⟩ | ⟨s',r',G',e,hI',hG1,hG2,hgd⟩
     · have hc:=closed_is e
       rw [hc]
       refine Or.inr ⟨rfl,s',?_⟩
       rw [e] at hrd2
       have:=readS_shut X.win X.que ((allB data).drop (at_+n)) hrd2
       rw [List.take_append_drop] at this
       rw [List.map_append]
       exact this
     · have hc:=closed_is e
       rw [hc]
       rw [e] at hrd2
       have hlb:lb < a.heap.size:=blk_lt hL.line
       have hGlt:∀ b,G' b→b < a'.heap.size:=(idle_fit _ _ _ _ _).lt G' a' hI'
       have hold:∀ b,b < a.heap.size→¬ Gb b→¬ G' b:=fun b hb hn g=>(hG1 b g).elim hn (fun e=>by omega)
       have hLi:LiAt X lb s' r' (fun b=>b=lb∨G' b) a':=⟨B,cb,G',V,⟨hI',hF.but.blk hL.gn hL.line,hL.eb,hold lb hlb hL.gn,hL.l0,fun b g=>(hG1 b g).elim (hL.g0 b) (fun e=>by omega)⟩,rfl⟩
       have hnoy:∀ b,y.ownBlock=some b→¬ (b=lb∨G' b):=fun b e g=>by
        have h1:=hnx b (Or.inr (Or.inl e))
        rcases g with g | g
        · exact h1 (Or.inl g)
        · exact hold b (hylt b e) (fun g=>h1 (Or.inr g)) g
       have habl:ab < a.heap.size:=by obtain ⟨cur,hc⟩:=own_blk h.all (b:=ab) rfl;exact blk_lt hc
       refine Or.inl ⟨s',r',_,(li_fit X lb s' r').keep _ _ a' a2 hLi hb2 (fun x e=>⟨hnoy x e,by have:=h.yw x e;omega⟩),?_,hgd.less,?_,?_⟩
       · show X.rd ((allB data).take (at_+n))=_
         rw [hrd2,List.map_append]
       · rintro (g | g)
         · exact hnab (Or.inl g)
         · exact hold ab habl (fun g=>hnab (Or.inr g)) g
       · rintro b (hb | hb) g
         · have hb':=hnx b (Or.inl hb)
           have hlt:=h.out.lt hb
           rcases g with g | g
           · exact hb' (Or.inl g)
           · exact hold b hlt (fun g=>hb' (Or.inr g)) g
         · have hcase:(OutBlk y M b∨OutBlk lv L b)∨b=a'.heap.size:=by
            rcases hb with e | ⟨o,ho,e⟩
            · rcases hloc with k | k
              · exact Or.inl (Or.inl (Or.inl (k ▸ e)))
              · rw [k] at e;cases e;exact Or.inr rfl
            · rcases List.mem_append.1 ho with ho | ho
              · exact Or.inl (Or.inl (Or.inr ⟨o,ho,e⟩))
              · exact Or.inl (Or.inr (Or.inr ⟨o,ho,e⟩))
           rcases hcase with (hb | hb) | hb
           · have hb':=hnx b (Or.inr hb)
             have hlt:=h.you.lt hb
             rcases g with g | g
             · exact hb' (Or.inl g)
             · exact hold b hlt (fun g=>hb' (Or.inr g)) g
           · have:=hnew b hb
             rcases g with g | g
             · omega
             · exact hG2 b hb g
           · rcases g with g | g
             · omega
             · have:=hGlt b g;omega
 · omega
set_option maxRecDepth 100000 in
theorem cut_all (ash aw:Addr) (win que:Int) (data:ByteArray) (cq:Option Addr) (cc:Nat) (cs:List Int) (w:World) (hG:Gd w.heap.size ash aw w)
 (hdl:data.size≤1048576) (hcl:cs.length≤1048576) (hcs:∀ (j:Nat) c,cs[j]?=some c→-9223372036854775808≤c∧c≤9223372036854775807)
 (h1:-9223372036854775808≤win) (h2:win≤9223372036854775807) (h3:-9223372036854775808≤que) (h4:que≤9223372036854775807)
 (hcc:∀ (j:Nat) c,cs[j]?=some c→∃ g o,cq=some ⟨g,o,none⟩∧g < w.heap.size∧cs.length≤cc∧cc≤maxLen∧w.cell? ⟨g,o+j,none⟩=some (.int .i64 c)) :
 Calls Tryz.prog 7 #[.int .i64 win,.int .i64 que,.string data,.slice cq cs.length cc] w fun e w'=>e=.returned (.bool true)∧Below w.heap.size w w':=by
 obtain ⟨X,hXe⟩:∃ X:Plc,X=⟨w.heap.size,ash,aw,1+(pickC win 8:Int),pickC que 9⟩:=⟨_,rfl⟩
 have l1:pickC win 8 < 8:=pickC_lt _ (by omega)
 have l2:pickC que 9 < 9:=pickC_lt _ (by omega)
 have hX:X.ok:=by rw [hXe];exact ⟨⟨by show (1:Int)≤1+(pickC win 8:Int);omega,by show 1+(pickC win 8:Int)≤8;omega⟩,by show pickC que 9≤8;omega⟩
 have hXN:X.N0=w.heap.size:=by rw [hXe]
 have hXG:∀ {a},Below w.heap.size w a→Gd X.N0 X.ash X.aw a:=fun hb=>by rw [hXe];exact hG.below hb
 have hXw:(1+(pickC win 8:Int))=X.win:=by rw [hXe]
 have hXq:(pickC que 9:Int)=(X.que:Int):=by rw [hXe]
 obtain ⟨l,hle⟩:∃ l,l=allB data:=⟨_,rfl⟩
 have hll:l.length=16+data.size:=by rw [hle];exact all_len data
 have down:∀ {F a a'},Below w.heap.size w a→But F a a'→(∀ b,F b→X.N0≤b)→Below w.heap.size w a':=fun hb hB hn=>hb.trans (hB.below (fun b f=>by have:=hn b f;omega) hb.size)
 refine cut_walk win que data l.length cq cc cs w
  (fun la a=>Below w.heap.size w a∧∃ F,OpAt X la F a)
  (fun la lb a=>Below w.heap.size w a∧∃ F G,OpAt X la F a∧OpAt X lb G a∧∀ b,F b→¬ G b)
  (fun la lb a=>Below w.heap.size w a∧∃ F G,LiAt X la none [] F a∧OpAt X lb G a∧∀ b,F b→¬ G b)
  (fun la lb a=>Below w.heap.size w a∧∃ F G,LiAt X la none [] F a∧LiAt X lb none [] G a∧∀ b,F b→¬ G b)
  (fun lb ab xv kap a=>∃ G L1,FedA X w l lb ab xv kap a G L1)
  (fun lb ab kap xv at_ y a=>∃ L1 M,FedB X w l lb ab kap xv at_ y a L1 M)
  hdl hll hcl hcs h1 h2 h3 h4 ?_ ?_ ?_ ?_ ?_ ?_ ?_ ?_ ?_ ?_ ?_ ?_ ?_ ?_ ?_ ?_ ?_
 · exact sure_head w ash aw hG
 · intro a hb
   rw [hXw,hXq]
   refine (open_line X hX a (hXG hb)).mono ?_
   rintro e a' ⟨la,F,rfl,hb',hO,hF⟩
   exact ⟨la,rfl,hb.trans (hb'.mono hb.size),F,hO⟩
 · rintro la a b ⟨hb,F,hO⟩ hb'
   exact ⟨hb.trans (hb'.mono hb.size),F,(op_fit X la).below hO hb'⟩
 · rintro la a ⟨hb,F,hO⟩
   rw [hXw,hXq]
   refine (open_line X hX a (hXG hb)).mono ?_
   rintro e a' ⟨lb,G,rfl,hb',hO',hG'⟩
   exact ⟨lb,rfl,hb.trans (hb'.mono hb.size),F,G,(op_fit X la).below hO hb',hO',fun b f g=>by have:=(op_fit X la).lt F a hO b f;have:=hG' b g;omega⟩
 · rintro la lb a b ⟨hb,F,G,hO,hO',hd⟩ hb'
   exact ⟨hb.trans (hb'.mono hb.size),F,G,(op_fit X la).below hO hb',(op_fit X lb).below hO' hb',hd⟩
 · rintro la lb a ⟨hb,F,G,⟨B,mb,hO,rfl⟩,hO',hd⟩
   have hn:∀ b,(b=la∨b=B∨b=mb)→X.N0≤b:=fun b e=>by rcases e with rfl | rfl | rfl;exact hO.n0.1;exact hO.n0.2.1;exact hO.n0.2.2
   refine ⟨B,blk_cell hO.line rfl,(open3 hX hO).mono ?_⟩
   rintro e a' ⟨rfl,hw⟩
   obtain ⟨F',i1,i2,i3,i4⟩:=two_step (op_fit X lb) hO' hd hn hw
   exact ⟨rfl,down hb i4 hn,F',G,i1,i2,i3⟩
 · rintro la lb a ⟨hb,F,G,hA,⟨B,mb,hO,rfl⟩,hd⟩
   have hn:∀ b,(b=lb∨b=B∨b=mb)→X.N0≤b:=fun b e=>by rcases e with rfl | rfl | rfl;exact hO.n0.1;exact hO.n0.2.1;exact hO.n0.2.2
   refine ⟨B,blk_cell hO.line rfl,(open3 hX hO).mono ?_⟩
   rintro e a' ⟨rfl,hw⟩
   obtain ⟨G',i1,i2,i3,i4⟩:=two_step (li_fit X la none []) hA (fun x g f=>hd x f g) hn hw
   exact ⟨rfl,down hb i4 hn,F,G',i2,i1,fun b f g=>i3 b g f⟩
 · rintro la lb a b ⟨hb,F,G,hA,hB,hd⟩ hb'
   exact ⟨hb.trans (hb'.mono hb.size),F,G,(li_fit X la _ _).below hA hb',(li_fit X lb _ _).below hB hb',hd⟩
 · rintro la lb a ⟨hb,_⟩
   have hGa:=hG.below hb
   refine (cEncode_any ash aw helS [] [] a (filV_nil _) (intV_nil _) hGa.errs hGa.env').mono ?_
   rintro e a' ⟨hB,hR⟩
   rw [show encL (fwW helS) (cbW helS) helS [] []=some helB by kernel_rfl] at hR
   exact ⟨hB,hR⟩
 · rintro la lb a0 a ab kap ⟨hb,F,G,hA,hB,hd⟩ hb' ho
   rw [← hle] at ho
   have hA1:=(li_fit X la none []).below hA hb'
   have hB1:=(li_fit X lb none []).below hB hb'
   have hFl:=(li_fit X la none []).lt F a0 hA
   have hGl:=(li_fit X lb none []).lt G a0 hB
   obtain ⟨B,cb,Ga,V,hL,rfl⟩:=hA1
   have hab:=(own_zero ho).2 ab rfl
   have hba:Below w.heap.size w a:=hb.trans (hb'.mono hb.size)
   refine ⟨B,hL.cell,?_⟩
   have hf:=feed_cut hL.idle (List.nil_append l) (by rw [hle];have:=good_take data hdl (allB data).length;rw [List.take_length] at this;exact this) ab 0 kap (by have:=u8_cells (own_zero ho).1 0 l.length;simpa using this)
   refine Calls.mono hf ?_
   rintro e a' ⟨ov,L,rfl,hF⟩
   obtain ⟨xq,xc,rfl⟩:=own_form hF.out.row
   obtain ⟨g,e1,_,hc1,hc2,_⟩:=own_at ho (by omega)
   refine ⟨xq,L.length,xc,rfl,G,L,down hba hF.but hL.g0,⟨hc1,hc2⟩,own_but (own_zero ho).1 hF.but (fun b e g=>by cases e;have:=hFl ab (Or.inr g);omega),(li_fit X lb none []).keep G Ga a a' hB1 hF.but (fun x hx=>⟨hd x (Or.inr hx),hL.g0 x hx⟩),hF.out,?_,fun g=>by have:=hGl ab g;omega,fun b hb' g=>by have:=hF.new b hb';have:=(li_fit X lb none []).lt G a hB1 b g;omega⟩
   rcases hF.is with ⟨s',e⟩ | ⟨s',r',G',e,_⟩
   · exact (congrArg (fun z=>z.2.1) e).symm
   · exact (congrArg (fun z=>z.2.1) e).symm
 · rintro lb ab kap xv a ⟨G,L1,h⟩
   exact ⟨L1,[],h.bel,h.cap,h.all,h.out,h.is,OutsAt.nil _,(fun b e=>by cases e),(fun b e=>by cases e),Or.inl ⟨none,[],G,h.li,readS_short _ _ (show decL []=.inl true from rfl),⟨by simp,helB,List.nil_prefix⟩,h.nab,fun b hb=>hb.elim (h.nx b) (fun e=>by rcases e with e | ⟨o,ho,e⟩;cases e;cases ho)⟩⟩
 · rintro lb ab kap xv at_ y a ⟨L1,M,h⟩
   exact h.bel
 · rintro lb ab kap xv at_ y a b ⟨L1,M,h⟩ hb
   exact ⟨L1,M,h.below hb⟩
 · rintro lb ab kap xv at_ y a n ⟨L1,M,h⟩ hat hn
   subst hle
   exact h.fed hX hXN hdl hat hn
 · intro a j c hb hc
   obtain ⟨g,o,e1,e2,e3,e4,e5⟩:=hcc j c hc
   exact ⟨g,o,e1,e2,e3,e4,by rw [hb.cell e2];exact e5⟩
 · rintro lb ab kap xv at_ y a ⟨L1,M,h⟩
   exact h.cap
 · rintro lb ab kap xv y a ⟨L1,M,h⟩
   have hM:∃ s r,X.rd l=(s,M.map Prod.fst,r):=by
    rcases h.st with ⟨s,r,G,_,e,_⟩ | ⟨_,s,e⟩
    · rw [List.take_length] at e;exact ⟨s,_,e⟩
    · exact ⟨s,_,e⟩
   obtain ⟨s,r,hM⟩:=hM
   have hL1:L1.map Prod.fst=M.map Prod.fst:=by rw [h.is,hM]
   have hlen:L1.length=(X.rd l).2.1.length:=by rw [← h.is,List.length_map]
   have hpos:(X.rd l).2.1≠[]:=by rw [hle];exact all_outs X.win X.que data.data.toList
   have hup:=readS_len X.win X.que hX.1 _ none l (Nat.le_refl _) (by rw [hle];have:=good_take data hdl (allB data).length;rw [List.take_length] at this;exact this)
   refine ⟨L1,M,h.out,h.you,hL1,?_,?_,fun o ho=>?_⟩
   · rw [hlen];exact List.length_pos_iff.2 hpos
   · rw [hlen]
     have:(X.rd l).2.1.length≤3001*l.length+1:=hup
     omega
   · have hmem:o.1∈M.map Prod.fst:=by rw [← hL1];exact List.mem_map.2 ⟨o,ho,rfl⟩
     obtain ⟨k1,k2⟩:=readS_outs X.win X.que _ none l (Nat.le_refl _)
     cases r with
     | none =>
       obtain ⟨p,e,hp⟩:=k2 s _ hM
       rw [e] at hmem
       rcases List.mem_append.1 hmem with h' | h'
       · exact (hp _ h').1
       · simp only [List.mem_singleton] at h';rw [h'];rfl
     | some r=>exact ((k1 s _ r hM).1 _ hmem).1
end br
end Go.Proofs.YtnmfmoimjkoieaaGreatDoor
