import Derived.Lib.Split
import Derived.Lib.IndexAny
import Derived.Lib.IndexBytes
import Derived.Lib.ValidU
import Derived.Test.YtnmfmoimjkoieaaGreatDoorProg
import Derived.WalkKit
import Derived.Below
import Derived.Maps.OwnSet
import Derived.Maps.AppendAt
import Derived.OwnWalk
import Derived.Deep.LoopGhost
import Derived.Laws.EntriesVeiled
namespace Go.Proofs.YtnmfmoimjkoieaaGreatDoor
namespace topPlain
open Go
def bs (l:List UInt8):ByteArray:=⟨l.toArray⟩
theorem bs_data (s:ByteArray):bs s.data.toList=s:=by cases s;rfl
theorem data_bs (l:List UInt8):(bs l).data.toList=l:=rfl
theorem ba_ext {a b:ByteArray} (h:a.data.toList=b.data.toList):a=b:=by rw [← bs_data a,h,bs_data]
def hasB (l:List UInt8) (c:UInt8):Bool:=l.contains c
def nameB (least most:Int) (l:List UInt8):Bool:=decide (least≤(l.length:Int)) && decide ((l.length:Int)≤most) && !hasB l 0 && Lib.validD l
def pre (p:List UInt8):List (List UInt8)→List (List UInt8)
 | []=>[p]
 | h :: t=>(p ++ h) :: t
def lev:List UInt8→List (List UInt8)
 | []=>[[]]
 | c :: l=>if c == 47 then [] :: lev l else pre [c] (lev l)
theorem lev_ne (l:List UInt8):lev l≠[]:=by
 cases l with
 | nil=>simp [lev]
 | cons c l =>
   unfold lev
   split
   · simp
   · cases lev l<;>simp [pre]
theorem pre_nil {x:List (List UInt8)} (h:x≠[]):pre [] x=x:=by cases x with
 | nil=>exact absurd rfl h
 | cons a t=>rfl
theorem pre_pre (p q:List UInt8) (x:List (List UInt8)) (h:x≠[]):pre p (pre q x)=pre (p ++ q) x:=by cases x with
 | nil=>exact absurd rfl h
 | cons a t=>simp [pre]
theorem lev_slash (l:List UInt8):lev (47 :: l) = [] :: lev l:=by simp [lev]
theorem lev_other {c:UInt8} (l:List UInt8) (h:c≠47):lev (c :: l)=pre [c] (lev l):=by simp [lev,h]
theorem lev_length_le (l:List UInt8):(lev l).length≤l.length+1:=by
 induction l with
 | nil=>simp [lev]
 | cons c l ih =>
   unfold lev
   split
   · simpa using ih
   · cases h:lev l with
     | nil=>simp [pre]
     | cons a t=>rw [h] at ih;simp [pre] at ih ⊢;omega
def Lv (s:List UInt8) (acc:List (List UInt8)) (k i:Nat):Prop:=lev s=acc ++ pre ((s.drop k).take (i - k)) (lev (s.drop i))
theorem Lv.next {s:List UInt8} {acc:List (List UInt8)} {k i:Nat} (h:Lv s acc k i) (hk:k≤i) {c:UInt8} (hc:s[i]?=some c) (hn:c≠47):Lv s acc k (i+1):=by
 unfold Lv at h ⊢
 have hi:i < s.length:=(List.getElem?_eq_some_iff.1 hc).1
 have hd:s.drop i=c :: s.drop (i+1):=by
  rw [List.drop_eq_getElem_cons hi]
  congr 1
  exact (List.getElem?_eq_some_iff.1 hc).2
 rw [h,hd,lev_other _ hn,pre_pre _ _ _ (lev_ne _)]
 congr 2
 have e:i+1 - k=(i - k)+1:=by omega
 rw [e,List.take_add_one]
 congr 1
 rw [List.getElem?_drop,show k+(i - k)=i by omega,hc]
 rfl
theorem Lv.cut {s:List UInt8} {acc:List (List UInt8)} {k i:Nat} (h:Lv s acc k i) (hc:s[i]?=some 47):Lv s (acc ++ [(s.drop k).take (i - k)]) (i+1) (i+1):=by
 unfold Lv at h ⊢
 have hi:i < s.length:=(List.getElem?_eq_some_iff.1 hc).1
 have hd:s.drop i=47 :: s.drop (i+1):=by
  rw [List.drop_eq_getElem_cons hi]
  congr 1
  exact (List.getElem?_eq_some_iff.1 hc).2
 rw [h,hd,lev_slash,Nat.sub_self,List.take_zero,pre_nil (lev_ne _)]
 simp [pre]
theorem Lv.last {s:List UInt8} {acc:List (List UInt8)} {k:Nat} (h:Lv s acc k s.length):acc ++ [(s.drop k).take (s.length - k)]=lev s:=by
 unfold Lv at h
 rw [h,List.drop_length]
 simp [lev,pre]
theorem lev_miss:∀ (l:List UInt8),Lib.indexByte l 47=-1→lev l = [l]
 | [],_=>rfl
 | c :: l,h=>by
   unfold Lib.indexByte at h
   by_cases hc:c=47
   · subst hc;simp at h
   · have hb:(c == 47)=false:=by simpa using hc
     rw [hb] at h
     have hge:=Lib.indexByte_ge l 47
     by_cases e:Lib.indexByte l 47=-1
     · rw [lev_other _ hc,lev_miss l e];rfl
     · have e':(Lib.indexByte l 47 == -1)=false:=by simpa using e
       simp [e'] at h
       omega
theorem lev_hit:∀ (l:List UInt8) (i:Nat),Lib.indexByte l 47=i→lev l=l.take i :: lev (l.drop (i+1))
 | [],i,h=>by simp [Lib.indexByte] at h
 | c :: l,i,h=>by
   unfold Lib.indexByte at h
   by_cases hc:c=47
   · subst hc
     simp at h
     obtain rfl:i=0:=by omega
     simp [lev_slash]
   · have hb:(c == 47)=false:=by simpa using hc
     rw [hb] at h
     by_cases e:Lib.indexByte l 47=-1
     · simp [e] at h
     · have e':(Lib.indexByte l 47 == -1)=false:=by simpa using e
       simp [e'] at h
       have hge:=Lib.indexByte_ge l 47
       obtain ⟨j,rfl⟩:∃ j,i=j+1:=⟨i - 1,by omega⟩
       have ih:=lev_hit l j (by omega)
       rw [lev_other _ hc,ih]
       simp [pre]
theorem splitK_lev:∀ (n:Nat) (l:List UInt8),l.length≤n→Lib.splitK [47] 0 (Lib.count l [47]) l=lev l
 | n,l,hn=>by
   rcases Int.lt_or_le (Lib.index l [47]) 0 with h | h
   · have hge:=Lib.index_ge l [47]
     have e:Lib.index l [47]=-1:=by omega
     rw [Lib.count_miss e]
     rw [Lib.index_one] at e
     rw [lev_miss l e]
     rfl
   · obtain ⟨i,hi⟩:∃ i:Nat,Lib.index l [47]=i:=⟨(Lib.index l [47]).toNat,by omega⟩
     rw [Lib.count_hit (by simp) hi]
     have hr:=Lib.index_room l [47] h
     simp only [List.length_cons,List.length_nil] at hr
     have hd:(l.drop (i + [(47:UInt8)].length)).length < l.length:=by simp;omega
     rw [Nat.add_comm,Lib.splitK,if_neg (by rw [hi];simp),hi]
     simp only [Int.toNat_natCast,Nat.add_zero,List.length_cons,List.length_nil] at hd ⊢
     have e1:Lib.indexByte l 47=i:=by rw [← Lib.index_one];exact hi
     rw [lev_hit l i e1]
     cases n with
     | zero=>omega
     | succ n=>rw [splitK_lev n _ (by omega)]
theorem count_lev:∀ (n:Nat) (l:List UInt8),l.length≤n→Lib.count l [47]+1=(lev l).length
 | n,l,hn=>by
   rcases Int.lt_or_le (Lib.index l [47]) 0 with h | h
   · have hge:=Lib.index_ge l [47]
     have e:Lib.index l [47]=-1:=by omega
     rw [Lib.count_miss e]
     rw [Lib.index_one] at e
     rw [lev_miss l e]
     rfl
   · obtain ⟨i,hi⟩:∃ i:Nat,Lib.index l [47]=i:=⟨(Lib.index l [47]).toNat,by omega⟩
     rw [Lib.count_hit (by simp) hi]
     have hr:=Lib.index_room l [47] h
     simp only [List.length_cons,List.length_nil] at hr
     have hd:(l.drop (i+1)).length < l.length:=by simp;omega
     simp only [List.length_cons,List.length_nil,Nat.zero_add]
     have e1:Lib.indexByte l 47=i:=by rw [← Lib.index_one];exact hi
     rw [lev_hit l i e1]
     cases n with
     | zero=>omega
     | succ n =>
       have:=count_lev n (l.drop (i+1)) (by omega)
       simp only [List.length_cons] at this ⊢
       omega
theorem splitB_lev (s:ByteArray):Lib.splitB (bs [47]) 0 (Lib.countB s (bs [47])) s=(lev s.data.toList).map bs:=by
 have h:=Lib.splitB_data (bs [47]) 0 (Lib.countB s (bs [47])) s
 have h2:Lib.splitK [47] 0 (Lib.count s.data.toList [47]) s.data.toList=lev s.data.toList:=splitK_lev _ _ (Nat.le_refl _)
 have h3:(Lib.splitB (bs [47]) 0 (Lib.countB s (bs [47])) s).map (·.data.toList)=lev s.data.toList:=h.trans h2
 rw [← h3,List.map_map]
 conv=>lhs;rw [← List.map_id (Lib.splitB (bs [47]) 0 (Lib.countB s (bs [47])) s)]
 apply List.map_congr_left
 intro x _
 exact (bs_data x).symm
def okLev (x:List UInt8) (last:Bool):Bool:=if hasB x 35 then x == [35] && last else x == [43] || !hasB x 43
def okLevs:List (List UInt8)→Bool
 | []=>true
 | x :: r=>okLev x r.isEmpty && okLevs r
theorem okLevs_drop (l:List (List UInt8)) (i:Nat) (h:i < l.length):okLevs (l.drop i)=(okLev l[i] (decide (i+1=l.length)) && okLevs (l.drop (i+1))):=by
 rw [List.drop_eq_getElem_cons h,okLevs]
 congr 2
 cases hd:l.drop (i+1) with
 | nil=>have:=List.drop_eq_nil_iff.1 hd;rw [List.isEmpty_nil];exact (decide_eq_true (by omega)).symm
 | cons a t =>
   have:(l.drop (i+1)).length=(a :: t).length:=by rw [hd]
   simp only [List.length_drop,List.length_cons] at this
   rw [List.isEmpty_cons]
   exact (decide_eq_false (by omega)).symm
def filterB (l:List UInt8):Bool:=nameB 1 30 l && okLevs (lev l)
def topicB (l:List UInt8):Bool:=nameB 1 30 l && !(hasB l 43 || hasB l 35)
def lvl:List (List UInt8)→List (List UInt8)→Bool
 | [],t=>t.isEmpty
 | f :: fs,t=>f == [35] || (match t with
   | []=>false
   | x :: ts=>(f == [43] || f == x) && lvl fs ts)
def wild (l:List UInt8):Bool:=l.head? == some 43 || l.head? == some 35
def mB (f t:List UInt8):Bool:=filterB f && topicB t && !(t.head? == some 36 && wild f) && lvl (lev f) (lev t)
theorem lvl_hash (f t:List (List UInt8)) (i:Nat) (h:f[i]?=some [35]):lvl (f.drop i) (t.drop i)=true:=by
 have hi:i < f.length:=(List.getElem?_eq_some_iff.1 h).1
 rw [List.drop_eq_getElem_cons hi,(List.getElem?_eq_some_iff.1 h).2]
 simp [lvl]
theorem lvl_short (f t:List (List UInt8)) (i:Nat) {x:List UInt8} (h:f[i]?=some x) (hx:x≠[35]) (ht:t.length≤i):lvl (f.drop i) (t.drop i)=false:=by
 have hi:i < f.length:=(List.getElem?_eq_some_iff.1 h).1
 rw [List.drop_eq_getElem_cons hi,(List.getElem?_eq_some_iff.1 h).2,List.drop_eq_nil_of_le ht]
 simp [lvl,hx]
theorem lvl_step (f t:List (List UInt8)) (i:Nat) {x y:List UInt8} (h:f[i]?=some x) (hx:x≠[35]) (ht:t[i]?=some y):lvl (f.drop i) (t.drop i)=((x == [43] || x == y) && lvl (f.drop (i+1)) (t.drop (i+1))):=by
 have hi:i < f.length:=(List.getElem?_eq_some_iff.1 h).1
 have hj:i < t.length:=(List.getElem?_eq_some_iff.1 ht).1
 have e:(x == [35])=false:=by simpa using hx
 rw [List.drop_eq_getElem_cons hi,(List.getElem?_eq_some_iff.1 h).2,List.drop_eq_getElem_cons hj,(List.getElem?_eq_some_iff.1 ht).2]
 simp [lvl,e]
theorem lvl_end (f t:List (List UInt8)) (h:f.length≤t.length):lvl (f.drop f.length) (t.drop f.length)=decide (f.length=t.length):=by
 rw [List.drop_length,lvl]
 cases hd:t.drop f.length with
 | nil=>have:=List.drop_eq_nil_iff.1 hd;rw [List.isEmpty_nil];exact (decide_eq_true (by omega)).symm
 | cons a r =>
   have:(t.drop f.length).length=(a :: r).length:=by rw [hd]
   simp only [List.length_drop,List.length_cons] at this
   rw [List.isEmpty_cons]
   exact (decide_eq_false (by omega)).symm
theorem indexByte_neg (l:List UInt8) (c:UInt8):decide (Lib.indexByte l c < 0) = !hasB l c:=by
 induction l with
 | nil=>rfl
 | cons b l ih =>
   unfold Lib.indexByte hasB
   have hge:=Lib.indexByte_ge l c
   by_cases h:b=c
   · subst h;simp
   · have hb:(b == c)=false:=by simpa using h
     have hc:(c == b)=false:=by simpa using fun e=>h e.symm
     rw [hb,List.contains_cons,hc,Bool.false_or]
     change _ = !hasB l c
     rw [← ih]
     by_cases e:Lib.indexByte l c=-1
     · simp [e]
     · have e':(Lib.indexByte l c == -1)=false:=by simpa using e
       simp [e']
       omega
theorem indexByte_pos (l:List UInt8) (c:UInt8):decide (0≤Lib.indexByte l c)=hasB l c:=by
 have h:=indexByte_neg l c
 by_cases e:0≤Lib.indexByte l c
 · rw [decide_eq_true e]
   rw [decide_eq_false (by omega)] at h
   cases hh:hasB l c
   · rw [hh] at h;cases h
   · rfl
 · rw [decide_eq_false e]
   rw [decide_eq_true (by omega)] at h
   cases hh:hasB l c
   · rfl
   · rw [hh] at h;cases h
theorem indexAny_pos (l:List UInt8):decide (0≤Lib.indexAny l [43,35])=(hasB l 43 || hasB l 35):=by
 induction l with
 | nil=>rfl
 | cons b l ih =>
   unfold Lib.indexAny
   have hge:=Lib.indexAny_ge [43,35] l
   by_cases h:([43,35]:List UInt8).contains b=true
   · rw [if_pos h]
     simp at h
     rcases h with h | h<;>subst h<;>simp [hasB]
   · rw [if_neg h]
     simp at h
     have h1:((43:UInt8) == b)=false:=by simpa using fun e=>h.1 e.symm
     have h2:((35:UInt8) == b)=false:=by simpa using fun e=>h.2 e.symm
     have e1:hasB (b :: l) 43=hasB l 43:=by unfold hasB;rw [List.contains_cons,h1,Bool.false_or]
     have e2:hasB (b :: l) 35=hasB l 35:=by unfold hasB;rw [List.contains_cons,h2,Bool.false_or]
     rw [e1,e2,← ih]
     by_cases e:Lib.indexAny l [43,35]=-1
     · simp [e]
     · have e':(Lib.indexAny l [43,35] == -1)=false:=by simpa using e
       rw [e']
       simp
       omega
end topPlain
namespace decPlain
open Go topPlain
def wantS (so:Bool) (st:Option (List UInt8)):Option (List UInt8):=if so then st else none
def octS:Option (List UInt8)→Nat×Option (List UInt8)
 | some (x :: r)=>(x.toNat,some r)
 | _=>(0,none)
def numS (st:Option (List UInt8)):Nat×Option (List UInt8):=(256*(octS st).1+(octS (octS st).2).1,(octS (octS st).2).2)
def bytS (n:Nat):Option (List UInt8)→List UInt8×Option (List UInt8)
 | some l=>if n≤l.length then (l.take n,some (l.drop n)) else ([],none)
 | none=>([],none)
def txtS (st:Option (List UInt8)):List UInt8×Option (List UInt8):=bytS (numS st).1 (numS st).2
def idS (st:Option (List UInt8)):Nat×Option (List UInt8):=((numS st).1,wantS (decide (0 < (numS st).1)) (numS st).2)
def topS (st:Option (List UInt8)):List UInt8×Option (List UInt8):=((txtS st).1,wantS (topicB (txtS st).1) (txtS st).2)
def lenS:Option (List UInt8)→Nat
 | some l=>l.length
 | none=>0
theorem wantS_none (so:Bool):wantS so none=none:=by cases so<;>rfl
theorem octS_lt (st:Option (List UInt8)):(octS st).1 < 256:=by
 unfold octS
 split
 · rename_i x r;exact x.toNat_lt
 · decide
theorem numS_lt (st:Option (List UInt8)):(numS st).1 < 65536:=by
 have h1:=octS_lt st
 have h2:=octS_lt (octS st).2
 unfold numS
 omega
theorem octS_len (st:Option (List UInt8)):lenS (octS st).2≤lenS st:=by
 unfold octS
 split<;>simp [lenS]
theorem numS_len (st:Option (List UInt8)):lenS (numS st).2≤lenS st:=Nat.le_trans (octS_len _) (octS_len _)
theorem bytS_len (n:Nat) (st:Option (List UInt8)):lenS (bytS n st).2≤lenS st:=by
 unfold bytS
 split
 · split<;>simp [lenS]
 · simp [lenS]
theorem bytS_le (n:Nat) (st:Option (List UInt8)):(bytS n st).1.length≤lenS st:=by
 unfold bytS
 split
 · split
   · simp [lenS];omega
   · simp [lenS]
 · simp [lenS]
theorem wantS_len (so:Bool) (st:Option (List UInt8)):lenS (wantS so st)≤lenS st:=by
 cases so<;>simp [wantS,lenS]
theorem txtS_len (st:Option (List UInt8)):lenS (txtS st).2≤lenS st:=Nat.le_trans (bytS_len _ _) (numS_len _)
theorem txtS_le (st:Option (List UInt8)):(txtS st).1.length≤lenS st:=Nat.le_trans (bytS_le _ _) (numS_len _)
structure Pkt where
 kind:Int
 clean:Bool
 will:Bool
 keep:Int
 client:List UInt8
 present:Bool
 code:Int
 dup:Bool
 qos:Int
 retain:Bool
 topic:List UInt8
 payload:List UInt8
 id:Int
 fv:Value
 cv:Value
def clientOk (l:List UInt8):Bool:=decide ((l.length:Int)≤10) && (Lib.validD l && !hasB l 0)
def connackS (p:Pkt) (st:Option (List UInt8)):Pkt×Option (List UInt8):=
 ({ p with present:=decide ((octS st).1=1),code:=((octS (wantS (decide ((octS st).1≤1)) (octS st).2)).1:Int) },
   wantS (decide ((octS (wantS (decide ((octS st).1≤1)) (octS st).2)).1≤5)) (octS (wantS (decide ((octS st).1≤1)) (octS st).2)).2)
def restS (st:Option (List UInt8)):List UInt8×Option (List UInt8):=bytS (lenS st) st
def publishS (p:Pkt) (st:Option (List UInt8)):Pkt×Option (List UInt8):=
 if 0 < p.qos then ({ p with topic:=(topS st).1,id:=((idS (topS st).2).1:Int),payload:=(restS (idS (topS st).2).2).1 },(restS (idS (topS st).2).2).2)
 else ({ p with topic:=(topS st).1,payload:=(restS (topS st).2).1 },(restS (topS st).2).2)
def bitP (p:Pkt) (b:Nat):Pkt:={ p with clean:=decide (b / 2 % 2=1),will:=decide (b / 4 % 2=1),qos:=((b / 8 % 4:Nat):Int),retain:=decide (b / 32 % 2=1) }
def bitOk (b:Nat):Bool:=(decide (b % 2=0) && decide (b < 64)) && decide (b / 8 % 4≤2) && (decide (b / 4 % 2=1) || decide (b / 8 % 4=0) && !decide (b / 32 % 2=1))
def bitsS (p:Pkt) (st:Option (List UInt8)):Pkt×Option (List UInt8):=(bitP p (octS st).1,wantS (bitOk (octS st).1) (octS st).2)
def protoS (st:Option (List UInt8)):Option (List UInt8):=wantS ((txtS st).1 == [77,81,84,84]) (txtS st).2
def levelS (st:Option (List UInt8)):Option (List UInt8):=wantS (decide ((octS st).1=4)) (octS st).2
def connectS (p:Pkt) (st:Option (List UInt8)):Pkt×Option (List UInt8):=
 let b:=bitsS p (levelS (protoS st))
 let n:=numS b.2
 let c:=txtS n.2
 let s:=wantS (clientOk c.1) c.2
 let q:Pkt:={ b.1 with keep:=(n.1:Int),client:=c.1 }
 if b.1.will then ({ q with topic:=(topS s).1,payload:=(txtS (topS s).2).1 },(txtS (topS s).2).2) else (q,s)
def codeOk (x:Nat):Bool:=decide (x≤2) || decide (x=128)
def codL:List UInt8→List Int→List Int×Option (List UInt8)
 | [],acc=>(acc,some [])
 | x :: r,acc=>if codeOk x.toNat then codL r (acc ++ [(x.toNat:Int)]) else (acc ++ [(x.toNat:Int)],none)
def codR (st:Option (List UInt8)) (acc:List Int):List Int×Option (List UInt8):=match st with
 | some l=>codL l acc
 | none=>(acc,none)
def codesS (st:Option (List UInt8)):List Int×Option (List UInt8):=codR (wantS (decide (0 < lenS st)) st) []
theorem codR_step (x:UInt8) (r:List UInt8) (acc:List Int):codR (some (x :: r)) acc=codR (wantS (codeOk x.toNat) (some r)) (acc ++ [(x.toNat:Int)]):=by
 show codL (x :: r) acc=_
 rw [codL]
 cases codeOk x.toNat<;>simp [wantS,codR]
def filStep (k8:Bool) (st:Option (List UInt8)):(List UInt8×Int)×Option (List UInt8):=
 if k8 then (((txtS st).1,((octS (wantS (filterB (txtS st).1) (txtS st).2)).1:Int)),wantS (decide ((octS (wantS (filterB (txtS st).1) (txtS st).2)).1≤2)) (octS (wantS (filterB (txtS st).1) (txtS st).2)).2)
 else (((txtS st).1,0),wantS (filterB (txtS st).1) (txtS st).2)
def filF (k8:Bool):Nat→Option (List UInt8)→List (List UInt8×Int)→List (List UInt8×Int)×Option (List UInt8)
 | 0,st,acc=>(acc,st)
 | n+1,st,acc=>if lenS st=0 then (acc,st) else filF k8 n (filStep k8 st).2 (acc ++ [(filStep k8 st).1])
def filR (k8:Bool) (st:Option (List UInt8)) (acc:List (List UInt8×Int)):List (List UInt8×Int)×Option (List UInt8):=filF k8 (lenS st) st acc
def filtersS (k8:Bool) (st:Option (List UInt8)):List (List UInt8×Int)×Option (List UInt8):=filR k8 (wantS (decide (0 < lenS st)) st) []
theorem numS_lt_len (st:Option (List UInt8)) (h:0 < lenS st):lenS (numS st).2 < lenS st:=by
 unfold numS
 cases st with
 | none=>simp [lenS] at h
 | some l=>match l,h with
   | [x],_=>simp [octS,lenS]
   | x :: y :: r,_=>simp [octS,lenS];omega
theorem txtS_lt_len (st:Option (List UInt8)) (h:0 < lenS st):lenS (txtS st).2 < lenS st:=Nat.lt_of_le_of_lt (bytS_len _ _) (numS_lt_len st h)
theorem filStep_lt (k8:Bool) (st:Option (List UInt8)) (h:0 < lenS st):lenS (filStep k8 st).2 < lenS st:=by
 have h1:=txtS_lt_len st h
 have h2:=wantS_len (filterB (txtS st).1) (txtS st).2
 have h3:=octS_len (wantS (filterB (txtS st).1) (txtS st).2)
 have h4:=wantS_len (decide ((octS (wantS (filterB (txtS st).1) (txtS st).2)).1≤2)) (octS (wantS (filterB (txtS st).1) (txtS st).2)).2
 unfold filStep
 cases k8
 · simp only [Bool.false_eq_true,if_false];omega
 · simp only [if_true];omega
theorem filF_fuel (k8:Bool):∀ (n m:Nat) (st:Option (List UInt8)) (acc:List (List UInt8×Int)),lenS st≤n→lenS st≤m→filF k8 n st acc=filF k8 m st acc
 | 0,0,_,_,_,_=>rfl
 | 0,m+1,st,acc,h,_=>by rw [filF,filF,if_pos (by omega)]
 | n+1,0,st,acc,_,h=>by rw [filF,filF,if_pos (by omega)]
 | n+1,m+1,st,acc,h1,h2=>by
   rw [filF,filF]
   by_cases hz:lenS st=0
   · rw [if_pos hz,if_pos hz]
   · rw [if_neg hz,if_neg hz]
     have:=filStep_lt k8 st (by omega)
     exact filF_fuel k8 n m _ _ (by omega) (by omega)
theorem filR_end (k8:Bool) (st:Option (List UInt8)) (acc:List (List UInt8×Int)) (h:lenS st=0):filR k8 st acc=(acc,st):=by
 unfold filR;rw [h];rfl
theorem filR_step (k8:Bool) (st:Option (List UInt8)) (acc:List (List UInt8×Int)) (h:0 < lenS st):filR k8 st acc=filR k8 (filStep k8 st).2 (acc ++ [(filStep k8 st).1]):=by
 unfold filR
 obtain ⟨n,hn⟩:∃ n,lenS st=n+1:=⟨lenS st - 1,by omega⟩
 have:=filStep_lt k8 st h
 rw [hn,filF,if_neg (by omega)]
 exact filF_fuel k8 _ _ _ _ (by omega) (Nat.le_refl _)
def packetS (p:Pkt) (st:Option (List UInt8)):Pkt×List (List UInt8×Int)×List Int×Option (List UInt8):=
 if p.kind=1 then ((connectS p st).1,[],[],(connectS p st).2)
 else if p.kind=2 then ((connackS p st).1,[],[],(connackS p st).2)
 else if p.kind=3 then ((publishS p st).1,[],[],(publishS p st).2)
 else if p.kind=4∨p.kind=5∨p.kind=6∨p.kind=7∨p.kind=11 then ({ p with id:=((idS st).1:Int) },[],[],(idS st).2)
 else if p.kind=8∨p.kind=10 then ({ p with id:=((idS st).1:Int) },(filtersS (p.kind == 8) (idS st).2).1,[],(filtersS (p.kind == 8) (idS st).2).2)
 else if p.kind=9 then ({ p with id:=((idS st).1:Int) },[],(codesS (idS st).2).1,(codesS (idS st).2).2)
 else (p,[],[],st)
def bodyS (p:Pkt) (l:List UInt8):Option (Pkt×List (List UInt8×Int)×List Int):=
 if lenS (packetS p (some l)).2.2.2=0∧(packetS p (some l)).2.2.2≠none then some ((packetS p (some l)).1,(packetS p (some l)).2.1,(packetS p (some l)).2.2.1) else none
theorem topS_len (st:Option (List UInt8)):lenS (topS st).2≤lenS st:=Nat.le_trans (wantS_len _ _) (txtS_len _)
theorem idS_len (st:Option (List UInt8)):lenS (idS st).2≤lenS st:=Nat.le_trans (wantS_len _ _) (numS_len _)
end decPlain
namespace rf
open Go topPlain decPlain
def whole {α:Type} (q:α):Option (List UInt8)→Option α
 | some []=>some q
 | _=>none
end rf
namespace encPlain
open Go topPlain decPlain
def byt8 (n:Int):UInt8:=UInt8.ofNat (n % 256).toNat
def bitI (b:Bool) (n:Int):Int:=if b then n else 0
def twoW (n:Int):List UInt8:=[byt8 (n / 256),byt8 n]
def twoR (n:Int):List UInt8:=[byt8 ((n.tdiv 256).tmod 256),byt8 (n.tmod 256)]
def txtW (l:List UInt8):List UInt8:=twoW (l.length:Int) ++ l
def txtR (l:List UInt8):List UInt8:=twoR (l.length:Int) ++ l
def filW (k8:Bool) (f:List UInt8×Int):List UInt8:=txtW f.1 ++ if k8 then [byt8 f.2] else []
def bodyW (cb:UInt8) (p:Pkt) (fs:List (List UInt8×Int)) (cs:List Int):List UInt8:=
 if p.kind=1 then txtW [77,81,84,84] ++ [byt8 4] ++ [cb] ++ twoW p.keep ++ txtW p.client ++ (if p.will then txtW p.topic ++ txtW p.payload else [])
 else if p.kind=2 then [byt8 (bitI p.present 1)] ++ [byt8 p.code]
 else if p.kind=3 then txtW p.topic ++ (if 0 < p.qos then twoW p.id else []) ++ p.payload
 else if p.kind=4∨p.kind=5∨p.kind=6∨p.kind=7∨p.kind=11 then twoW p.id
 else if p.kind=8∨p.kind=10 then twoW p.id ++ fs.flatMap (filW (p.kind == 8))
 else if p.kind=9 then twoW p.id ++ cs.map byt8
 else []
def lenW (n:Nat):List UInt8:=if n < 128 then [byt8 n] else [byt8 (n % 128+128:Nat),byt8 (n / 128:Nat)]
def sameP (p q:Pkt):Prop:=p.kind=q.kind∧p.clean=q.clean∧p.will=q.will∧p.keep=q.keep∧p.client=q.client∧p.present=q.present∧p.code=q.code∧p.dup=q.dup∧p.qos=q.qos∧p.retain=q.retain∧p.topic=q.topic∧p.payload=q.payload∧p.id=q.id
instance (p q:Pkt):Decidable (sameP p q):=by unfold sameP;infer_instance
def rangeB (p:Pkt):Prop:=1≤p.kind∧p.kind≤14∧0≤p.qos∧p.qos≤2∧0≤p.keep∧0≤p.id∧0≤p.code
instance (p:Pkt):Decidable (rangeB p):=by unfold rangeB;infer_instance
theorem byt8_nat {n:Nat} (h:n < 256):(byt8 (n:Int)).toNat=n:=by
 unfold byt8
 rw [show ((n:Int) % 256).toNat=n by omega,UInt8.toNat_ofNat',Nat.mod_eq_of_lt (by omega)]
theorem lenW_len {m:Nat}:(lenW m).length=if m < 128 then 1 else 2:=by
 unfold lenW;split<;>rfl
end encPlain
namespace topWalks
open Go.RowKit topPlain
theorem hide {p:Prop} (h:p):Hid p:=h
theorem unhide {p:Prop} (h:Hid p):p:=h
theorem ret_bool {a b:Bool} (h:a=b):Ending.returned (.bool a)=.returned (.bool b):=by rw [h]
theorem get_list (s:ByteArray) (k:Nat) (h:k < s.size):s.data.toList[k]?=some s[k]:=Lib.data_getElem? s k h
def NoB (l:List UInt8) (c:UInt8) (i:Nat):Prop:=∀ (j:Nat) b,j < i→l[j]?=some b→b≠c
theorem NoB.zero (l:List UInt8) (c:UInt8):NoB l c 0:=fun _ _ h=>absurd h (Nat.not_lt_zero _)
theorem NoB.succ {l:List UInt8} {c:UInt8} {i:Nat} {x:UInt8} (h:NoB l c i) (hx:l[i]?=some x) (hn:x≠c):NoB l c (i+1):=fun j b hj hb=>by
 by_cases e:j=i
 · subst e;rw [hx] at hb;cases hb;exact hn
 · exact h j b (by omega) hb
theorem NoB.done {l:List UInt8} {c:UInt8} (h:NoB l c l.length):hasB l c=false:=by
 cases hh:hasB l c
 · rfl
 · have hm:c∈l:=List.contains_iff_mem.1 hh
   obtain ⟨j,hj,e⟩:=List.getElem_of_mem hm
   exact absurd rfl (h j c hj (by rw [List.getElem?_eq_getElem hj,e]))
end topWalks
namespace br
open Go.RowKit topPlain topWalks
structure But (F:Nat→Prop) (w w':World):Prop where
 os:w'.os=w.os
 tape:w'.tape=w.tape
 output:w'.output=w.output
 size:w.heap.size≤w'.heap.size
 keep:∀ b,b < w.heap.size→¬ F b→w'.heap[b]?=w.heap[b]?
theorem But.refl (F:Nat→Prop) (w:World):But F w w:=⟨rfl,rfl,rfl,Nat.le_refl _,fun _ _ _=>rfl⟩
theorem But.trans {F G:Nat→Prop} {a b c:World} (h:But F a b) (k:But G b c) (hFG:∀ x,x < a.heap.size→G x→F x):But F a c:=
 ⟨k.os.trans h.os,k.tape.trans h.tape,k.output.trans h.output,Nat.le_trans h.size k.size,fun x hx hn=>(k.keep x (Nat.lt_of_lt_of_le hx h.size) (fun g=>hn (hFG x hx g))).trans (h.keep x hx hn)⟩
theorem But.wide {F G:Nat→Prop} {w w':World} (h:But F w w') (hFG:∀ x,x < w.heap.size→F x→G x):But G w w':=
 ⟨h.os,h.tape,h.output,h.size,fun b hb hn=>h.keep b hb (fun f=>hn (hFG b hb f))⟩
theorem But.of_below {F:Nat→Prop} {w w':World} (h:Below w.heap.size w w'):But F w w':=⟨h.os,h.tape,h.output,h.size,fun b hb _=>h.block b hb⟩
theorem But.set {F:Nat→Prop} (w:World) (a:Addr) (v:Value) (h:F a.block):But F w (w.setCell a v):=
 ⟨rfl,rfl,rfl,by simp [World.setCell],fun b _ hn=>Below.heap_setCell _ _ _ _ (fun e=>hn (e ▸ h))⟩
theorem But.of_grown {F:Nat→Prop} {w w':World} {row:Option Nat} (h:w.grownBy w' row) (hr:∀ b,row=some b→F b):But F w w':=
 ⟨h.os,h.tape,h.output,h.size,fun b hb hn=>h.block b hb (fun e=>hn (hr b e.symm))⟩
theorem But.below {F:Nat→Prop} {w w':World} {N:Nat} (h:But F w w') (hN:∀ b,F b→N≤b) (hs:N≤w.heap.size):Below N w w':=
 ⟨h.os,h.tape,h.output,h.size,fun b hb=>h.keep b (by omega) (fun f=>by have:=hN b f;omega)⟩
theorem But.cell {F:Nat→Prop} {w w':World} {a:Addr} {v:Value} (h:But F w w') (hn:¬ F a.block) (hc:w.cell? a=some v):w'.cell? a=some v:=by
 have hlt:a.block < w.heap.size:=by
  unfold World.cell? at hc
  split at hc
  · rename_i c t z hb;exact (Array.getElem?_eq_some_iff.1 hb).1
  · cases hc
 rw [World.cell?_of_block (h.keep a.block hlt hn)];exact hc
theorem But.blk {F:Nat→Prop} {w w':World} {b:Nat} {o:Obj} (h:But F w w') (hn:¬ F b) (hc:w.heap[b]?=some o):w'.heap[b]?=some o:=by
 rw [h.keep b (Array.getElem?_eq_some_iff.1 hc).1 hn];exact hc
theorem But.below' {w w':World} (h:But (fun _=>False) w w'):Below w.heap.size w w':=⟨h.os,h.tape,h.output,h.size,fun b hb=>h.keep b hb (fun f=>f)⟩
theorem cell_blt {w:World} {p:Addr} {v:Value} (h:w.cell? p=some v):p.block < w.heap.size:=by
 unfold World.cell? at h
 split at h
 · rename_i c t z hb;exact (Array.getElem?_eq_some_iff.1 hb).1
 · cases h
theorem cell_new (w:World) (c:Array Value) (t:TypeId) {i:Nat} {v:Value} (h:c[i]?=some v):(w.alloc (.cells c t)).cell? ⟨w.heap.size,i,none⟩=some v:=by
 have:=heap_alloc_new w (.cells c t)
 simp only [World.cell?,this]
 simpa using h
theorem blk_lt {w:World} {b:Nat} {o:Obj} (h:w.heap[b]?=some o):b < w.heap.size:=(Array.getElem?_eq_some_iff.1 h).1
theorem blk_cell {w:World} {b i:Nat} {c:Array Value} {t:TypeId} {z:Nat×Nat} {v:Value} (h:w.heap[b]?=some (.cells c t z)) (hi:c[i]?=some v):w.cell? ⟨b,i,none⟩=some v:=by
 simp [World.cell?,h,hi]
theorem blk_frozen {w:World} {b i:Nat} {c:Array Value} {t:TypeId} (h:w.heap[b]?=some (.cells c t (0,0))):w.frozen? ⟨b,i,none⟩=false:=by
 simp [World.frozen?,h]
theorem blk_set {w:World} {b i:Nat} {c:Array Value} {t:TypeId} {z:Nat×Nat} (v:Value) (h:w.heap[b]?=some (.cells c t z)):(w.setCell ⟨b,i,none⟩ v).heap[b]?=some (.cells (c.setIfInBounds i v) t z):=by
 have hlt:=blk_lt h
 simp only [World.setCell]
 have e:w.heap[b]=Obj.cells c t z:=by rw [Array.getElem?_eq_getElem hlt] at h;exact Option.some.inj h
 simp [hlt,Array.getElem_modify,e]
theorem own_blk {w:World} {C:Nat} {e:TypeId} {sz:Nat} {v:Value} {n:Nat} {xs:List Value} (h:w.ownsRow C e sz v n xs) {b:Nat} (hb:v.ownBlock=some b):∃ cur,w.heap[b]?=some (.cells cur e (0,0)):=by
 rcases h.2 with ⟨rfl,_⟩ | ⟨g,cap,cur,rfl,_,hg,_⟩
 · cases hb
 · cases hb;exact ⟨cur,hg⟩
theorem own_keep {w w':World} {C:Nat} {e:TypeId} {sz:Nat} {v:Value} {n:Nat} {xs:List Value} (h:w.ownsRow C e sz v n xs) (hk:∀ b,v.ownBlock=some b→w'.heap[b]?=w.heap[b]?):w'.ownsRow C e sz v n xs:=by
 refine ⟨h.1,?_⟩
 rcases h.2 with h1 | ⟨g,cap,cur,rfl,h2,hg,h3⟩
 · exact Or.inl h1
 · exact Or.inr ⟨g,cap,cur,rfl,h2,(hk g rfl).trans hg,h3⟩
theorem own_but {F:Nat→Prop} {w w':World} {C:Nat} {e:TypeId} {sz:Nat} {v:Value} {n:Nat} {xs:List Value} (h:w.ownsRow C e sz v n xs) (hk:But F w w') (hn:∀ b,v.ownBlock=some b→¬ F b):w'.ownsRow C e sz v n xs:=
 own_keep h (fun b hb=>by obtain ⟨cur,hc⟩:=own_blk h hb;exact hk.keep b (blk_lt hc) (hn b hb))
theorem own_zero {w:World} {C:Nat} {e:TypeId} {sz:Nat} {v:Value} {n:Nat} {xs:List Value} (h:w.ownsRow C e sz v n xs):w.ownsRow 0 e sz v n xs∧∀ b,v.ownBlock=some b→C≤b:=by
 refine ⟨⟨h.1,?_⟩,?_⟩
 · rcases h.2 with h1 | ⟨g,cap,cur,e1,_,h3⟩
   · exact Or.inl h1
   · exact Or.inr ⟨g,cap,cur,e1,Nat.zero_le _,h3⟩
 · intro b hb
   rcases h.2 with ⟨rfl,_⟩ | ⟨g,cap,cur,rfl,h2,_⟩
   · cases hb
   · cases hb;exact h2
theorem own_form {w:World} {C:Nat} {e:TypeId} {sz:Nat} {v:Value} {n:Nat} {xs:List Value} (h:w.ownsRow C e sz v n xs):∃ q cap,v=.slice q n cap:=by
 rcases h.2 with ⟨rfl,rfl⟩ | ⟨g,cap,cur,rfl,_⟩
 · exact ⟨none,0,rfl⟩
 · exact ⟨some ⟨g,0,none⟩,cap,rfl⟩
theorem own_at {w:World} {C:Nat} {e:TypeId} {sz:Nat} {q:Option Addr} {cap n:Nat} {xs:List Value} (h:w.ownsRow C e sz (.slice q n cap) n xs) (hn:0 < n):∃ g,q=some ⟨g,0,none⟩∧g < w.heap.size∧n≤cap∧cap≤maxLen∧∀ j u,xs[j]?=some u→w.cell? ⟨g,j,none⟩=some u:=by
 rcases h.2 with ⟨_,h0⟩ | ⟨g,cap',cur,hv,_,hg,h1,h2,h3,h4⟩
 · omega
 · cases hv
   refine ⟨g,rfl,blk_lt hg,h1,h2,fun j u hj=>?_⟩
   refine blk_cell hg ?_
   rw [← h4] at hj
   have hlt:j < n*sz:=by
    have:=(List.getElem?_eq_some_iff.1 hj).1
    rw [List.length_take] at this;omega
   rw [List.getElem?_take_of_lt hlt] at hj
   simpa using hj
theorem step_append_at {P:Program} {ops:Array Oper} {o:Oper} {a:Act} {w:World} {K:Act→World→Prop} {Q:Exit→Act→World→Prop} {E:Prop}
 (hg:o.guard=none) (s x:Operand) (t:TypeId) (hop:o.op=Op.call { callee:=Callee.builtin Builtin.append,args:=#[s,x],argTypes:=#[t,t] })
 (base:Nat) (e:TypeId) (i:TypeInfo) (z:Value) (size bytes:Nat) (h1:P.underlying t=some (.slice e)) (h2:P.info? e=some i) (h3:i.zero=some z) (h4:i.size=size) (h5:i.bytes=bytes) (h6:z.cells.size=size) (h7:0 < size)
 (v:Value) (n:Nat) (xs:List Value) (hs:a.eval s=v) (hown:w.ownsRow base e size v n xs)
 (ad:Addr) (m c:Nat) (news:List Value) (hx:a.eval x=.slice (some ad) m c) (hn:news.length=m*size) (hc:∀ j u,news[j]?=some u→w.cell? (ad.add j)=some u) (h1c:∀ u∈news,u.oneCell'=true)
 (b1:n+m≤maxLen) (b2:(n+m)*bytes≤140737488355328) (hb:base≤w.heap.size)
 (hK:∀ v' w',w'.ownsRow base e size v' (n+m) (xs ++ news)→w.grownBy w' v.ownBlock→(v'.ownBlock=v.ownBlock∨v'.ownBlock=some w.heap.size)→K (a.put o.dst v') w') :
 if Region.wanted o (yielded ops a.tmps)=true then Oper.wp P o a w K Q else E:=by
 have hw:Region.wanted o (yielded ops a.tmps)=true:=by simp [Region.wanted,hg]
 rw [if_pos hw]
 obtain ⟨v',w',hrun,r1,r2,_,r4⟩:=run_append_own_at (P:=P) w base t o.type e i z size bytes h1 h2 h3 h4 h5 h6 h7 v n xs hown ad m c news hn hc h1c b1 b2 hb
 unfold Oper.wp
 simp [execOp,hop,resolve,invoke,builtin,hs,hx,hrun,Result.andThen]
 exact hK v' w' r1 r2 r4
theorem news_new (w:World) (c:Array Value) (t:TypeId):∀ j u,c.toList[j]?=some u→(w.alloc (.cells c t)).cell? ((⟨w.heap.size,0,none⟩:Addr).add j)=some u:=by
 intro j u hj
 have:((⟨w.heap.size,0,none⟩:Addr).add j)=⟨w.heap.size,j,none⟩:=by
  unfold Addr.add
  split
  · rename_i h;subst h;rfl
  · simp
 rw [this]
 exact cell_new w c t (by simpa using hj)
theorem alloc_cell {w:World} {a:Addr} {v:Value} (h:w.cell? a=some v) (o:Obj):(w.alloc o).cell? a=some v:=by
 rw [World.cell?_of_block (w:=w) (Below.heap_alloc _ _ _ (cell_blt h))];exact h
structure Msg where
 topic:List UInt8
 payload:List UInt8
 qos:Int
 retain:Bool
 deriving DecidableEq
def msgC (m:Msg):List Value:=[.string (bs m.topic),.string (bs m.payload),.int .i64 m.qos,.bool m.retain]
structure Uw where
 id:Int
 qos:Int
 rel:Bool
 msg:Msg
 deriving DecidableEq
def uwC (u:Uw):List Value:=[.int .i64 u.id,.int .i64 u.qos,.bool u.rel,.string (bs u.msg.topic),.string (bs u.msg.payload),.int .i64 u.msg.qos,.bool u.msg.retain]
theorem uwC_flat_length (l:List Uw):(l.flatMap uwC).length=l.length*7:=by
 induction l with
 | nil=>rfl
 | cons a t ih=>simp [uwC,ih];omega
theorem uwC_at {l:List Uw} {k:Nat} {u:Uw} (h:l[k]?=some u) (j:Nat) (hj:j < 7):(l.flatMap uwC)[k*7+j]?=(uwC u)[j]?:=by
 induction l generalizing k with
 | nil=>simp at h
 | cons a t ih =>
   cases k with
   | zero =>
     simp only [List.getElem?_cons_zero,Option.some.injEq] at h
     subst h
     rw [List.flatMap_cons,List.getElem?_append_left (by simp [uwC];omega)]
     simp
   | succ k =>
     simp only [List.getElem?_cons_succ] at h
     rw [List.flatMap_cons,List.getElem?_append_right (by simp [uwC];omega)]
     have:(k+1)*7+j - (uwC a).length=k*7+j:=by simp [uwC];omega
     rw [this]
     exact ih h
def idx {α:Type} (p:α→Bool) (l:List α):Int:=match l.findIdx? p with
 | some i=>(i:Int)
 | none=>-1
theorem idx_none {α:Type} {p:α→Bool} {l:List α} (h:∀ (j:Nat) x,l[j]?=some x→p x=false):idx p l=-1:=by
 unfold idx
 rw [List.findIdx?_eq_none_iff.2 (fun x hx=>by obtain ⟨j,hj,e⟩:=List.getElem_of_mem hx;exact h j x (by rw [List.getElem?_eq_getElem hj,e]))]
theorem idx_some {α:Type} {p:α→Bool} {l:List α} {k:Nat} {x:α} (hx:l[k]?=some x) (hp:p x=true) (h:∀ (j:Nat) y,j < k→l[j]?=some y→p y=false):idx p l=(k:Int):=by
 unfold idx
 have hk:=(List.getElem?_eq_some_iff.1 hx)
 have:l.findIdx? p=some k:=by
  rw [List.findIdx?_eq_some_iff_getElem]
  refine ⟨hk.1,by rw [hk.2];exact hp,fun j hj=>?_⟩
  have hjl:j < l.length:=Nat.lt_trans hj hk.1
  have:=h j (l[j]'hjl) hj (List.getElem?_eq_getElem _)
  simp [this]
 rw [this]
end br
namespace br
open Go.RowKit topPlain topWalks decPlain
theorem cells15 {w:World} {b:Nat} {t:TypeId} {v0 v1 v2 v3 v4 v5 v6 v7 v8 v9 v10 v11 v12 v13 v14:Value} (h:w.heap[b]?=some (.cells #[v0,v1,v2,v3,v4,v5,v6,v7,v8,v9,v10,v11,v12,v13,v14] t)):w.cell? ⟨b,0,none⟩=some v0∧w.cell? ⟨b,1,none⟩=some v1∧w.cell? ⟨b,2,none⟩=some v2∧w.cell? ⟨b,3,none⟩=some v3∧w.cell? ⟨b,4,none⟩=some v4∧w.cell? ⟨b,5,none⟩=some v5∧w.cell? ⟨b,6,none⟩=some v6∧w.cell? ⟨b,7,none⟩=some v7∧w.cell? ⟨b,8,none⟩=some v8∧w.cell? ⟨b,9,none⟩=some v9∧w.cell? ⟨b,10,none⟩=some v10∧w.cell? ⟨b,11,none⟩=some v11∧w.cell? ⟨b,12,none⟩=some v12∧w.cell? ⟨b,13,none⟩=some v13∧w.cell? ⟨b,14,none⟩=some v14:=
 ⟨blk_cell h rfl,blk_cell h rfl,blk_cell h rfl,blk_cell h rfl,blk_cell h rfl,blk_cell h rfl,blk_cell h rfl,blk_cell h rfl,blk_cell h rfl,blk_cell h rfl,blk_cell h rfl,blk_cell h rfl,blk_cell h rfl,blk_cell h rfl,blk_cell h rfl⟩
end br
namespace br
open Go.RowKit topPlain topWalks
theorem findId1_any (u:Uw) (bx:Nat) (id:Int) (w:World) (hb:w.cell? ⟨bx,0,none⟩=some (.int .i64 id)) :
 Calls Tryz.prog 239 #[.agg #[.int .i64 u.id,.int .i64 u.qos,.bool u.rel,.string (bs u.msg.topic),.string (bs u.msg.payload),.int .i64 u.msg.qos,.bool u.msg.retain],.pointer (some ⟨bx,0,none⟩)] w fun e w'=>e=.returned (.bool (u.id == id))∧Below w.heap.size w w':=by
 have hlt:=cell_blt hb
 simp only at hlt
 go_enter Tryz.func239,Tryz.ntmps239
 go_wp2
 go_ret
 exact ⟨rfl,(Below.refl _ _).alloc (Nat.le_refl _) _⟩
theorem uw_cells {w wr:World} {g n kap:Nat} {l:List Uw} (h:w.ownsRow 0 252 7 (.slice (some ⟨g,0,none⟩) n kap) n (l.flatMap uwC)) {k:Nat} {u:Uw} (hu:l[k]?=some u) (hn:l.length=n) (hb:wr.heap[g]?=w.heap[g]?) :
 wr.cell? ⟨g,k*7,none⟩=some (.int .i64 u.id)∧wr.cell? ⟨g,k*7+1,none⟩=some (.int .i64 u.qos)∧wr.cell? ⟨g,k*7+2,none⟩=some (.bool u.rel)∧wr.cell? ⟨g,k*7+3,none⟩=some (.string (bs u.msg.topic))∧wr.cell? ⟨g,k*7+4,none⟩=some (.string (bs u.msg.payload))∧wr.cell? ⟨g,k*7+5,none⟩=some (.int .i64 u.msg.qos)∧wr.cell? ⟨g,k*7+6,none⟩=some (.bool u.msg.retain):=by
 have hlt:=(List.getElem?_eq_some_iff.1 hu).1
 obtain ⟨g',e,_,_,_,hc⟩:=own_at h (by omega)
 cases e
 have hk:∀ j,j < 7→∀ x,(uwC u)[j]?=some x→wr.cell? ⟨g,k*7+j,none⟩=some x:=fun j hj x hx=>by
  rw [World.cell?_of_block (w:=w) hb];exact hc _ _ (by rw [uwC_at hu j hj];exact hx)
 exact ⟨hk 0 (by omega) _ rfl,hk 1 (by omega) _ rfl,hk 2 (by omega) _ rfl,hk 3 (by omega) _ rfl,hk 4 (by omega) _ rfl,hk 5 (by omega) _ rfl,hk 6 (by omega) _ rfl⟩
set_option maxHeartbeats 400000 in
set_option maxRecDepth 100000 in
theorem idxUw_any (v:Value) (l:List Uw) (id:Int) (bx:Nat) (w:World) (hv:w.ownsRow 0 252 7 v l.length (l.flatMap uwC)) (hbx:w.cell? ⟨bx,0,none⟩=some (.int .i64 id)) :
 Calls Tryz.prog 238 #[v,.func (.func 239) #[] #[.pointer (some ⟨bx,0,none⟩)]] w fun e w'=>e=.returned (.int .i64 (idx (fun u=>u.id == id) l))∧Below w.heap.size w w':=by
 obtain ⟨q,kap,rfl⟩:=own_form hv
 have HV:=hide hv
 have HX:=hide hbx
 have HF:=hide fun u w hb=>findId1_any u bx id w hb
 clear hv hbx
 go_enter Tryz.func238,Tryz.ntmps238
 go_wp2_with fail
 go_loopw [8] (fun i wx=>∃ (k:Nat),k≤l.length∧i=.int .i64 k∧Below w.heap.size w wx∧∀ (j:Nat) y,j < k→l[j]?=some y→(y.id == id)=false) (fun i _=>l.length - (intOf i).toNat)
 case atStart=>exact ⟨0,Nat.zero_le _,rfl,Below.refl _ _,fun j y h=>by omega⟩
 case round =>
  obtain ⟨k,hk,rfl,hB,hno⟩:=hrel
  have HB:=hide hB
  have HN:=hide hno
  clear hB hno
  by_cases hlt:k < l.length
  · obtain ⟨u,hu⟩:∃ u,l[k]?=some u:=⟨_,List.getElem?_eq_getElem hlt⟩
    obtain ⟨g,rfl,hg,hkc,hcm,_⟩:=own_at HV.out (by omega)
    unfold maxLen at hcm
    obtain ⟨h0,h1,h2,h3,h4,h5,h6⟩:=uw_cells (wr:=wr) HV.out hu rfl (HB.out.block _ hg)
    have HU:=hide hu
    clear hu
    go_wp2_with fail
    refine (HF.out u wr (by rw [HB.out.cell (cell_blt HX.out)];exact HX.out)).mono ?_
    rintro e w1 ⟨rfl,hB1⟩
    have HB1:=hide (HB.out.trans (hB1.mono HB.out.size))
    clear hB1
    by_cases hp:(u.id == id)=true
    · rw [hp]
      go_wp2
      go_ret
      exact ⟨by rw [idx_some HU.out hp HN.out];rfl,HB1.out⟩
    · have hp':(u.id == id)=false:=by simpa using hp
      rw [hp']
      have HP:=hide hp'
      clear hp hp'
      go_wp2
      go_roundw
      case rel=>exact ⟨k+1,by omega,by go_num,HB1.out,fun j y hj hy=>by
       by_cases e:j=k
       · subst e;have:=HU.out;rw [this] at hy;cases hy;exact HP.out
       · exact HN.out j y (by omega) hy⟩
      case measure=>simp [intOf];omega
  · go_wp2
    go_ret
    exact ⟨by rw [idx_none (fun j x hj=>HN.out j x (by have:=(List.getElem?_eq_some_iff.1 hj).1;omega) hj)];rfl,HB.out⟩
theorem findId_any (sb:Nat) (uv:Value) (l:List Uw) (id:Int) (w:World) (hs:w.cell? ⟨sb,5,none⟩=some uv) (hv:w.ownsRow 0 252 7 uv l.length (l.flatMap uwC)) :
 Calls Tryz.prog 210 #[.pointer (some ⟨sb,0,none⟩),.int .i64 id] w fun e w'=>e=.returned (.int .i64 (idx (fun u=>u.id == id) l))∧Below w.heap.size w w':=by
 have hlt:=cell_blt hs
 simp only at hlt
 have c:=hide fun w' (hB:Below w.heap.size w w') (hx:w'.cell? ⟨w.heap.size,0,none⟩=some (.int .i64 id))=>idxUw_any uv l id w.heap.size w' (own_keep hv (fun b hb=>by obtain ⟨cur,hc⟩:=own_blk hv hb;exact hB.block b (blk_lt hc))) hx
 have HB:=hide fun o=>(Below.refl w.heap.size w).alloc (Nat.le_refl _) o
 clear hv
 go_enter Tryz.func210,Tryz.ntmps210
 go_wp2_with fail
 refine (c.out _ (HB.out _) (cell_new _ _ _ rfl)).mono ?_
 rintro e w1 ⟨rfl,hB1⟩
 have HB1:=hide ((HB.out _).trans (hB1.mono (by simp)))
 clear hB1
 go_wp2
 go_ret
 exact ⟨rfl,HB1.out⟩
def aft (id:Int):Int:=id % 65535+1
theorem after_any (id:Int) (w:World) (h0:0≤id) :
 Calls Tryz.prog 260 #[.int .i64 id] w fun e w'=>e=.returned (.int .i64 (aft id))∧w'=w:=by
 have h2:Int.tmod id 65535=id % 65535:=Int.tmod_eq_emod_of_nonneg h0
 have h3:0≤id % 65535:=Int.emod_nonneg _ (by decide)
 have h4:id % 65535 < 65535:=Int.emod_lt_of_pos _ (by decide)
 unfold aft
 go_enter Tryz.func260,Tryz.ntmps260
 go_wp2
 go_ret
 exact ⟨rfl,rfl⟩
def busy (l:List Uw) (id:Int):Bool:=l.any (fun u=>u.id == id)
def nextF (l:List Uw):Nat→Int→Int
 | 0,id=>id
 | n+1,id=>if busy l id then nextF l n (aft id) else id
def nextS (last:Int) (l:List Uw):Int:=nextF l (l.length+1) (aft last)
def nth (last:Int):Nat→Int
 | 0=>aft last
 | k+1=>aft (nth last k)
theorem nextF_at {l:List Uw} {last:Int} (n k i:Nat) (h:∀ j,i≤j→j < i+k→busy l (nth last j)=true) (hk:busy l (nth last (i+k))=false) (hn:k < n):nextF l n (nth last i)=nth last (i+k):=by
 induction n generalizing k i with
 | zero=>omega
 | succ n ih =>
   unfold nextF
   cases k with
   | zero=>simp only [Nat.add_zero] at hk ⊢;simp [hk]
   | succ k =>
     rw [if_pos (h i (Nat.le_refl _) (by omega))]
     have:=ih k (i+1) (fun j h1 h2=>h j (by omega) (by omega)) (by rw [← hk];congr 2;omega) (by omega)
     rw [show i+(k+1)=i+1+k by omega,← this]
     rfl
theorem nth_eq (last:Int) (k:Nat):nth last k=(last+k) % 65535+1:=by
 induction k with
 | zero=>simp [nth,aft]
 | succ k ih=>unfold nth;rw [ih];unfold aft;omega
theorem nth_range (last:Int) (k:Nat):1≤nth last k∧nth last k≤65535:=by rw [nth_eq];omega
theorem nth_inj {last:Int} {i j:Nat} (hi:i < 65535) (hj:j < 65535) (e:nth last i=nth last j):i=j:=by
 rw [nth_eq,nth_eq] at e;omega
theorem pigeon {f:Nat→Int} (n:Nat):∀ (l:List Int),(∀ i j,i < n→j < n→f i=f j→i=j)→(∀ i,i < n→f i∈l)→n≤l.length:=by
 induction n with
 | zero=>exact fun l _ _=>Nat.zero_le _
 | succ n ih =>
   intro l hinj hm
   have h1:n≤(l.erase (f n)).length:=ih _ (fun i j hi hj=>hinj i j (by omega) (by omega)) (fun i hi=>(List.mem_erase_of_ne (fun e=>by have:=hinj i n (by omega) (by omega) e;omega)).2 (hm i (by omega)))
   rw [List.length_erase_of_mem (hm n (by omega))] at h1
   have:=List.length_pos_of_mem (hm n (by omega))
   omega
theorem busy_mem {l:List Uw} {id:Int} (h:busy l id=true):id∈l.map (·.id):=by
 unfold busy at h
 rw [List.any_eq_true] at h
 obtain ⟨u,hu,e⟩:=h
 exact List.mem_map.2 ⟨u,hu,by simpa using e⟩
theorem idx_busy (l:List Uw) (id:Int):(0≤idx (fun u=>u.id == id) l)↔busy l id=true:=by
 unfold idx busy
 cases h:l.findIdx? (fun u=>u.id == id) with
 | none =>
   rw [List.findIdx?_eq_none_iff] at h
   simp only [List.any_eq_true,show ¬ (0:Int)≤-1 by omega,false_iff]
   rintro ⟨u,hu,e⟩
   rw [h u hu] at e;cases e
 | some i =>
   rw [List.findIdx?_eq_some_iff_getElem] at h
   obtain ⟨hi,hp,_⟩:=h
   simp only [List.any_eq_true]
   exact ⟨fun _=>⟨_,List.getElem_mem hi,hp⟩,fun _=>by omega⟩
theorem busy_bound {l:List Uw} {last:Int} (k:Nat) (hk:k≤65535) (h:∀ j,j < k→busy l (nth last j)=true):k≤l.length:=by
 have:=pigeon (f:=nth last) k (l.map (·.id)) (fun i j hi hj=>nth_inj (by omega) (by omega)) (fun i hi=>busy_mem (h i hi))
 simpa using this
set_option maxHeartbeats 400000 in
theorem nextId_any (sb:Nat) (uv:Value) (l:List Uw) (last:Int) (w:World) (hs:w.cell? ⟨sb,5,none⟩=some uv) (hla:w.cell? ⟨sb,6,none⟩=some (.int .i64 last)) (hv:w.ownsRow 0 252 7 uv l.length (l.flatMap uwC)) (h0:0≤last) (hl:l.length < 65000) :
 Calls Tryz.prog 233 #[.pointer (some ⟨sb,0,none⟩)] w fun e w'=>e=.returned (.int .i64 (nextS last l))∧Below w.heap.size w w':=by
 have hlt:=cell_blt hs
 simp only at hlt
 have c1:=hide fun id w h0=>after_any id w h0
 have c2:=hide fun id w' (hB:Below w.heap.size w w')=>findId_any sb uv l id w' (by rw [hB.cell hlt];exact hs) (own_keep hv (fun b hb=>by obtain ⟨cur,hc⟩:=own_blk hv hb;exact hB.block b (blk_lt hc)))
 have HL:=hide hl
 have H0:=hide h0
 clear hv hs hl
 go_enter Tryz.func233,Tryz.ntmps233
 go_wp2_with fail
 refine (c1.out _ _ H0.out).mono ?_
 rintro e w1 ⟨rfl,hw1⟩
 rw [hw1]
 clear hw1
 go_wp2_with fail
 go_loopg [3] l.length (fun g i wx=>∃ k:Nat,k+g=l.length∧i=.int .i64 (nth last k)∧Below w.heap.size w wx∧∀ j,j < k→busy l (nth last j)=true)
 case atStart=>exact ⟨0,by omega,rfl,Below.refl _ _,fun j hj=>by omega⟩
 case round =>
  obtain ⟨k,hk,rfl,hB,hno⟩:=hrel
  have HB:=hide hB
  have HN:=hide hno
  clear hB hno
  go_wp2_with fail
  refine (c2.out _ _ HB.out).mono ?_
  rintro e w2 ⟨rfl,hB1⟩
  have HB1:=hide (HB.out.trans (hB1.mono HB.out.size))
  clear hB1
  by_cases hb:busy l (nth last k)=true
  · have hd:(0:Int)≤idx (fun u=>u.id == nth last k) l:=(idx_busy _ _).2 hb
    have HY:=hide hb
    clear hb
    generalize idx (fun u=>u.id == nth last k) l=i at *
    go_wp2_with fail
    refine (c1.out _ _ (by have:=nth_range last k;omega)).mono ?_
    rintro e w3 ⟨rfl,rfl⟩
    have hall:∀ j,j < k+1→busy l (nth last j)=true:=fun j hj=>by
     by_cases e:j=k
     · subst e;exact HY.out
     · exact HN.out j (by omega)
    have hle:=busy_bound (k+1) (by have:=HL.out;omega) hall
    have HA:=hide hall
    clear hall
    go_wp2
    go_roundg (gk - 1)
    case measure=>omega
    case rel=>exact ⟨k+1,by omega,rfl,HB1.out,HA.out⟩
  · have hd:¬ (0:Int)≤idx (fun u=>u.id == nth last k) l:=fun h=>hb ((idx_busy _ _).1 h)
    have HY:=hide (show busy l (nth last k)=false by simpa using hb)
    clear hb
    generalize idx (fun u=>u.id == nth last k) l=i at *
    go_wp2
    go_ret
    refine ⟨?_,HB1.out⟩
    have:=nextF_at (l:=l) (last:=last) (l.length+1) k 0 (fun j _ hj=>HN.out j (by omega)) (by simpa using HY.out) (by omega)
    rw [Nat.zero_add] at this
    unfold nextS
    exact congrArg (fun x=>Ending.returned (.int .i64 x)) this.symm
end br
namespace br
open Go.RowKit topPlain topWalks decPlain
def filK (l:List (List UInt8×Int)):List Value:=l.flatMap fun f=>[.string (bs f.1),.int .i64 f.2]
def u8k (l:List UInt8):List Value:=l.map fun x=>.int .u8 (x.toNat:Int)
structure Ses where
 filters:List (List UInt8×Int)
 known:List Int
 window:Int
 queue:Nat
 waiting:List Msg
 under:List Uw
 last:Int
def msgV (m:Msg):Value:=.agg #[.string (bs m.topic),.string (bs m.payload),.int .i64 m.qos,.bool m.retain]
structure SesV where
 fv:Value
 kb:Nat
 snd:Option (Nat×Nat)
 cb:Nat
 uv:Value
def sndV:Option (Nat×Nat)→Value
 | none=>.nilFunc
 | some (x,y)=>.func (.func 133) #[] #[.pointer (some ⟨x,0,none⟩),.pointer (some ⟨y,0,none⟩)]
def sesC (V:SesV) (S:Ses):Array Value:=#[V.fv,.map (some V.kb),sndV V.snd,.int .i64 S.window,.chan (some V.cb),V.uv,.int .i64 S.last]
structure SesAt (w:World) (sb:Nat) (V:SesV) (S:Ses):Prop where
 blk:w.heap[sb]?=some (.cells (sesC V S) 188)
 fil:w.ownsRow 0 95 2 V.fv S.filters.length (filK S.filters)
 und:w.ownsRow 0 252 7 V.uv S.under.length (S.under.flatMap uwC)
 kno:∃ D:DataW Unit,w.ownsMap Tryz.prog 3 (unitElem (H:=Unit)) V.kb S.known.length D∧∀ id:Int,(Lit.int .i64 id).wf=true→Maps.has D (.int .i64 id)=S.known.contains id
 chn:∃ s r,w.heap[V.cb]?=some (.chan S.queue (S.waiting.map msgV).toArray false s r false)
def SesV.has (V:SesV) (sb b:Nat):Prop:=b=sb∨V.fv.ownBlock=some b∨b=V.kb∨b=V.cb∨V.uv.ownBlock=some b
theorem SesAt.keep {w w':World} {sb:Nat} {V:SesV} {S:Ses} (h:SesAt w sb V S) (hk:∀ b,V.has sb b→w'.heap[b]?=w.heap[b]?):SesAt w' sb V S:=
 ⟨(hk sb (Or.inl rfl)).trans h.blk,own_keep h.fil (fun b hb=>hk b (Or.inr (Or.inl hb))),own_keep h.und (fun b hb=>hk b (Or.inr (Or.inr (Or.inr (Or.inr hb))))),by
  obtain ⟨D,⟨es,clock,hb,h1,h2,h3⟩,h4⟩:=h.kno
  exact ⟨D,⟨es,clock,(hk _ (Or.inr (Or.inr (Or.inl rfl)))).trans hb,h1,h2,h3⟩,h4⟩,by
  obtain ⟨s,r,hb⟩:=h.chn
  exact ⟨s,r,(hk _ (Or.inr (Or.inr (Or.inr (Or.inl rfl))))).trans hb⟩⟩
theorem But.drew {F:Nat→Prop} {w w':World} (h:But F w w'):But F w w'.drew:=⟨h.os,h.tape,h.output,h.size,h.keep⟩
theorem SesAt.drew {w:World} {sb:Nat} {V:SesV} {S:Ses} (h:SesAt w sb V S):SesAt w.drew sb V S:=h.keep (fun _ _=>rfl)
theorem SesAt.lt {w:World} {sb:Nat} {V:SesV} {S:Ses} (h:SesAt w sb V S) {b:Nat} (hb:V.has sb b):b < w.heap.size:=by
 rcases hb with rfl | hb | rfl | rfl | hb
 · exact blk_lt h.blk
 · obtain ⟨cur,hc⟩:=own_blk h.fil hb;exact blk_lt hc
 · obtain ⟨D,⟨es,clock,hb,_⟩,_⟩:=h.kno;exact blk_lt hb
 · obtain ⟨s,r,hb⟩:=h.chn;exact blk_lt hb
 · obtain ⟨cur,hc⟩:=own_blk h.und hb;exact blk_lt hc
theorem SesAt.below {w w':World} {sb:Nat} {V:SesV} {S:Ses} (h:SesAt w sb V S) (hb:Below w.heap.size w w'):SesAt w' sb V S:=h.keep (fun b hx=>hb.block b (h.lt hx))
theorem SesAt.own_ne {w:World} {sb:Nat} {V:SesV} {S:Ses} (h:SesAt w sb V S):V.fv.ownBlock≠some sb∧V.uv.ownBlock≠some sb∧V.kb≠sb∧V.cb≠sb∧V.kb≠V.cb∧(∀ b,V.fv.ownBlock=some b→V.uv.ownBlock≠some b∧b≠V.kb∧b≠V.cb)∧(∀ b,V.uv.ownBlock=some b→b≠V.kb∧b≠V.cb):=by
 obtain ⟨D,⟨es,clock,hk,_⟩,_⟩:=h.kno
 obtain ⟨s,r,hc⟩:=h.chn
 refine ⟨fun e=>?_,fun e=>?_,fun e=>?_,fun e=>?_,fun e=>?_,fun b hb=>⟨fun e=>?_,fun e=>?_,fun e=>?_⟩,fun b hb=>⟨fun e=>?_,fun e=>?_⟩⟩
 · obtain ⟨cur,hf⟩:=own_blk h.fil e;have:=h.blk;rw [hf] at this;simp at this
 · obtain ⟨cur,hf⟩:=own_blk h.und e;have:=h.blk;rw [hf] at this;simp at this
 · have:=h.blk;rw [← e,hk] at this;simp at this
 · have:=h.blk;rw [← e,hc] at this;simp at this
 · rw [e,hc] at hk;simp at hk
 · obtain ⟨cur,hf⟩:=own_blk h.fil hb;obtain ⟨cur2,hf2⟩:=own_blk h.und e;rw [hf2] at hf;simp at hf
 · obtain ⟨cur,hf⟩:=own_blk h.fil hb;rw [e,hk] at hf;simp at hf
 · obtain ⟨cur,hf⟩:=own_blk h.fil hb;rw [e,hc] at hf;simp at hf
 · obtain ⟨cur,hf⟩:=own_blk h.und hb;rw [e,hk] at hf;simp at hf
 · obtain ⟨cur,hf⟩:=own_blk h.und hb;rw [e,hc] at hf;simp at hf
theorem SesAt.but {F:Nat→Prop} {w w':World} {sb:Nat} {V:SesV} {S:Ses} (h:SesAt w sb V S) (hb:But F w w') (hn:∀ b,V.has sb b→¬ F b):SesAt w' sb V S:=h.keep (fun b hx=>hb.keep b (h.lt hx) (hn b hx))
structure OutS where
 conn:Int
 data:List UInt8
 closed:Bool
 deriving DecidableEq
def outC (L:List (OutS×Value)):List Value:=L.flatMap fun o=>[.int .i64 o.1.conn,o.2,.bool o.1.closed]
structure OutsAt (w:World) (v:Value) (L:List (OutS×Value)):Prop where
 row:w.ownsRow 0 66 3 v L.length (outC L)
 dat:∀ o,o∈L→w.ownsRow 0 5 1 o.2 o.1.data.length (u8k o.1.data)
theorem OutsAt.keep {w w':World} {v:Value} {L:List (OutS×Value)} (h:OutsAt w v L) (h1:∀ b,v.ownBlock=some b→w'.heap[b]?=w.heap[b]?) (h2:∀ o b,o∈L→o.2.ownBlock=some b→w'.heap[b]?=w.heap[b]?):OutsAt w' v L:=
 ⟨own_keep h.row h1,fun o ho=>own_keep (h.dat o ho) (fun b hb=>h2 o b ho hb)⟩
theorem OutsAt.nil (w:World):OutsAt w (.slice none 0 0) []:=⟨⟨rfl,Or.inl ⟨rfl,rfl⟩⟩,fun _ h=>by cases h⟩
structure BrV where
 win:Int
 que:Int
 cv:Nat→Value
 mb:Nat
 rv:Value
 clk:Int
def brC (V:BrV) (ov:Value):Array Value:=#[.int .i64 V.win,.int .i64 V.que,V.cv 0,V.cv 1,V.cv 2,V.cv 3,V.cv 4,V.cv 5,V.cv 6,V.cv 7,.map (some V.mb),V.rv,.int .i64 V.clk,ov]
structure BlkAt (w:World) (B:Nat) (V:BrV) (ov:Value) (L:List (OutS×Value)):Prop where
 blk:w.heap[B]?=some (.cells (brC V ov) 131)
 out:OutsAt w ov L
def OutHas (B:Nat) (ov:Value) (b:Nat):Prop:=b=B∨ov.ownBlock=some b
structure Sink (w:World) (B cb x y:Nat) (n:Int):Prop where
 bx:w.heap[x]?=some (.cells #[.pointer (some ⟨B,0,none⟩)] 55)
 by_:w.heap[y]?=some (.cells #[.pointer (some ⟨cb,0,none⟩)] 124)
 num:∃ cc,w.heap[cb]?=some (.cells cc 137)∧cc[0]?=some (.int .i64 n)
theorem Sink.keep {w w':World} {B cb x y:Nat} {n:Int} (h:Sink w B cb x y n) (hx:w'.heap[x]?=w.heap[x]?) (hy:w'.heap[y]?=w.heap[y]?) (hc:w'.heap[cb]?=w.heap[cb]?):Sink w' B cb x y n:=
 ⟨hx.trans h.bx,hy.trans h.by_,by obtain ⟨cc,h1,h2⟩:=h.num;exact ⟨cc,hc.trans h1,h2⟩⟩
theorem Sink.below {w w':World} {B cb x y:Nat} {n:Int} (h:Sink w B cb x y n) (hb:Below w.heap.size w w'):Sink w' B cb x y n:=
 h.keep (hb.block _ (blk_lt h.bx)) (hb.block _ (blk_lt h.by_)) (by obtain ⟨cc,h1,_⟩:=h.num;exact hb.block _ (blk_lt h1))
def SinkO (w:World) (B cb:Nat) (n:Int) (snd:Option (Nat×Nat)):Prop:=∀ x y,snd=some (x,y)→Sink w B cb x y n
theorem SesAt.apart {w:World} {sb B:Nat} {V:SesV} {S:Ses} {BV:BrV} {ov:Value} {L:List (OutS×Value)} (h:SesAt w sb V S) (k:BlkAt w B BV ov L) {b:Nat} (hb:V.has sb b):¬ OutHas B ov b:=by
 have key:∀ o,w.heap[b]?=some o→(∀ c,o≠.cells c 131)→(∀ c,o≠.cells c 66)→¬ OutHas B ov b:=fun o ho h1 h2 hh=>by
  rcases hh with rfl | hh
  · rw [k.blk] at ho;exact h1 _ (Option.some.inj ho).symm
  · obtain ⟨cur,hc⟩:=own_blk k.out.row hh;rw [hc] at ho;exact h2 _ (Option.some.inj ho).symm
 rcases hb with rfl | hb | rfl | rfl | hb
 · exact key _ h.blk (fun c e=>by simp at e) (fun c e=>by simp at e)
 · obtain ⟨cur,hc⟩:=own_blk h.fil hb;exact key _ hc (fun c e=>by simp at e) (fun c e=>by simp at e)
 · obtain ⟨D,⟨es,clock,hb,_⟩,_⟩:=h.kno;exact key _ hb (fun c e=>by simp at e) (fun c e=>by simp at e)
 · obtain ⟨s,r,hb⟩:=h.chn;exact key _ hb (fun c e=>by simp at e) (fun c e=>by simp at e)
 · obtain ⟨cur,hc⟩:=own_blk h.und hb;exact key _ hc (fun c e=>by simp at e) (fun c e=>by simp at e)
theorem Sink.apart {w:World} {B cb x y:Nat} {n:Int} {BV:BrV} {ov:Value} {L:List (OutS×Value)} (h:Sink w B cb x y n) (k:BlkAt w B BV ov L):¬ OutHas B ov x∧¬ OutHas B ov y∧¬ OutHas B ov cb:=by
 have key:∀ b o,w.heap[b]?=some o→(∀ c,o≠.cells c 131)→(∀ c,o≠.cells c 66)→¬ OutHas B ov b:=fun b o ho h1 h2 hh=>by
  rcases hh with rfl | hh
  · rw [k.blk] at ho;exact h1 _ (Option.some.inj ho).symm
  · obtain ⟨cur,hc⟩:=own_blk k.out.row hh;rw [hc] at ho;exact h2 _ (Option.some.inj ho).symm
 obtain ⟨cc,h1,_⟩:=h.num
 exact ⟨key _ _ h.bx (fun c e=>by simp at e) (fun c e=>by simp at e),key _ _ h.by_ (fun c e=>by simp at e) (fun c e=>by simp at e),key _ _ h1 (fun c e=>by simp at e) (fun c e=>by simp at e)⟩
theorem Sink.free {w:World} {B cb x y sb:Nat} {n:Int} {V:SesV} {S:Ses} (h:Sink w B cb x y n) (k:SesAt w sb V S):¬ V.has sb x∧¬ V.has sb y∧¬ V.has sb cb:=by
 have key:∀ b c t,w.heap[b]?=some (.cells c t)→t≠188→t≠95→t≠252→¬ V.has sb b:=fun b c t hb h1 h2 h3 hh=>by
  rcases hh with rfl | hh | rfl | rfl | hh
  · have:=k.blk;rw [hb] at this;simp at this;exact h1 this.2
  · obtain ⟨cur,hc⟩:=own_blk k.fil hh;rw [hb] at hc;simp at hc;exact h2 hc.2
  · obtain ⟨D,⟨es,clock,hk,_⟩,_⟩:=k.kno;rw [hb] at hk;simp at hk
  · obtain ⟨s,r,hk⟩:=k.chn;rw [hb] at hk;simp at hk
  · obtain ⟨cur,hc⟩:=own_blk k.und hh;rw [hb] at hc;simp at hc;exact h3 hc.2
 obtain ⟨cc,h1,_⟩:=h.num
 exact ⟨key _ _ _ h.bx (by decide) (by decide) (by decide),key _ _ _ h.by_ (by decide) (by decide) (by decide),key _ _ _ h1 (by decide) (by decide) (by decide)⟩
theorem SinkO.below {w w':World} {B cb:Nat} {n:Int} {s:Option (Nat×Nat)} (h:SinkO w B cb n s) (hb:Below w.heap.size w w'):SinkO w' B cb n s:=fun x y e=>(h x y e).below hb
theorem SinkO.but {F:Nat→Prop} {w w':World} {B cb:Nat} {n:Int} {s:Option (Nat×Nat)} (h:SinkO w B cb n s) (hb:But F w w') (hn:∀ x y,Sink w B cb x y n→¬ F x∧¬ F y∧¬ F cb):SinkO w' B cb n s:=fun x y e=>by
 have hs:=h x y e
 obtain ⟨h1,h2,h3⟩:=hn x y hs
 obtain ⟨cc,h4,_⟩:=hs.num
 exact hs.keep (hb.keep _ (blk_lt hs.bx) h1) (hb.keep _ (blk_lt hs.by_) h2) (hb.keep _ (blk_lt h4) h3)
theorem SesAt.set {w:World} {sb:Nat} {V V':SesV} {S S':Ses} (h:SesAt w sb V S) (i:Nat) (v:Value) (hc:(sesC V S).setIfInBounds i v=sesC V' S') (h1:V'.fv=V.fv) (h2:V'.kb=V.kb) (h3:V'.cb=V.cb) (h4:V'.uv=V.uv) (e1:S'.filters=S.filters) (e2:S'.known=S.known) (e3:S'.waiting=S.waiting) (e4:S'.under=S.under) (e5:S'.queue=S.queue):SesAt (w.setCell ⟨sb,i,none⟩ v) sb V' S':=by
 obtain ⟨n1,n2,n3,n4,_⟩:=h.own_ne
 have hk:∀ b,b≠sb→(w.setCell ⟨sb,i,none⟩ v).heap[b]?=w.heap[b]?:=fun b hb=>Below.heap_setCell _ _ _ _ (fun e=>hb e)
 refine ⟨by rw [blk_set _ h.blk,hc],?_,?_,?_,?_⟩
 · rw [h1,e1];exact own_keep h.fil (fun b hb=>hk b (fun e=>n1 (e ▸ hb)))
 · rw [h4,e4];exact own_keep h.und (fun b hb=>hk b (fun e=>n2 (e ▸ hb)))
 · rw [h2,e2]
   obtain ⟨D,⟨es,clock,hb,k1,k2,k3⟩,k4⟩:=h.kno
   exact ⟨D,⟨es,clock,(hk _ n3).trans hb,k1,k2,k3⟩,k4⟩
 · rw [h3,e3,e5]
   obtain ⟨s,r,hb⟩:=h.chn
   exact ⟨s,r,(hk _ n4).trans hb⟩
theorem neq_nilF (w:World):(binOp .neq 132 .nilFunc .nilFunc).run Tryz.prog w=.ok (.bool false) w:=by kernel_rfl
theorem neq_func (f:Fn) (a b:Array Value) (w:World):(binOp .neq 132 (.func f a b) .nilFunc).run Tryz.prog w=.ok (.bool true) w:=by kernel_rfl
theorem disconnect_any (sb:Nat) (V:SesV) (S:Ses) (w:World) (h:SesAt w sb V S) :
 Calls Tryz.prog 140 #[.pointer (some ⟨sb,0,none⟩)] w fun e w'=>e=.returned (.tuple #[])∧SesAt w' sb { V with snd:=none } S∧But (fun b=>b=sb) w w':=by
 have H:=hide h
 have c2:w.cell? ⟨sb,2,none⟩=some (sndV V.snd):=blk_cell h.blk rfl
 have f2:w.frozen? ⟨sb,2,none⟩=false:=blk_frozen h.blk
 clear h
 go_enter Tryz.func140,Tryz.ntmps140
 go_wp2
 go_end0
 exact ⟨rfl,H.out.set 2 .nilFunc rfl rfl rfl rfl rfl rfl rfl rfl rfl rfl,But.set (F:=fun b=>b=sb) w ⟨sb,2,none⟩ .nilFunc rfl⟩
theorem mayGo_any (sb:Nat) (V:SesV) (S:Ses) (w:World) (h:SesAt w sb V S) :
 Calls Tryz.prog 196 #[.pointer (some ⟨sb,0,none⟩)] w fun e w'=>e=.returned (.bool (V.snd.isSome && decide ((S.under.length:Int) < S.window)))∧Below w.heap.size w w':=by
 have c2:w.cell? ⟨sb,2,none⟩=some (sndV V.snd):=blk_cell h.blk rfl
 have c3:w.cell? ⟨sb,3,none⟩=some (.int .i64 S.window):=blk_cell h.blk rfl
 have c5:w.cell? ⟨sb,5,none⟩=some V.uv:=blk_cell h.blk rfl
 obtain ⟨q,cap,hq⟩:=own_form h.und
 rw [hq] at c5
 have hn1:=neq_nilF
 have hn2:=neq_func
 clear h hq
 cases hs:V.snd with
 | none =>
   rw [hs] at c2
   simp only [sndV] at c2
   go_enter Tryz.func196,Tryz.ntmps196
   go_wp2
   go_region
   go_wp2
   go_ret
   exact ⟨rfl,(Below.refl _ _).drew⟩
 | some xy =>
   obtain ⟨x,y⟩:=xy
   rw [hs] at c2
   simp only [sndV] at c2
   go_enter Tryz.func196,Tryz.ntmps196
   go_wp2
   go_region
   go_wp2
   go_ret
   exact ⟨rfl,(Below.refl _ _).drew⟩
def pkK (p:Pkt):Array Value:=#[.int .i64 p.kind,.bool p.clean,.bool p.will,.int .i64 p.keep,.string (bs p.client),.bool p.present,.int .i64 p.code,.bool p.dup,.int .i64 p.qos,.bool p.retain,.string (bs p.topic),.string (bs p.payload),.int .i64 p.id,p.fv,p.cv]
def zP:Pkt:=⟨0,false,false,0,[],false,0,false,0,false,[],[],0,.slice none 0 0,.slice none 0 0⟩
def ofS (p:Pkt):Msg:=⟨p.topic,p.payload,p.qos,p.retain⟩
def toldS (m:Msg) (qos:Int) (ret:Bool):Msg:={ m with qos:=min m.qos qos,retain:=ret }
def pktS (m:Msg) (id:Int):Pkt:={ zP with kind:=3,qos:=m.qos,retain:=m.retain,topic:=m.topic,payload:=m.payload,id:=id }
def relS (id:Int):Pkt:={ zP with kind:=6,id:=id }
set_option maxHeartbeats 800000 in
set_option maxRecDepth 100000 in
theorem of_any (p:Pkt) (w:World):Calls Tryz.prog 111 #[.agg (pkK p)] w fun e w'=>e=.returned (.agg #[.string (bs p.topic),.string (bs p.payload),.int .i64 p.qos,.bool p.retain])∧Below w.heap.size w w':=by
 simp only [pkK]
 go_enter Tryz.func111,Tryz.ntmps111
 go_wp2
 refine bodyPost_ret (v:=.agg #[.string (bs p.topic),.string (bs p.payload),.int .i64 p.qos,.bool p.retain]) (by simp [results,Tryz.results111,go_sem]) rfl ?_
 exact ⟨rfl,((Below.refl _ _).alloc (Nat.le_refl _) _).alloc (by simp) _⟩
set_option maxHeartbeats 800000 in
theorem told_any (m:Msg) (qos:Int) (ret:Bool) (w:World):Calls Tryz.prog 146 #[.agg #[.string (bs m.topic),.string (bs m.payload),.int .i64 m.qos,.bool m.retain],.int .i64 qos,.bool ret] w fun e w'=>e=.returned (.agg #[.string (bs m.topic),.string (bs m.payload),.int .i64 (min m.qos qos),.bool ret])∧Below w.heap.size w w':=by
 go_enter Tryz.func146,Tryz.ntmps146
 go_wp2
 · refine bodyPost_ret (v:=.agg #[.string (bs m.topic),.string (bs m.payload),.int .i64 qos,.bool ret]) (by simp [results,Tryz.results146,go_sem]) rfl ?_
   exact ⟨by rw [Int.min_eq_right (by omega)],((Below.refl _ _).alloc (Nat.le_refl _) _).alloc (by simp) _⟩
 · refine bodyPost_ret (v:=.agg #[.string (bs m.topic),.string (bs m.payload),.int .i64 m.qos,.bool ret]) (by simp [results,Tryz.results146,go_sem]) rfl ?_
   exact ⟨by rw [Int.min_eq_left (by omega)],((Below.refl _ _).alloc (Nat.le_refl _) _).alloc (by simp) _⟩
set_option maxHeartbeats 800000 in
theorem packet_any (m:Msg) (id:Int) (w:World):Calls Tryz.prog 195 #[.agg #[.string (bs m.topic),.string (bs m.payload),.int .i64 m.qos,.bool m.retain],.int .i64 id] w fun e w'=>e=.returned (.agg (pkK (pktS m id)))∧Below w.heap.size w w':=by
 go_enter Tryz.func195,Tryz.ntmps195
 go_wp2
 refine bodyPost_ret (v:=.agg (pkK (pktS m id))) (by simp [results,Tryz.results195,go_sem,pkK,pktS,zP,bs]) rfl ?_
 exact ⟨rfl,((Below.refl _ _).alloc (Nat.le_refl _) _).alloc (by simp) _⟩
set_option maxHeartbeats 800000 in
theorem pubrel_any (id:Int) (w:World):Calls Tryz.prog 211 #[.int .i64 id] w fun e w'=>e=.returned (.agg (pkK (relS id)))∧Below w.heap.size w w':=by
 go_enter Tryz.func211,Tryz.ntmps211
 go_wp2
 refine bodyPost_ret (v:=.agg (pkK (relS id))) (by simp [results,Tryz.results211,go_sem,pkK,relS,zP,bs]) rfl ?_
 exact ⟨rfl,(Below.refl _ _).alloc (Nat.le_refl _) _⟩
end br
end Go.Proofs.YtnmfmoimjkoieaaGreatDoor
