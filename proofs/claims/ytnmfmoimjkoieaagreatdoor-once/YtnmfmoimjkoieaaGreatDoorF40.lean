import Derived.Test.YtnmfmoimjkoieaaGreatDoorF32
import Derived.Test.YtnmfmoimjkoieaaGreatDoorF33
namespace Go.Proofs.YtnmfmoimjkoieaaGreatDoor
namespace kp
open Go.RowKit topPlain topWalks decPlain br
def numB (n:Nat):List UInt8:=[UInt8.ofNat (n / 250),UInt8.ofNat (n % 250)]
set_option maxHeartbeats 400000 in
set_option maxRecDepth 100000 in
theorem number_any (n:Nat) (w:World) (hn:n < 60000):Calls Tryz.prog 62 #[.int .i64 (n:Int)] w fun e w'=>e=.returned (.string (bs (numB n)))∧Below w.heap.size w w':=by
 have e1:n / 250 < 256:=by omega
 have e2:n % 250 < 256:=by omega
 have hcv:(convert 45 9 (.slice (some ⟨w.heap.size,0,none⟩) 2 2)).run Tryz.prog (w.alloc (.cells #[.int .u8 ((n:Int) / 250),.int .u8 ((n:Int) % 250)] 5))=.ok (.string (bs (numB n))) (w.alloc (.cells #[.int .u8 ((n:Int) / 250),.int .u8 ((n:Int) % 250)] 5)):=by
  have:=rd.conv_bytes (w:=w.alloc (.cells #[.int .u8 ((n:Int) / 250),.int .u8 ((n:Int) % 250)] 5)) (b:=w.heap.size) (off:=0) (cap:=2) (n:=2) (l:=numB n) (Nat.le_refl _) (fun j x hx=>?_)
  · exact this
  · rw [Nat.zero_add]
    match j,hx with
    | 0,hx =>
      simp [numB] at hx
      subst hx
      rw [UInt8.toNat_ofNat',Nat.mod_eq_of_lt (by omega)]
      exact cell_new _ _ _ (by simp)
    | 1,hx =>
      simp [numB] at hx
      subst hx
      rw [UInt8.toNat_ofNat',Nat.mod_eq_of_lt (by omega)]
      exact cell_new _ _ _ (by simp)
    | j+2,hx=>simp [numB] at hx
 go_enter Tryz.func62,Tryz.ntmps62
 go_wp2
 go_ret
 exact ⟨rfl,(Below.refl _ _).alloc (Nat.le_refl _) _⟩
def toldN (a b:UInt8):Int:=250*(a.toNat:Int)+(b.toNat:Int)
theorem toldN_num (n:Nat) (hn:n < 60000):toldN (UInt8.ofNat (n / 250)) (UInt8.ofNat (n % 250))=(n:Int):=by
 unfold toldN
 rw [UInt8.toNat_ofNat',UInt8.toNat_ofNat',Nat.mod_eq_of_lt (by omega),Nat.mod_eq_of_lt (by omega)]
 omega
set_option maxHeartbeats 400000 in
set_option maxRecDepth 100000 in
theorem told_two (a b:UInt8) (w:World):Calls Tryz.prog 92 #[.string ⟨#[a,b]⟩] w fun e w'=>e=.returned (.int .i64 (toldN a b))∧Below w.heap.size w w':=by
 have hs:(⟨#[a,b]⟩:ByteArray).size=2:=rfl
 have h1:=UInt8.toNat_lt a
 have h2:=UInt8.toNat_lt b
 go_enter Tryz.func92,Tryz.ntmps92
 go_wp2_with fail
 go_region
 all_goals
  go_wp2
  go_ret
  refine ⟨?_,below_drew _ _⟩
  show Ending.returned (.int .i64 (wrap64 (wrap64 (250*wrap64 (a.toNat:Int))+wrap64 (b.toNat:Int))))=_
  rw [Go.IntWalk.wrap64_in (a.toNat:Int) (by omega),Go.IntWalk.wrap64_in (b.toNat:Int) (by omega),Go.IntWalk.wrap64_in (250*(a.toNat:Int)) (by omega),Go.IntWalk.wrap64_in _ (by omega)]
  rfl
def pkL (p:Pkt):List Value:=(pkK p).toList
theorem pkL_len (p:Pkt):(pkL p).length=15:=rfl
theorem pkL_at {l:List Pkt} {k:Nat} {p:Pkt} (h:l[k]?=some p) (j:Nat) (hj:j < 15):(l.flatMap pkL)[k*15+j]?=(pkL p)[j]?:=by
 induction l generalizing k with
 | nil=>simp at h
 | cons a t ih =>
   cases k with
   | zero =>
     simp only [List.getElem?_cons_zero,Option.some.injEq] at h
     subst h
     rw [List.flatMap_cons,List.getElem?_append_left (by rw [pkL_len];omega)]
     simp
   | succ k =>
     simp only [List.getElem?_cons_succ] at h
     rw [List.flatMap_cons,List.getElem?_append_right (by rw [pkL_len];omega)]
     have:(k+1)*15+j - (pkL a).length=k*15+j:=by rw [pkL_len];omega
     rw [this]
     exact ih h
theorem pk_cell {w wr:World} {C g n kap:Nat} {l:List Pkt} (h:w.ownsRow C 36 15 (.slice (some ⟨g,0,none⟩) n kap) n (l.flatMap pkL)) {k:Nat} {p:Pkt} (hu:l[k]?=some p) (hn:l.length=n) (hb:wr.heap[g]?=w.heap[g]?) (j:Nat) (hj:j < 15) {x:Value} (hx:(pkL p)[j]?=some x):wr.cell? ⟨g,k*15+j,none⟩=some x:=by
 have hlt:=(List.getElem?_eq_some_iff.1 hu).1
 obtain ⟨g',e,_,_,_,hc⟩:=own_at h (by omega)
 cases e
 rw [World.cell?_of_block (w:=w) hb]
 exact hc _ _ (by rw [pkL_at hu j hj];exact hx)
set_option maxHeartbeats 800000 in
set_option maxRecDepth 100000 in
theorem find_any (b:Nat) (v:Value) (l:List Pkt) (id:Int) (w:World) (hc:w.cell? ⟨b,3,none⟩=some v) (hv:w.ownsRow 0 36 15 v l.length (l.flatMap pkL)) :
 Calls Tryz.prog 66 #[.pointer (some ⟨b,1,none⟩),.int .i64 id] w fun e w'=>e=.returned (.int .i64 (idx (fun p=>p.id == id) l))∧Below w.heap.size w w':=by
 obtain ⟨q,kap,rfl⟩:=own_form hv
 have HV:=hide hv
 have HC:=hide hc
 have hlt:=cell_blt hc
 simp only at hlt
 clear hv hc
 go_enter Tryz.func66,Tryz.ntmps66
 go_wp2_with fail
 go_loopw [5] (fun i wx=>∃ (k:Nat),k≤l.length∧i=.int .i64 k∧Below w.heap.size w wx∧∀ (j:Nat) y,j < k→l[j]?=some y→(y.id == id)=false) (fun i _=>l.length - (intOf i).toNat)
 case atStart=>exact ⟨0,Nat.zero_le _,rfl,Below.refl _ _,fun j y h=>by omega⟩
 case round =>
  obtain ⟨k,hk,rfl,hB,hno⟩:=hrel
  have HB:=hide hB
  have HN:=hide hno
  have c3:wr.cell? ⟨b,3,none⟩=some (.slice q l.length kap):=by rw [hB.cell hlt];exact HC.out
  clear hB hno
  by_cases hltk:k < l.length
  · obtain ⟨u,hu⟩:∃ u,l[k]?=some u:=⟨_,List.getElem?_eq_getElem hltk⟩
    obtain ⟨g,rfl,hg,hkc,hcm,_⟩:=own_at HV.out (by omega)
    unfold maxLen at hcm
    have h12:=pk_cell (wr:=wr) HV.out hu rfl (HB.out.block _ hg) 12 (by omega) rfl
    have HU:=hide hu
    clear hu
    by_cases hp:(u.id == id)=true
    · have hp2:u.id=id:=beq_iff_eq.1 hp
      have HP:=hide hp
      rw [hp2] at h12
      clear hp hp2
      go_wp2
      go_ret
      exact ⟨by rw [idx_some HU.out HP.out HN.out];rfl,HB.out⟩
    · have hp':(u.id == id)=false:=by simpa using hp
      have HP:=hide hp'
      go_wp2
      exact ⟨⟨k+1,by omega,by go_num,HB.out,fun j y hj hy=>by
       by_cases e:j=k
       · subst e;have:=HU.out;rw [this] at hy;cases hy;exact HP.out
       · exact HN.out j y (by omega) hy⟩,by simp [intOf];omega⟩
  · go_wp2
    go_ret
    exact ⟨by rw [idx_none (fun j x hj=>HN.out j x (by have:=(List.getElem?_eq_some_iff.1 hj).1;omega) hj)];rfl,HB.out⟩
def lstP (p:Pkt) (f1:Option Addr) (f2 f3:Nat) (c1:Option Addr) (c2 c3:Nat):Array Value:=#[.int .i64 p.kind,.bool p.clean,.bool p.will,.int .i64 p.keep,.string (bs p.client),.bool p.present,.int .i64 p.code,.bool p.dup,.int .i64 p.qos,.bool p.retain,.string (bs p.topic),.string (bs p.payload),.int .i64 p.id,.slice f1 f2 f3,.slice c1 c2 c3]
def Shaped (p:Pkt):Prop:=(∃ a b c,p.fv=.slice a b c)∧∃ a b c,p.cv=.slice a b c
theorem shut_skip {l:List Pkt} {k a:Nat} {u:Pkt} (hu:l[k]?=some u) (h:k=a):(l.take (k+1)).eraseIdx a=(l.take k).eraseIdx a:=by
 subst h
 have hl:=(List.getElem?_eq_some_iff.1 hu).1
 have e:k - (l.take k).length=0:=by rw [List.length_take];omega
 rw [List.take_add_one,hu,List.eraseIdx_append_of_length_le (by rw [List.length_take];omega),e]
 show l.take k ++ []=_
 rw [List.append_nil,List.eraseIdx_of_length_le (by rw [List.length_take];omega)]
theorem shut_keep {l:List Pkt} {k a:Nat} {u:Pkt} (hu:l[k]?=some u) (h:k≠a):(l.take (k+1)).eraseIdx a=(l.take k).eraseIdx a ++ [u]:=by
 have hl:=(List.getElem?_eq_some_iff.1 hu).1
 rw [List.take_add_one,hu]
 by_cases ha:a < k
 · rw [List.eraseIdx_append_of_lt_length (by rw [List.length_take];omega)]
   rfl
 · rw [List.eraseIdx_append_of_length_le (by rw [List.length_take];omega),List.eraseIdx_of_length_le (l:=l.take k) (by rw [List.length_take];omega),List.eraseIdx_of_length_le (by simp;omega)]
   rfl
set_option maxHeartbeats 1600000 in
set_option maxRecDepth 100000 in
theorem shut_any (b at_:Nat) (v:Value) (l:List Pkt) (w:World) (hc:w.cell? ⟨b,3,none⟩=some v) (hfz:w.frozen? ⟨b,3,none⟩=false) (hv:w.ownsRow 0 36 15 v l.length (l.flatMap pkL)) (hsh:∀ p∈l,Shaped p) (hlen:l.length≤1000000) (hat:at_ < l.length) :
 Calls Tryz.prog 67 #[.pointer (some ⟨b,1,none⟩),.int .i64 (at_:Int)] w fun e w'=>e=.returned (.tuple #[])∧∃ v' w1,Below w.heap.size w w1∧w1.ownsRow w.heap.size 36 15 v' (l.eraseIdx at_).length ((l.eraseIdx at_).flatMap pkL)∧w'=w1.setCell ⟨b,3,none⟩ v':=by
 obtain ⟨q,kap,rfl⟩:=own_form hv
 have HV:=hide hv
 have HC:=hide hc
 have HFZ:=hide hfz
 have HSH:=hide hsh
 have hlt:=cell_blt hc
 simp only at hlt
 obtain ⟨i0,hi0,hz0,hz1,hz2⟩:=info_parts infoPkt
 clear hv hc hfz hsh
 go_enter Tryz.func67,Tryz.ntmps67
 go_wp2_with fail
 go_loopw [4,5] (fun lv i wx=>∃ (k:Nat),k≤l.length∧i=.int .i64 k∧Below w.heap.size w wx∧wx.ownsRow w.heap.size 36 15 lv ((l.take k).eraseIdx at_).length (((l.take k).eraseIdx at_).flatMap pkL)) (fun _ i _=>l.length - (intOf i).toNat)
 case atStart=>exact ⟨0,Nat.zero_le _,rfl,Below.refl _ _,by simp;exact ⟨rfl,Or.inl ⟨rfl,rfl⟩⟩⟩
 case round =>
  obtain ⟨k,hk,rfl,hB,hO⟩:=hrel
  have HB:=hide hB
  have HO:=hide hO
  have c3:wr.cell? ⟨b,3,none⟩=some (.slice q l.length kap):=by rw [hB.cell hlt];exact HC.out
  have f3:wr.frozen? ⟨b,3,none⟩=false:=by rw [hB.frozen hlt];exact HFZ.out
  have hsz:=hB.size
  clear hB hO
  by_cases hltk:k < l.length
  · obtain ⟨u,hu⟩:∃ u,l[k]?=some u:=⟨_,List.getElem?_eq_getElem hltk⟩
    have HU:=hide hu
    by_cases hka:k=at_
    · have hkb:((k:Int) != (at_:Int))=false:=by simp [hka]
      have HKA:=hide hka
      clear hu
      go_wp2
      exact ⟨⟨k+1,by omega,by go_num,HB.out,by rw [shut_skip HU.out HKA.out];exact HO.out⟩,by simp [intOf];omega⟩
    · have hkb:((k:Int) != (at_:Int))=true:=by simp;omega
      obtain ⟨g,rfl,hg,hkc,hcm,_⟩:=own_at HV.out (by omega)
      unfold maxLen at hcm
      obtain ⟨⟨f1,f2,f3',hfv⟩,⟨c1,c2,c3',hcv⟩⟩:=HSH.out u (List.mem_of_getElem? hu)
      have h0:wr.cell? ⟨g,k*15,none⟩=some (.int .i64 u.kind):=pk_cell (wr:=wr) HV.out hu rfl (HB.out.block _ hg) 0 (by omega) (by rfl)
      have h1:wr.cell? ⟨g,k*15+1,none⟩=some (.bool u.clean):=pk_cell (wr:=wr) HV.out hu rfl (HB.out.block _ hg) 1 (by omega) (by rfl)
      have h2:wr.cell? ⟨g,k*15+2,none⟩=some (.bool u.will):=pk_cell (wr:=wr) HV.out hu rfl (HB.out.block _ hg) 2 (by omega) (by rfl)
      have h3:wr.cell? ⟨g,k*15+3,none⟩=some (.int .i64 u.keep):=pk_cell (wr:=wr) HV.out hu rfl (HB.out.block _ hg) 3 (by omega) (by rfl)
      have h4:wr.cell? ⟨g,k*15+4,none⟩=some (.string (bs u.client)):=pk_cell (wr:=wr) HV.out hu rfl (HB.out.block _ hg) 4 (by omega) (by rfl)
      have h5:wr.cell? ⟨g,k*15+5,none⟩=some (.bool u.present):=pk_cell (wr:=wr) HV.out hu rfl (HB.out.block _ hg) 5 (by omega) (by rfl)
      have h6:wr.cell? ⟨g,k*15+6,none⟩=some (.int .i64 u.code):=pk_cell (wr:=wr) HV.out hu rfl (HB.out.block _ hg) 6 (by omega) (by rfl)
      have h7:wr.cell? ⟨g,k*15+7,none⟩=some (.bool u.dup):=pk_cell (wr:=wr) HV.out hu rfl (HB.out.block _ hg) 7 (by omega) (by rfl)
      have h8:wr.cell? ⟨g,k*15+8,none⟩=some (.int .i64 u.qos):=pk_cell (wr:=wr) HV.out hu rfl (HB.out.block _ hg) 8 (by omega) (by rfl)
      have h9:wr.cell? ⟨g,k*15+9,none⟩=some (.bool u.retain):=pk_cell (wr:=wr) HV.out hu rfl (HB.out.block _ hg) 9 (by omega) (by rfl)
      have h10:wr.cell? ⟨g,k*15+10,none⟩=some (.string (bs u.topic)):=pk_cell (wr:=wr) HV.out hu rfl (HB.out.block _ hg) 10 (by omega) (by rfl)
      have h11:wr.cell? ⟨g,k*15+11,none⟩=some (.string (bs u.payload)):=pk_cell (wr:=wr) HV.out hu rfl (HB.out.block _ hg) 11 (by omega) (by rfl)
      have h12:wr.cell? ⟨g,k*15+12,none⟩=some (.int .i64 u.id):=pk_cell (wr:=wr) HV.out hu rfl (HB.out.block _ hg) 12 (by omega) (by rfl)
      have h13:wr.cell? ⟨g,k*15+13,none⟩=some (.slice f1 f2 f3'):=pk_cell (wr:=wr) HV.out hu rfl (HB.out.block _ hg) 13 (by omega) (by show some u.fv=_;rw [hfv])
      have h14:wr.cell? ⟨g,k*15+14,none⟩=some (.slice c1 c2 c3'):=pk_cell (wr:=wr) HV.out hu rfl (HB.out.block _ hg) 14 (by omega) (by show some u.cv=_;rw [hcv])
      have HKA:=hide hka
      have HFV:=hide hfv
      have HCV:=hide hcv
      clear hu hka hfv hcv
      obtain ⟨q4,k4,hq4⟩:=own_form HO.out
      have HO4:=HO.out
      rw [hq4] at HO4
      have HOO:=hide HO4
      have hkl:((l.take k).eraseIdx at_).length≤1000000:=Nat.le_trans (List.length_eraseIdx_le _ _) (by rw [List.length_take];omega)
      clear HO4
      rw [hq4]
      go_wp2_with (first
       | (at_builtin;refine wpList_append_own_at _ rfl _ _ 56 rfl w.heap.size 36 i0 _ 15 168 Tryz.underlying56 hi0 hz0 hz1 hz2 rfl (by decide) (.slice q4 ((l.take k).eraseIdx at_).length k4) ((l.take k).eraseIdx at_).length (((l.take k).eraseIdx at_).flatMap pkL) rfl (own_below4 HOO.out ((Below.refl _ _).alloc (Nat.le_refl _) _)) ⟨wr.heap.size,0,none⟩ 1 1 _ rfl rfl (news_new _ _ _) ?c2 ?c3 ?c4 ?c5 ?_))
      case c2=>simp [Value.oneCell']
      case c3=>unfold maxLen;omega
      case c4=>omega
      case c5=>simp;omega
      intro v5 w5 hown5 hgrow5 _ _
      have hA5:=(Below.refl wr.heap.size wr).alloc (Nat.le_refl _) (.cells (lstP u f1 f2 f3' c1 c2 c3') 36)
      have hB5:Below w.heap.size w w5:=(HB.out.trans (hA5.mono hsz)).trans ((But.of_grown (F:=fun g=>w.heap.size≤g) hgrow5 (fun g hg'=>(own_zero HOO.out).2 g hg')).below (fun _ h=>h) (by simp;omega))
      have hO5:w5.ownsRow w.heap.size 36 15 v5 ((l.take (k+1)).eraseIdx at_).length (((l.take (k+1)).eraseIdx at_).flatMap pkL):=by
       rw [shut_keep HU.out HKA.out,List.length_append,List.flatMap_append]
       have hpk:[u].flatMap pkL=(lstP u f1 f2 f3' c1 c2 c3').toList:=by simp [pkL,pkK,lstP,HFV.out,HCV.out]
       rw [hpk]
       exact hown5
      have HB5:=hide hB5
      have HO5:=hide hO5
      clear hown5 hgrow5 hA5 hB5 hO5
      go_wp2
      exact ⟨⟨k+1,by omega,by go_num,HB5.out,HO5.out⟩,by simp [intOf];omega⟩
  · have hkl:k=l.length:=by omega
    subst hkl
    obtain ⟨q9,k9,hq9⟩:=own_form HO.out
    have HQ9:=hide hq9
    rw [hq9]
    clear hq9
    go_wp2
    go_end0
    refine ⟨rfl,_,wr,HB.out,?_,rfl⟩
    have:=HO.out
    rw [HQ9.out,List.take_length] at this
    exact this
end kp
namespace kp
open Go.RowKit topPlain topWalks decPlain br
open rd (ints)
structure StgV where
 lb:Nat
 tv:Value
 again:Int
 pv:Value
 sv:Value
 id:Int
 win:Int
 que:Int
def stgC (V:StgV):Array Value:=#[.pointer (some ⟨V.lb,0,none⟩),V.tv,.int .i64 V.again,V.pv,V.sv,.int .i64 V.id,.int .i64 V.win,.int .i64 V.que]
structure StgAt (w:World) (b:Nat) (V:StgV) (T:List Int) (O:List Pkt) (Sn:List Int):Prop where
 blk:w.heap[b]?=some (.cells (stgC V) 77)
 told:w.ownsRow 0 3 1 V.tv T.length (ints T)
 opn:w.ownsRow 0 36 15 V.pv O.length (O.flatMap pkL)
 sent:w.ownsRow 0 3 1 V.sv Sn.length (ints Sn)
 shp:∀ p∈O,Shaped p
 ne:∀ g,V.tv.ownBlock=some g→V.sv.ownBlock≠some g
def StgV.has (V:StgV) (b g:Nat):Prop:=g=b∨V.tv.ownBlock=some g∨V.pv.ownBlock=some g∨V.sv.ownBlock=some g
theorem StgAt.keep {w w':World} {b:Nat} {V:StgV} {T:List Int} {O:List Pkt} {Sn:List Int} (h:StgAt w b V T O Sn) (hk:∀ g,V.has b g→w'.heap[g]?=w.heap[g]?):StgAt w' b V T O Sn:=
 ⟨(hk b (Or.inl rfl)).trans h.blk,own_keep h.told (fun g hg=>hk g (Or.inr (Or.inl hg))),own_keep h.opn (fun g hg=>hk g (Or.inr (Or.inr (Or.inl hg)))),own_keep h.sent (fun g hg=>hk g (Or.inr (Or.inr (Or.inr hg)))),h.shp,h.ne⟩
theorem StgAt.lt {w:World} {b:Nat} {V:StgV} {T:List Int} {O:List Pkt} {Sn:List Int} (h:StgAt w b V T O Sn) {g:Nat} (hg:V.has b g):g < w.heap.size:=by
 rcases hg with rfl | hg | hg | hg
 · exact blk_lt h.blk
 · obtain ⟨c,hc⟩:=own_blk h.told hg;exact blk_lt hc
 · obtain ⟨c,hc⟩:=own_blk h.opn hg;exact blk_lt hc
 · obtain ⟨c,hc⟩:=own_blk h.sent hg;exact blk_lt hc
theorem StgAt.below {w w':World} {b:Nat} {V:StgV} {T:List Int} {O:List Pkt} {Sn:List Int} (h:StgAt w b V T O Sn) (hb:Below w.heap.size w w'):StgAt w' b V T O Sn:=h.keep (fun g hg=>hb.block g (h.lt hg))
theorem StgAt.but {F:Nat→Prop} {w w':World} {b:Nat} {V:StgV} {T:List Int} {O:List Pkt} {Sn:List Int} (h:StgAt w b V T O Sn) (hb:But F w w') (hn:∀ g,V.has b g→¬ F g):StgAt w' b V T O Sn:=h.keep (fun g hg=>hb.keep g (h.lt hg) (hn g hg))
theorem StgAt.own_ne {w:World} {b:Nat} {V:StgV} {T:List Int} {O:List Pkt} {Sn:List Int} (h:StgAt w b V T O Sn):V.tv.ownBlock≠some b∧V.pv.ownBlock≠some b∧V.sv.ownBlock≠some b∧(∀ g,V.pv.ownBlock=some g→V.tv.ownBlock≠some g∧V.sv.ownBlock≠some g):=by
 refine ⟨fun e=>?_,fun e=>?_,fun e=>?_,fun g hg=>⟨fun e=>?_,fun e=>?_⟩⟩
 · obtain ⟨c,hc⟩:=own_blk h.told e;have:=h.blk;rw [hc] at this;simp at this
 · obtain ⟨c,hc⟩:=own_blk h.opn e;have:=h.blk;rw [hc] at this;simp at this
 · obtain ⟨c,hc⟩:=own_blk h.sent e;have:=h.blk;rw [hc] at this;simp at this
 · obtain ⟨c,hc⟩:=own_blk h.opn hg;obtain ⟨c2,hc2⟩:=own_blk h.told e;rw [hc] at hc2;simp at hc2
 · obtain ⟨c,hc⟩:=own_blk h.opn hg;obtain ⟨c2,hc2⟩:=own_blk h.sent e;rw [hc] at hc2;simp at hc2
theorem StgAt.setTold {w w5:World} {b:Nat} {V:StgV} {T T':List Int} {O:List Pkt} {Sn:List Int} {v5:Value} (h:StgAt w b V T O Sn) (hb:But (fun g=>V.tv.ownBlock=some g) w w5) (ho:w5.ownsRow 0 3 1 v5 T'.length (ints T')) (hv:v5.ownBlock=V.tv.ownBlock∨∃ g,v5.ownBlock=some g∧w.heap.size≤g):StgAt (w5.setCell ⟨b,1,none⟩ v5) b { V with tv:=v5 } T' O Sn:=by
 obtain ⟨n1,n2,n3,n4⟩:=h.own_ne
 have hblk:w5.heap[b]?=some (.cells (stgC V) 77):=hb.blk (fun e=>n1 e) h.blk
 have hk:∀ g,g≠b→(w5.setCell ⟨b,1,none⟩ v5).heap[g]?=w5.heap[g]?:=fun g hg=>Below.heap_setCell _ _ _ _ (fun e=>hg e)
 refine ⟨by rw [blk_set _ hblk];rfl,own_keep ho (fun g hg=>hk g (fun e=>?_)),own_keep h.opn (fun g hg=>(hk g (fun e=>n2 (e ▸ hg))).trans (hb.keep g (h.lt (Or.inr (Or.inr (Or.inl hg)))) (fun e=>(n4 g hg).1 e))),own_keep h.sent (fun g hg=>(hk g (fun e=>n3 (e ▸ hg))).trans (hb.keep g (h.lt (Or.inr (Or.inr (Or.inr hg)))) (fun e=>h.ne g e hg))),h.shp,fun g hg=>?_⟩
 · obtain ⟨c,hc⟩:=own_blk ho hg;rw [e,hblk] at hc;simp at hc
 · rcases hv with e | ⟨g',e1,e2⟩
   · exact h.ne g (e ▸ hg)
   · have hg2:v5.ownBlock=some g:=hg
     rw [e1] at hg2
     cases hg2
     intro hs
     have:=h.lt (Or.inr (Or.inr (Or.inr hs)))
     omega
theorem StgAt.setOpn {w w5:World} {b:Nat} {V:StgV} {T:List Int} {O O':List Pkt} {Sn:List Int} {v5:Value} (h:StgAt w b V T O Sn) (hb:But (fun g=>V.pv.ownBlock=some g) w w5) (ho:w5.ownsRow 0 36 15 v5 O'.length (O'.flatMap pkL)) (hsh:∀ p∈O',Shaped p):StgAt (w5.setCell ⟨b,3,none⟩ v5) b { V with pv:=v5 } T O' Sn:=by
 obtain ⟨n1,n2,n3,n4⟩:=h.own_ne
 have hblk:w5.heap[b]?=some (.cells (stgC V) 77):=hb.blk (fun e=>n2 e) h.blk
 have hk:∀ g,g≠b→(w5.setCell ⟨b,3,none⟩ v5).heap[g]?=w5.heap[g]?:=fun g hg=>Below.heap_setCell _ _ _ _ (fun e=>hg e)
 refine ⟨by rw [blk_set _ hblk];rfl,own_keep h.told (fun g hg=>(hk g (fun e=>n1 (e ▸ hg))).trans (hb.keep g (h.lt (Or.inr (Or.inl hg))) (fun e=>(n4 g e).1 hg))),own_keep ho (fun g hg=>hk g (fun e=>?_)),own_keep h.sent (fun g hg=>(hk g (fun e=>n3 (e ▸ hg))).trans (hb.keep g (h.lt (Or.inr (Or.inr (Or.inr hg)))) (fun e=>(n4 g e).2 hg))),hsh,h.ne⟩
 obtain ⟨c,hc⟩:=own_blk ho hg;rw [e,hblk] at hc;simp at hc
set_option maxHeartbeats 800000 in
set_option maxRecDepth 100000 in
theorem sees_none (b:Nat) (q:Option Addr) (c:Nat) (w:World):Calls Tryz.prog 63 #[.pointer (some ⟨b,1,none⟩),.slice q 0 c,.bool false] w fun e w'=>e=.returned (.bool true)∧Below w.heap.size w w':=by
 go_enter Tryz.func63,Tryz.ntmps63
 go_wp2_with fail
 go_loopw [7] (fun i wx=>i=.int .i64 0∧wx=w) (fun _ _=>0)
 case atStart=>exact ⟨rfl,rfl⟩
 case round =>
  obtain ⟨rfl,rfl⟩:=hrel
  go_wp2
  go_ret
  exact ⟨rfl,Below.refl _ _⟩
end kp
end Go.Proofs.YtnmfmoimjkoieaaGreatDoor
