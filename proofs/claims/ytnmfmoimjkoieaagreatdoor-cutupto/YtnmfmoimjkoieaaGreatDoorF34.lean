import Derived.Test.YtnmfmoimjkoieaaGreatDoorF33
import Derived.Test.YtnmfmoimjkoieaaGreatDoorF26
import Derived.Test.YtnmfmoimjkoieaaGreatDoorF32
import Derived.Test.YtnmfmoimjkoieaaGreatDoorF31
import Derived.Test.YtnmfmoimjkoieaaGreatDoorF27
import Derived.Test.YtnmfmoimjkoieaaGreatDoorF28
import Derived.Test.YtnmfmoimjkoieaaGreatDoorF24
import Derived.Test.YtnmfmoimjkoieaaGreatDoorF25
namespace Go.Proofs.YtnmfmoimjkoieaaGreatDoor
namespace br
open Go.RowKit topPlain topWalks decPlain rd ew encPlain rf
theorem ConAt.ty {w:World} {B:Nat} {n:Int} {V:ConV} {C:Con} (h:ConAt w B n V C) {b:Nat} (hb:V.has b):∃ c t,w.heap[b]?=some (.cells c t)∧t≠188∧t≠95∧t≠252:=by
 rcases hb with rfl | hw | rfl | rfl | rfl | rfl
 · exact ⟨_,_,h.blk,by decide⟩
 · obtain ⟨cur,hc⟩:=own_blk h.wai hw;exact ⟨_,_,hc,by decide⟩
 · exact ⟨_,_,h.b1.bx,by decide⟩
 · exact ⟨_,_,h.b1.by_,by decide⟩
 · exact ⟨_,_,h.b2.bx,by decide⟩
 · exact ⟨_,_,h.b2.by_,by decide⟩
theorem Side.pre {w w1:World} {B k:Nat} {BV:BrV} {X:SideV} {p:Pkt} {S:Ses} {fs:List (List UInt8×Int)} {cs:List Int} {fv cv:Value} (h:Side w B k X p S) (hclk:BV.clk=0) (hpre:ReadPre w B k BV X.cv ⟨[],0,some p⟩ fs cs w1 fv cv):Side w1 B k X p S:=by
 have hne:∀ {b:Nat} {c:Array Value} {t:TypeId},w.heap[b]?=some (.cells c t)→t≠137→w1.heap[b]?=w.heap[b]?:=fun hb ht=>hpre.but.keep _ (blk_lt hb) (fun e=>by subst e;have:=h.con.blk;rw [hb] at this;simp at this;exact ht this.2)
 exact ⟨by have:=hpre.con;rw [hclk] at this;exact this,h.wv,h.ses.but hpre.but (fun b hb e=>by subst e;exact h.ses.not h.con.blk (by decide) hb),h.snd,(hne h.snk.bx (by decide)).trans h.snk.bx,(hne h.snk.by_ (by decide)).trans h.snk.by_,_,hpre.con.blk,(conC_at _ _ _).1⟩
theorem Side.post {w:World} {B k N:Nat} {X:SideV} {p:Pkt} {S:Ses} {q:Option Addr} (h:Side w B k X p S) (hv:w.ownsRow N 5 1 (.slice q 0 0) 0 []):Side (w.setCell ⟨X.cv.cb,1,none⟩ (.slice q 0 0)) B k ⟨{ X.cv with wv:=.slice q 0 0 },X.sv,X.x,X.y⟩ p S:=
 ⟨h.con.cleared rfl hv,⟨q,rfl⟩,h.ses.but (But.set (F:=fun g=>g=X.cv.cb) _ _ _ rfl) (fun b hb e=>by subst e;exact h.ses.not h.con.blk (by decide) hb),h.snd,h.snk.cleared _⟩
theorem Side.work {w w':World} {B k:Nat} {X:SideV} {p:Pkt} {S S':Ses} {F:Nat→Prop} {V':SesV} (h:Side w B k X p S) (hb:But F w w') (hn:∀ g,F g→¬ X.cv.has g∧g≠X.x∧g≠X.y) (hs:SesAt w' X.cv.sp V' S') (hV:V'.snd=X.sv.snd):Side w' B k ⟨X.cv,V',X.x,X.y⟩ p S':=
 ⟨h.con.but hb (fun b hx f=>(hn b f).1 hx),h.wv,hs,hV.trans h.snd,h.snk.keep (hb.keep _ (blk_lt h.snk.bx) (fun f=>(hn _ f).2.1 rfl)) (hb.keep _ (blk_lt h.snk.by_) (fun f=>(hn _ f).2.2 rfl)) (hb.keep _ (blk_lt h.con.blk) (fun f=>(hn _ f).1 (Or.inl rfl)))⟩
theorem Side.apart {w:World} {B k sb:Nat} {X:SideV} {p:Pkt} {S S2:Ses} {V2:SesV} (h:Side w B k X p S) (hs:SesAt w sb V2 S2) {g:Nat} (hg:V2.has sb g):¬ X.cv.has g∧g≠X.x∧g≠X.y:=by
 refine ⟨fun hx=>?_,fun e=>?_,fun e=>?_⟩
 · obtain ⟨c,t,hc,ht⟩:=h.con.ty hx;exact hs.not hc ht hg
 · subst e;exact hs.not h.snk.bx (by decide) hg
 · subst e;exact hs.not h.snk.by_ (by decide) hg
theorem Side.notB {w:World} {B k:Nat} {X:SideV} {p:Pkt} {S:Ses} {c:Array Value} (h:Side w B k X p S) (hB:w.heap[B]?=some (.cells c 131)):¬ X.has B:=h.not hB (by decide) (by decide)
theorem intV_own {w:World} {C:Nat} {v:Value} {x:Int} (h:w.ownsRow C 3 1 v 1 [.int .i64 x]):IntV w v [x]:=by
 obtain ⟨q,cap,rfl⟩:=own_form h
 obtain ⟨g,rfl,h1,h2,h3,h4⟩:=own_at h (by omega)
 refine ⟨_,cap,rfl,by simp [maxLen],fun j c hj=>⟨g,rfl,h1,?_⟩⟩
 obtain ⟨rfl,rfl⟩:j=0∧c=x:=by
  match j,hj with
  | 0,hj=>simp at hj;exact ⟨rfl,hj.symm⟩
  | n+1,hj=>simp at hj
 exact h4 0 _ rfl
def SideS (B k:Nat) (ph:Pkt) (X:SideV) (S:Ses) (w w':World):Prop:=
 ∃ X',Side w' B k X' ph S∧X'.cv.cb=X.cv.cb∧X'.cv.sp=X.cv.sp∧X'.sv.kb=X.sv.kb∧(∀ g,X'.has g→X.has g∨w.heap.size≤g)∧But (fun g=>g=B∨X.has g) w w'
def FdS (B k:Nat) (ph:Pkt) (d:List UInt8) (BV:BrV) (X:SideV) (S:Ses) (w w':World) (ov:Value) (L:List (OutS×Value)):Prop:=
 (∃ dv,L = [(⟨(k:Int),d,false⟩,dv)])∧OutsAt w' ov L∧BlkAt w' B BV (.slice none 0 0) []∧SideS B k ph X S w w'
theorem feed_sub {N0:Nat} {ash aw:Addr} (B k:Nat) (p ph:Pkt) (f:List UInt8×Int) (l d:List UInt8) (BV:BrV) (X:SideV) (S:Ses) (F':List (List UInt8×Int)) (db dc:Nat) (w:World) (hG:Gd N0 ash aw w) (h:BlkAt w B BV (.slice none 0 0) []) (hS:Side w B k X ph S) (hX0:∀ g,X.has g→N0≤g) (hNB:N0≤B) (hk:k < 8) (hv:BV.cv k=.pointer (some ⟨X.cv.cb,0,none⟩)) (hclk:BV.clk=0) (hrv:BV.rv=.slice none 0 0) (hl0:0 < l.length) (hl:l.length≤1000000)
 (hd:∀ j x,l[j]?=some x→w.cell? ⟨db,0+j,none⟩=some (.int .u8 (x.toNat:Int))) (hdec:decL l=.inr ((p,[f],[]),l.length)) (hkind:p.kind=8) (htk:takeS S.filters f=some F') (hdd:∀ cv,encD (subS p.id cv) [] [f.2]=d) :
 Calls Tryz.prog 24 #[.pointer (some ⟨B,0,none⟩),.int .i64 (k:Int),.slice (some ⟨db,0,none⟩) l.length dc] w fun e w'=>∃ ov L,e=.returned (.tuple #[ov,.int .i64 0])∧FdS B k ph d BV X { S with filters:=F' } w w' ov L:=by
 obtain ⟨HP,hHP⟩:∃ HP:World→World→Prop,HP=fun w1 w2=>∃ fv' ov' dv,But (fun g=>X.sv.has X.cv.sp g∨g=B) w1 w2∧SesAt w2 X.cv.sp { X.sv with fv:=fv' } { S with filters:=F' }∧BlkAt w2 B BV ov' [(⟨(k:Int),d,false⟩,dv)]∧(fv'.ownBlock=X.sv.fv.ownBlock∨∃ b,fv'.ownBlock=some b∧w1.heap.size≤b):=⟨_,rfl⟩
 have hcb0:N0≤X.cv.cb:=hX0 _ (Or.inl (Or.inl rfl))
 have hs0:∀ g,X.sv.has X.cv.sp g→N0≤g:=fun g hg=>hX0 g (Or.inr (Or.inl hg))
 have gd1:∀ w' w1 fv cv,Below w.heap.size w w'→ReadPre w' B k BV X.cv ⟨[],0,some ph⟩ [f] [] w1 fv cv→Gd N0 ash aw w1:=fun w' w1 fv cv hb hpre=>by
  have hG':Gd N0 ash aw w':=hG.below (hb.mono hG.env.size)
  exact hG'.below (hpre.but.below (fun b e=>by subst e;exact hcb0) hG'.env.size)
 have hread:∀ w',Below w.heap.size w w'→Calls Tryz.prog 59 #[.pointer (some ⟨B,0,none⟩),.pointer (some ⟨X.cv.cb,0,none⟩),.slice (some ⟨db,0,none⟩) l.length dc] w' (ReadPost w' B k BV X.cv ⟨[],0,some ph⟩ [f] [] HP):=by
  intro w' hb
  refine read_sub (N0:=N0) (ash:=ash) (aw:=aw) B k BV X.cv ⟨[],0,some ph⟩ p [f] [] l db 0 dc w' HP (hG.below (hb.mono hG.env.size)) (h.below hb) (hS.below hb).con rfl hS.wv ⟨_,rfl⟩ hk hv hl0 hl (fun j x hx=>by have:=hd j x hx;rw [hb.cell (cell_blt this)];exact this) hdec hkind (fun g hg=>hX0 g (Or.inl hg)) ?_ ?_
  · intro w1 fv cv hpre
    have hG1:=gd1 w' w1 fv cv hb hpre
    have hS1:=(hS.below hb).pre hclk hpre
    obtain ⟨f1,f3,rfl⟩:=own_form hpre.fil
    obtain ⟨c1,c3,rfl⟩:=own_form hpre.cod
    obtain ⟨g,rfl,hg1,_,_,hg⟩:=own_at hpre.fil (by simp)
    refine h_sub B X.cv.cb X.cv.x' X.cv.y' { p with fv:=.slice (some ⟨g,0,none⟩) [f].length f3,cv:=.slice c1 ([]:List Int).length c3 } w1 _ hS1.con.b2 ⟨_,_,_,rfl⟩ ⟨_,_,_,rfl⟩ ?_
    intro w1' hb1
    have hG1':Gd N0 ash aw w1':=hG1.below (hb1.mono hG1.env.size)
    have hS1':=hS1.below hb1
    have hB1':=hpre.blk.below hb1
    have hfil:=own_below4 hpre.fil hb1
    have hncb:¬ X.sv.has X.cv.sp X.cv.cb:=hS1'.ses.not hS1'.con.blk (by decide)
    have hcbB:X.cv.cb≠B:=fun e=>by have h1:=hS1'.con.blk;have h2:=hB1'.blk;rw [e,h2] at h1;simp at h1
    have c18:w1'.cell? ⟨X.cv.cb,18,none⟩=some (.pointer (some ⟨X.cv.sp,0,none⟩)):=blk_cell hS1'.con.blk (conC_at _ _ _).2.2.2.1
    have c0:w1'.cell? ⟨X.cv.cb,0,none⟩=some (.int .i64 (k:Int)):=blk_cell hS1'.con.blk (conC_at _ _ _).1
    have hnsB:¬ X.sv.has X.cv.sp B:=fun hh=>hS1'.notB hB1'.blk (Or.inr (Or.inl hh))
    have hlts:∀ b,X.sv.has X.cv.sp b→b < w1'.heap.size:=fun b hb'=>hS1'.ses.lt hb'
    have hltB:=blk_lt hB1'.blk
    refine subscribe_one B X.cv.cb X.cv.sp g f3 f { p with fv:=.slice (some ⟨g,0,none⟩) 1 f3,cv:=.slice c1 0 c3 } w1' (fun a=>∃ fv',But (fun g=>X.sv.has X.cv.sp g) w1' a∧SesAt a X.cv.sp { X.sv with fv:=fv' } { S with filters:=F' }∧(fv'.ownBlock=X.sv.fv.ownBlock∨∃ b,fv'.ownBlock=some b∧w1'.heap.size≤b)) (fun a=>∃ fv' ov' dv,But (fun g=>X.sv.has X.cv.sp g∨g=B) w1' a∧SesAt a X.cv.sp { X.sv with fv:=fv' } { S with filters:=F' }∧BlkAt a B BV ov' [(⟨(k:Int),d,false⟩,dv)]∧(fv'.ownBlock=X.sv.fv.ownBlock∨∃ b,fv'.ownBlock=some b∧w1'.heap.size≤b)) _ c1 0 c3 rfl rfl c18 (by rw [hb1.cell hg1];exact hg 0 _ rfl) (by rw [hb1.cell hg1];exact hg 1 _ rfl) ?_ ?_ ?_ ?_ ?_ ?_ ?_
    · intro a ha
      refine (take_any X.cv.sp X.sv S f a (hS1'.ses.below ha)).mono ?_
      rintro e a' ⟨rfl,hbut,fv',hs',hf'⟩
      rw [htk] at hs' ⊢
      refine ⟨rfl,⟨fv',(But.of_below ha).trans hbut (fun _ _ f=>f),hs',hf'.imp id (fun ⟨b,e1,e2⟩=>⟨b,e1,Nat.le_trans ha.size e2⟩)⟩,hbut.size,fun b h1 h2=>hbut.keep b h2 (fun hh=>?_)⟩
      have:=hlts b hh
      omega
    · rintro a ⟨fv',hbut,_⟩
      exact hbut.cell hncb c18
    · rintro a ⟨fv',ov',dv,hbut,_⟩
      exact hbut.cell (fun hh=>hh.elim hncb hcbB) c18
    · rintro a b ⟨fv',hbut,hs',hf'⟩ hab
      exact ⟨fv',hbut.trans (But.of_below (F:=fun _=>False) hab) (fun _ _ f=>f.elim),hs'.below hab,hf'⟩
    · rintro a b ⟨fv',ov',dv,hbut,hs',hbl,hf'⟩ hab
      exact ⟨fv',ov',dv,hbut.trans (But.of_below (F:=fun _=>False) hab) (fun _ _ f=>f.elim),hs'.below hab,hbl.below hab,hf'⟩
    · rintro a cv ⟨fv',hbut,hs',hf'⟩ hcv
      have hGa:Gd N0 ash aw a:=hG1'.below (hbut.below hs0 hG1'.env.size)
      have hBa:BlkAt a B BV (.slice none 0 0) []:=⟨hbut.blk hnsB hB1'.blk,OutsAt.nil _⟩
      have hE:=hGa.encCodes (subS p.id cv) [f.2] rfl (intV_own hcv)
      rw [hdd] at hE
      refine (bwrite_any B X.cv.cb (k:Int) (subS p.id cv) d BV (.slice none 0 0) [] a hE hBa (hbut.cell hncb c0) (by simp)).mono ?_
      rintro e a' ⟨rfl,ov',dv,k1,k2,k3,k4⟩
      have k2':But (fun g=>g=B) a a':=k2.wide (fun x _ e=>e.elim id (fun e=>by cases e))
      refine ⟨rfl,⟨fv',ov',dv,(hbut.wide (fun _ _ f=>Or.inl f)).trans k2' (fun _ _ e=>Or.inr e),hs'.but k2' (fun b hb' e=>by subst e;exact hs'.not hBa.blk (by decide) hb'),k1,hf'⟩,k2'.size,fun b h1 h2=>k2'.keep b h2 (fun e=>?_)⟩
      omega
    · rintro a ⟨fv',ov',dv,hbut,hs',hbl,hf'⟩
      have c11:a.cell? ⟨B,11,none⟩=some (.slice none 0 0):=by rw [← hrv];exact blk_cell hbl.blk rfl
      refine (tellRetained_none B X.cv.sp none 0 f a c11).mono ?_
      rintro e a' ⟨rfl,hab⟩
      refine ⟨rfl,⟨rfl,rfl,?_⟩,hab⟩
      rw [hHP]
      exact ⟨fv',ov',dv,(But.of_below hb1).trans (hbut.trans (But.of_below (F:=fun _=>False) hab) (fun _ _ f=>f.elim)) (fun _ _ f=>f),hs'.below hab,hbl.below hab,hf'.imp id (fun ⟨b,e1,e2⟩=>⟨b,e1,Nat.le_trans hb1.size e2⟩)⟩
  · intro w1 w2 fv cv hpre hHp
    rw [hHP] at hHp
    obtain ⟨fv',ov',dv,hbut,hs',hbl,hf'⟩:=hHp
    have hG1:=gd1 w' w1 fv cv hb hpre
    have hS1:=(hS.below hb).pre hclk hpre
    refine ⟨hG1.below (hbut.below (fun b e=>e.elim (hs0 b) (fun e=>by subst e;exact hNB)) hG1.env.size),hbut.size,⟨BV,ov',hbl.blk,hv⟩,X.cv,⟨[],0,some ph⟩,hbut.blk (fun e=>?_) hS1.con.blk⟩
    rcases e with e | e
    · exact hS1.ses.not hS1.con.blk (by decide) e
    · exact hS1.notB hpre.blk.blk (Or.inl (Or.inl e.symm))
 refine (feed_any B k X.cv.cb (some ⟨db,0,none⟩) l.length dc BV _ w (fun w' w''=>ReadPost w' B k BV X.cv ⟨[],0,some ph⟩ [f] [] HP (.returned (.tuple #[])) w'') (fun w' w'' BV' ov' L'=>BV'=BV∧(∃ dv,L' = [(⟨(k:Int),d,false⟩,dv)])∧SideS B k ph X { S with filters:=F' } w' w'') h.blk hk hv ?_ ?_).mono ?_
 · intro w' hb
   refine (hread w' hb).mono ?_
   rintro e w'' ⟨rfl,hR⟩
   exact ⟨rfl,rfl,hR⟩
 · rintro w' w'' hb ⟨_,w1,fv,cv,w2,w3,v,hpre,hHp,hb3,hv3,⟨qv,rfl⟩,rfl⟩
   rw [hHP] at hHp
   obtain ⟨fv',ov',dv,hbut,hs',hbl,hf'⟩:=hHp
   have hS1:=(hS.below hb).pre hclk hpre
   have hnB:=hS1.notB hpre.blk.blk
   have hS2:=hS1.work hbut (fun g hg=>hg.elim (fun hg=>hS1.apart hS1.ses hg) (fun e=>by subst e;exact ⟨fun hx=>hnB (Or.inl hx),fun e=>hnB (Or.inr (Or.inr (Or.inl e))),fun e=>hnB (Or.inr (Or.inr (Or.inr e)))⟩)) hs' rfl
   have hS3:=hS2.below hb3
   have hset:But (fun g=>g=X.cv.cb) w3 (w3.setCell ⟨X.cv.cb,1,none⟩ (.slice qv 0 0)):=But.set _ _ _ rfl
   have hB3:BlkAt w3 B BV ov' [(⟨(k:Int),d,false⟩,dv)]:=hbl.below hb3
   have s1:=hpre.but.size
   have s2:=hbut.size
   refine ⟨BV,ov',_,hB3.but hset (fun b e=>by subst e;exact hB3.not hS3.con.blk (by decide)),rfl,⟨dv,rfl⟩,_,hS3.post hv3,rfl,rfl,rfl,?_,?_⟩
   · rintro q ((rfl | hg | rfl | rfl | rfl | rfl) | hg | rfl | rfl)
     · exact Or.inl (Or.inl (Or.inl rfl))
     · have:=(own_zero hv3).2 q hg;exact Or.inr (by omega)
     · exact Or.inl (Or.inl (Or.inr (Or.inr (Or.inl rfl))))
     · exact Or.inl (Or.inl (Or.inr (Or.inr (Or.inr (Or.inl rfl)))))
     · exact Or.inl (Or.inl (Or.inr (Or.inr (Or.inr (Or.inr (Or.inl rfl))))))
     · exact Or.inl (Or.inl (Or.inr (Or.inr (Or.inr (Or.inr (Or.inr rfl))))))
     · rcases hg with hg | hg | hg | hg | hg
       · exact Or.inl (Or.inr (Or.inl (Or.inl hg)))
       · rcases hf' with e | ⟨b,e1,e2⟩
         · exact Or.inl (Or.inr (Or.inl (Or.inr (Or.inl (e ▸ hg)))))
         · have hg2:fv'.ownBlock=some q:=hg
           rw [e1] at hg2
           cases hg2
           exact Or.inr (by omega)
       · exact Or.inl (Or.inr (Or.inl (Or.inr (Or.inr (Or.inl hg)))))
       · exact Or.inl (Or.inr (Or.inl (Or.inr (Or.inr (Or.inr (Or.inl hg))))))
       · exact Or.inl (Or.inr (Or.inl (Or.inr (Or.inr (Or.inr (Or.inr hg))))))
     · exact Or.inl (Or.inr (Or.inr (Or.inl rfl)))
     · exact Or.inl (Or.inr (Or.inr (Or.inr rfl)))
   · have t1:But (fun g=>g=B∨X.has g) w' w1:=hpre.but.wide (fun _ _ e=>Or.inr (Or.inl (Or.inl e)))
     have t2:=t1.trans hbut (fun _ _ e=>e.elim (fun e=>Or.inr (Or.inr (Or.inl e))) Or.inl)
     have t3:=t2.trans (But.of_below (F:=fun _=>False) hb3) (fun _ _ f=>f.elim)
     exact t3.trans hset (fun _ _ e=>Or.inr (Or.inl (Or.inl e)))
 · rintro e w' ⟨w1,w2,BV',ov',L',hb1,⟨rfl,hL',X',hS',e1,e2,e3,hX',hBut⟩,hb2,rfl,ho,hblk,hbB⟩
   have hnB:∀ b,X'.has b→¬ b=B:=fun b hb e=>by subst e;exact hS'.notB hb2.blk hb
   exact ⟨ov',L',rfl,hL',ho,hblk,X',hS'.but hbB hnB,e1,e2,e3,fun g hg=>(hX' g hg).imp id (fun hh=>Nat.le_trans hb1.size hh),((But.of_below hb1).trans hBut (fun _ _ f=>f)).trans hbB (fun _ _ e=>Or.inl e)⟩
theorem ask_hall {N0:Nat} {ash aw:Addr} (lb B k m:Nat) (f:List UInt8×Int) (l d:List UInt8) (p ph pa:Pkt) (V:LineV) (BV:BrV) (D:DataW Unit) (X:SideV) (S:Ses) (F':List (List UInt8×Int)) (w:World) (hR:Room N0 ash aw w B BV m D) (hL:LineOf N0 w lb B V (fun _=>False)) (hS:Side w B k X ph S) (hX0:∀ g,X.has g→N0≤g) (hXm:X.sv.kb≠BV.mb) (hk:k < 2) (hv:BV.cv k=.pointer (some ⟨X.cv.cb,0,none⟩))
 (henc:∀ fv,encL (fwW (askS fv)) (cbW (askS fv)) (askS fv) [f] []=some l) (hl0:0 < l.length) (hl:l.length≤1000000) (hdec:decL l=.inr ((p,[f],[]),l.length)) (hkind:p.kind=8) (htk:takeS S.filters f=some F') (hdd:∀ cv,encD (subS p.id cv) [] [f.2]=d) (hd0:0 < d.length) (hd1:d.length≤1000000) (hda:decL d=.inr ((pa,[],[f.2]),d.length)) (hpa:pa.kind=9) :
 Calls Tryz.prog 49 #[.pointer (some ⟨lb,0,none⟩),.int .i64 (k:Int),.string (bs f.1),.int .i64 f.2] w fun e w'=>e=.returned (.bool true)∧∃ V' X',LineOf N0 w' lb B V' (fun _=>False)∧Room N0 ash aw w' B BV m D∧Side w' B k X' ph { S with filters:=F' }∧X'.cv.cb=X.cv.cb∧X'.cv.sp=X.cv.sp∧X'.sv.kb=X.sv.kb∧(∀ g,X'.has g→X.has g∨w.heap.size≤g)∧But (fun g=>g=lb∨g=B∨X.has g) w w':=by
 have hk8:k < 8:=by omega
 have hlb:w.heap[lb]?=some (.cells (lineC V) 60):=hL.line
 obtain ⟨nB,nM,nMB⟩:=hR.lb_ne hL.line
 obtain ⟨es,cl,hmb⟩:=map_blk hR.map
 have nXl:¬ X.has lb:=hS.not hlb (by decide) (by decide)
 have nXm:¬ X.has BV.mb:=hS.notMap hmb (fun e=>hXm e.symm)
 refine (asks_line lb k f.1 f.2 w (fun w'=>∃ V' X',LineOf N0 w' lb B V' (fun n=>n=k)∧Room N0 ash aw w' B BV m D∧Side w' B k X' ph { S with filters:=F' }∧X'.cv.cb=X.cv.cb∧X'.cv.sp=X.cv.sp∧X'.sv.kb=X.sv.kb∧(∀ g,X'.has g→X.has g∨w.heap.size≤g)∧But (fun g=>g=lb∨g=B∨X.has g) w w') hk8 ?_).mono ?_
 · obtain ⟨w9,hw9⟩:∃ w9,w9=w.alloc (.cells #[.string (bs f.1),.int .i64 f.2] 95):=⟨_,rfl⟩
   have hf9:FilV w9 (.slice (some ⟨w.heap.size,0,none⟩) 1 1) [f]:=by
    refine ⟨_,1,rfl,by simp [maxLen],fun j f' hj=>⟨w.heap.size,rfl,?_,?_⟩⟩
    · rw [hw9];simp
    · obtain ⟨rfl,rfl⟩:=one_at hj
      rw [hw9]
      exact ⟨cell_new _ _ _ rfl,cell_new _ _ _ rfl⟩
   have hb9:Below w.heap.size w w9:=by rw [hw9];exact (Below.refl _ _).alloc (Nat.le_refl _) _
   rw [← hw9]
   have hG9:Gd N0 ash aw w9:=hR.gd.below (hb9.mono hR.gd.env.size)
   have hB9:=hR.blk.below hb9
   have hS9:=hS.below hb9
   have hl9:=hL.but (But.of_below (F:=fun _=>False) hb9) (fun f=>f)
   have s9:=hb9.size
   refine (send_all lb B k (askS (.slice (some ⟨w.heap.size,0,none⟩) 1 1)) [f] [] l V (fun _=>(pa,[],[f.2])) w9 (fun w1 w2 ov L=>Below w9.heap.size w9 w1∧FdS B k ph d BV X { S with filters:=F' } w1 w2 ov L) hG9 hL.lb0 hl9.line hL.b hl9.bad hf9 (intV_nil _) (henc _) hl0 ?_ ?_).mono ?_
   · intro w1 g c hb1 hby
     refine (feed_sub (N0:=N0) (ash:=ash) (aw:=aw) B k p ph f l d BV X S F' g c w1 (hG9.below (hb1.mono hG9.env.size)) (hB9.below hb1) (hS9.below hb1) hX0 hR.B0 hk8 hv hR.clk hR.rv hl0 hl hby hdec hkind htk hdd).mono ?_
     rintro e w2 ⟨ov,L,rfl,hF⟩
     exact ⟨ov,L,rfl,hb1,hF⟩
   · rintro w1 w2 ov L hb1 ⟨_,⟨dv,rfl⟩,ho,hblk,X',hS',e1,e2,e3,hX',hBut⟩
     have hG1:=hG9.below (hb1.mono hG9.env.size)
     refine ⟨hG1.below (hBut.below (fun b e=>e.elim (fun e=>by subst e;exact hR.B0) (hX0 b)) hG1.env.size),?_,ho,fun j o hj=>?_,fun i j o o' hi hj _=>(one_at hi).1.trans (one_at hj).1.symm⟩
     · exact line_but (V:=V) ((hb1.block _ (blk_lt hl9.line)).trans hl9.line) hBut (fun e=>e.elim (fun e=>nB e.symm) nXl)
     · obtain ⟨rfl,rfl⟩:=one_at hj
       exact ⟨rfl,hda,hd0,hd1,k,hk,rfl,hL.got k (fun f=>f),hL.off k⟩
   · rintro e w'' ⟨rfl,w1,w2,ov,L,hb1,⟨_,⟨dv,rfl⟩,ho,hblk,X',hS',e1,e2,e3,hX',hBut⟩,hT⟩
     have hG1:=hG9.below (hb1.mono hG9.env.size)
     have hs1:=hb1.size
     have hs2:=hBut.size
     have hl2:w2.heap[lb]?=some (.cells (lineC V) 60):=hBut.blk (fun e=>e.elim (fun e=>nB e.symm) nXl) ((hb1.block _ (blk_lt hl9.line)).trans hl9.line)
     have hm1:w1.heap[BV.mb]?=w.heap[BV.mb]?:=(hb1.block _ (by have:=blk_lt hmb;omega)).trans (hb9.block _ (blk_lt hmb))
     have hR2:Room N0 ash aw w2 B BV m D:=
      ⟨hG1.below (hBut.below (fun b e=>e.elim (fun e=>by subst e;exact hR.B0) (hX0 b)) hG1.env.size),hblk,hR.B0,hR.mb0,hR.clk,hR.win,hR.que,hR.rv,map_keep (map_keep hR.map hm1) (hBut.keep _ (by have:=blk_lt hmb;omega) (fun e=>e.elim nMB nXm))⟩
     obtain ⟨V',l1,l2,l3,l4,l5,l6⟩:=hT.line
     obtain ⟨n,hn1,hgot⟩:=l6 0 _ (by simp) rfl
     have hnk:n=k:=by have:(k:Int)=(n:Int):=hn1;omega
     subst hnk
     obtain ⟨g,cap,fv',cv',e1',e2',e3',e4',e5',_,e6'⟩:=hgot.at
     obtain ⟨cq,cc,rfl⟩:=own_form e6'
     obtain ⟨cg,rfl,_,i1,_,i2⟩:=own_at e6' (by simp)
     have hcg:=(own_zero e6').2 cg rfl
     have hlb2:lb < w2.heap.size:=blk_lt hl2
     refine ⟨rfl,⟨V',X',⟨l1,hL.lb0,l2.trans hL.b,l3,fun j=>by rw [l4];exact hL.off j,fun j hj=>(l5 j (fun i o hi ho' e=>?_)).trans (hL.got j (fun f=>f))⟩,hR2.but hT.but nB nM (fun b e=>by subst e;exact hL.lb0),?_,e1,e2,e3,?_,?_⟩,g,cap,cg,cc,V',⟨l1,l3,e1',e3',e4',?_,?_,?_,i1,by omega,by omega⟩⟩
     · obtain ⟨_,rfl⟩:=one_at ho'
       have:(n:Int)=(j:Int):=e
       omega
     · exact hS'.but hT.but (fun b hb' e=>by subst e;exact hS'.not hl2 (by decide) (by decide) hb')
     · exact fun q hq=>(hX' q hq).imp id (fun h1=>by omega)
     · have t1:But (fun g=>g=lb∨g=B∨X.has g) w w1:=(But.of_below hb9).trans (But.of_below (F:=fun _=>False) hb1) (fun _ _ f=>f.elim)
       have t2:=t1.trans hBut (fun x hx e=>Or.inr e)
       exact t2.trans hT.but (fun _ _ e=>Or.inl e)
     · rw [← hpa];exact e5' 0 _ rfl
     · exact e5' 14 _ rfl
     · exact i2 0 _ rfl
 · rintro e w' ⟨w1,rfl,⟨V',X',hl',hr,hs,e1,e2,e3,hx,hb⟩,rfl⟩
   have hset:But (fun g=>g=lb) w1 (w1.setCell ⟨lb,1+k,none⟩ (.slice none 0 0)):=But.set _ _ _ rfl
   have hlw:w1.heap[lb]?=some (.cells (lineC V') 60):=hl'.line
   have hh:=hl'.seen k hk8
   exact ⟨rfl,_,X',⟨hh.line,hh.lb0,hh.b,hh.bad,hh.off,fun n _=>hh.got n (fun e=>e.2 e.1)⟩,hr.but hset nB nM (fun b e=>by subst e;exact hL.lb0),hs.but hset (fun b hb' e=>by subst e;exact hs.not hlw (by decide) (by decide) hb'),e1,e2,e3,hx,hb.trans hset (fun _ _ e=>Or.inl e)⟩
structure EffV where
 vx:SesV
 vy:SesV
 ov:Value
 M:List (OutS×Value)
structure Eff (B:Nat) (BV:BrV) (X Y:SideV) (SX SY:Ses) (os:List OutS) (w w':World) (E:EffV):Prop where
 but:But (fun g=>X.sv.has X.cv.sp g∨Y.sv.has Y.cv.sp g∨g=B) w w'
 sx:SesAt w' X.cv.sp E.vx SX
 sy:SesAt w' Y.cv.sp E.vy SY
 nx:E.vx.snd=X.sv.snd
 ny:E.vy.snd=Y.sv.snd
 kx:E.vx.kb=X.sv.kb
 ky:E.vy.kb=Y.sv.kb
 hx:∀ g,E.vx.has X.cv.sp g→X.sv.has X.cv.sp g∨w.heap.size≤g
 hy:∀ g,E.vy.has Y.cv.sp g→Y.sv.has Y.cv.sp g∨w.heap.size≤g
 xy:∀ g,E.vx.has X.cv.sp g→¬ E.vy.has Y.cv.sp g
 blk:BlkAt w' B BV E.ov E.M
 os:E.M.map Prod.fst=os
def EffE (B:Nat) (BV:BrV) (X Y:SideV) (SX SY:Ses) (os:List OutS) (w w':World):Prop:=∃ E,Eff B BV X Y SX SY os w w' E
def SideW (B kx ky:Nat) (px py:Pkt) (X Y:SideV) (SX SY:Ses) (w w':World):Prop:=
 ∃ X' Y',Side w' B kx X' px SX∧Side w' B ky Y' py SY∧X'.cv.cb=X.cv.cb∧X'.cv.sp=X.cv.sp∧X'.sv.kb=X.sv.kb∧Y'.cv=Y.cv∧Y'.sv.kb=Y.sv.kb∧(∀ g,X'.has g→¬ Y'.has g)∧(∀ g,X'.has g→X.has g∨w.heap.size≤g)∧(∀ g,Y'.has g→Y.has g∨w.heap.size≤g)∧But (fun g=>g=B∨X.has g∨Y.has g) w w'
def FdW (B kx ky:Nat) (px py:Pkt) (BV:BrV) (X Y:SideV) (SX SY:Ses) (os:List OutS) (w w':World) (ov:Value) (L:List (OutS×Value)):Prop:=
 L.map Prod.fst=os∧OutsAt w' ov L∧BlkAt w' B BV (.slice none 0 0) []∧SideW B kx ky px py X Y SX SY w w'
theorem Eff.mid {N0:Nat} {ash aw:Addr} {B kx ky:Nat} {px py:Pkt} {BV:BrV} {X Y:SideV} {SX SX' SY SY':Ses} {os:List OutS} {fs:List (List UInt8×Int)} {cs:List Int} {w w1 w2:World} {fv cv:Value} (hG:Gd N0 ash aw w) (hX:Side w B kx X px SX) (hY:Side w B ky Y py SY) (hX0:∀ g,X.has g→N0≤g) (hY0:∀ g,Y.has g→N0≤g) (hNB:N0≤B) (hdis:∀ g,X.has g→¬ Y.has g) (hclk:BV.clk=0) (hv:BV.cv kx=.pointer (some ⟨X.cv.cb,0,none⟩))
 (hpre:ReadPre w B kx BV X.cv ⟨[],0,some px⟩ fs cs w1 fv cv) (h:EffE B BV X Y SX' SY' os w1 w2):ReadMid N0 ash aw B kx X.cv w1 w2:=by
 obtain ⟨E,h⟩:=h
 have hG1:Gd N0 ash aw w1:=hG.below (hpre.but.below (fun b e=>by subst e;exact hX0 _ (Or.inl (Or.inl rfl))) hG.env.size)
 have hX1:=hX.pre hclk hpre
 have hF0:∀ g,(X.sv.has X.cv.sp g∨Y.sv.has Y.cv.sp g∨g=B)→N0≤g:=fun g e=>by
  rcases e with e | e | rfl
  · exact hX0 g (Or.inr (Or.inl e))
  · exact hY0 g (Or.inr (Or.inl e))
  · exact hNB
 refine ⟨hG1.below (h.but.below hF0 hG1.env.size),h.but.size,⟨BV,E.ov,h.blk.blk,hv⟩,X.cv,⟨[],0,some px⟩,h.but.blk (fun e=>?_) hX1.con.blk⟩
 rcases e with e | e | e
 · exact hX1.ses.not hX1.con.blk (by decide) e
 · exact hdis _ (Or.inl (Or.inl rfl)) (Or.inr (Or.inl e))
 · exact hX1.notB hpre.blk.blk (Or.inl (Or.inl e.symm))
theorem feed_work (B kx ky:Nat) (px py:Pkt) (fs:List (List UInt8×Int)) (cs:List Int) (l:List UInt8) (BV:BrV) (X Y:SideV) (SX SX' SY SY':Ses) (os:List OutS) (db dc:Nat) (w:World) (h:BlkAt w B BV (.slice none 0 0) []) (hX:Side w B kx X px SX) (hY:Side w B ky Y py SY) (hdis:∀ g,X.has g→¬ Y.has g) (hk:kx < 8) (hv:BV.cv kx=.pointer (some ⟨X.cv.cb,0,none⟩)) (hclk:BV.clk=0)
 (hread:∀ w',Below w.heap.size w w'→Calls Tryz.prog 59 #[.pointer (some ⟨B,0,none⟩),.pointer (some ⟨X.cv.cb,0,none⟩),.slice (some ⟨db,0,none⟩) l.length dc] w' (ReadPost w' B kx BV X.cv ⟨[],0,some px⟩ fs cs (EffE B BV X Y SX' SY' os))) :
 Calls Tryz.prog 24 #[.pointer (some ⟨B,0,none⟩),.int .i64 (kx:Int),.slice (some ⟨db,0,none⟩) l.length dc] w fun e w'=>∃ ov L,e=.returned (.tuple #[ov,.int .i64 0])∧FdW B kx ky px py BV X Y SX' SY' os w w' ov L:=by
 refine (feed_any B kx X.cv.cb (some ⟨db,0,none⟩) l.length dc BV _ w (fun w' w''=>ReadPost w' B kx BV X.cv ⟨[],0,some px⟩ fs cs (EffE B BV X Y SX' SY' os) (.returned (.tuple #[])) w'') (fun w' w'' BV' ov' L'=>BV'=BV∧L'.map Prod.fst=os∧SideW B kx ky px py X Y SX' SY' w' w'') h.blk hk hv ?_ ?_).mono ?_
 · intro w' hb
   refine (hread w' hb).mono ?_
   rintro e w'' ⟨rfl,hR⟩
   exact ⟨rfl,rfl,hR⟩
 · rintro w' w'' hb ⟨_,w1,fv,cv,w2,w3,v,hpre,⟨E,hE⟩,hb3,hv3,⟨qv,rfl⟩,rfl⟩
   have hX1:=(hX.below hb).pre hclk hpre
   have hY1:Side w1 B ky Y py SY:=(hY.below hb).but hpre.but (fun b hx e=>by subst e;exact hdis _ (Or.inl (Or.inl rfl)) hx)
   have hnBX:=hX1.notB hpre.blk.blk
   have hnBY:=hY1.notB hpre.blk.blk
   have hTX:=hX1.work hE.but (fun g hg=>by
    rcases hg with hg | hg | rfl
    · exact hX1.apart hX1.ses hg
    · exact hX1.apart hY1.ses hg
    · exact ⟨fun hx=>hnBX (Or.inl hx),fun e=>hnBX (Or.inr (Or.inr (Or.inl e))),fun e=>hnBX (Or.inr (Or.inr (Or.inr e)))⟩) hE.sx hE.nx
   have hTY:=hY1.work hE.but (fun g hg=>by
    rcases hg with hg | hg | rfl
    · exact hY1.apart hX1.ses hg
    · exact hY1.apart hY1.ses hg
    · exact ⟨fun hx=>hnBY (Or.inl hx),fun e=>hnBY (Or.inr (Or.inr (Or.inl e))),fun e=>hnBY (Or.inr (Or.inr (Or.inr e)))⟩) hE.sy hE.ny
   have hUX:=hTX.below hb3
   have hUY:=hTY.below hb3
   have hset:But (fun g=>g=X.cv.cb) w3 (w3.setCell ⟨X.cv.cb,1,none⟩ (.slice qv 0 0)):=But.set _ _ _ rfl
   have hB3:=hE.blk.below hb3
   have s1:=hpre.but.size
   have s2:=hE.but.size
   have hlt1:=hX1.lt (Or.inl (Or.inl rfl))
   have hhas:∀ (Z:SideV) (vz:SesV),(∀ g,vz.has Z.cv.sp g→Z.sv.has Z.cv.sp g∨w1.heap.size≤g)→∀ q,(SideV.mk Z.cv vz Z.x Z.y).has q→Z.has q∨w1.heap.size≤q:=fun Z vz hz q hq=>by
    rcases hq with hg | hg | hg | hg
    · exact Or.inl (Or.inl hg)
    · exact (hz q hg).imp (fun e=>Or.inr (Or.inl e)) (fun e=>e)
    · exact Or.inl (Or.inr (Or.inr (Or.inl hg)))
    · exact Or.inl (Or.inr (Or.inr (Or.inr hg)))
   refine ⟨BV,E.ov,E.M,hB3.but hset (fun b e=>by subst e;exact hB3.not hUX.con.blk (by decide)),rfl,hE.os,_,_,hUX.post hv3,hUY.but hset (fun b hx e=>?_),rfl,rfl,hE.kx,rfl,hE.ky,?_,?_,?_,?_⟩
   · subst e
     rcases hhas Y E.vy hE.hy _ hx with hx | hx
     · exact hdis _ (Or.inl (Or.inl rfl)) hx
     · omega
   · intro q hq hy
     have hold:X.has q→False:=fun hx=>(hhas Y E.vy hE.hy q hy).elim (hdis q hx) (fun e=>by have:=hX1.lt hx;omega)
     rcases hq with (hg | hg | hg | hg | hg | hg) | hg | hg | hg
     · exact hold (Or.inl (Or.inl hg))
     · have:=(own_zero hv3).2 q hg;have:=hTY.lt hy;omega
     · exact hold (Or.inl (Or.inr (Or.inr (Or.inl hg))))
     · exact hold (Or.inl (Or.inr (Or.inr (Or.inr (Or.inl hg)))))
     · exact hold (Or.inl (Or.inr (Or.inr (Or.inr (Or.inr (Or.inl hg))))))
     · exact hold (Or.inl (Or.inr (Or.inr (Or.inr (Or.inr (Or.inr hg))))))
     · rcases hy with hz | hz | hz | hz
       · exact (hE.hx q hg).elim (fun e=>hdis q (Or.inr (Or.inl e)) (Or.inl hz)) (fun e=>by have:=hY1.lt (Or.inl hz);omega)
       · exact hE.xy q hg hz
       · exact (hE.hx q hg).elim (fun e=>hdis q (Or.inr (Or.inl e)) (Or.inr (Or.inr (Or.inl hz)))) (fun e=>by have:=hY1.lt (Or.inr (Or.inr (Or.inl hz)));omega)
       · exact (hE.hx q hg).elim (fun e=>hdis q (Or.inr (Or.inl e)) (Or.inr (Or.inr (Or.inr hz)))) (fun e=>by have:=hY1.lt (Or.inr (Or.inr (Or.inr hz)));omega)
     · exact hold (Or.inr (Or.inr (Or.inl hg)))
     · exact hold (Or.inr (Or.inr (Or.inr hg)))
   · rintro q ((rfl | hg | rfl | rfl | rfl | rfl) | hg | rfl | rfl)
     · exact Or.inl (Or.inl (Or.inl rfl))
     · have:=(own_zero hv3).2 q hg;exact Or.inr (by omega)
     · exact Or.inl (Or.inl (Or.inr (Or.inr (Or.inl rfl))))
     · exact Or.inl (Or.inl (Or.inr (Or.inr (Or.inr (Or.inl rfl)))))
     · exact Or.inl (Or.inl (Or.inr (Or.inr (Or.inr (Or.inr (Or.inl rfl))))))
     · exact Or.inl (Or.inl (Or.inr (Or.inr (Or.inr (Or.inr (Or.inr rfl))))))
     · exact (hE.hx q hg).imp (fun e=>Or.inr (Or.inl e)) (fun e=>by omega)
     · exact Or.inl (Or.inr (Or.inr (Or.inl rfl)))
     · exact Or.inl (Or.inr (Or.inr (Or.inr rfl)))
   · exact fun q hq=>(hhas Y E.vy hE.hy q hq).imp id (fun e=>by omega)
   · have t1:But (fun g=>g=B∨X.has g∨Y.has g) w' w1:=hpre.but.wide (fun _ _ e=>Or.inr (Or.inl (Or.inl (Or.inl e))))
     have t2:=t1.trans hE.but (fun x _ e=>by
      rcases e with e | e | e
      · exact Or.inr (Or.inl (Or.inr (Or.inl e)))
      · exact Or.inr (Or.inr (Or.inr (Or.inl e)))
      · exact Or.inl e)
     have t3:=t2.trans (But.of_below (F:=fun _=>False) hb3) (fun _ _ f=>f.elim)
     exact t3.trans hset (fun _ _ e=>Or.inr (Or.inl (Or.inl (Or.inl e))))
 · rintro e w' ⟨w1,w2,BV',ov',L',hb1,⟨rfl,hL',X',Y',hSX,hSY,e1,e2,e3,e4,e5,e6,hX',hY',hBut⟩,hb2,rfl,ho,hblk,hbB⟩
   have hnBX:∀ b,X'.has b→¬ b=B:=fun b hb e=>by subst e;exact hSX.notB hb2.blk hb
   have hnBY:∀ b,Y'.has b→¬ b=B:=fun b hb e=>by subst e;exact hSY.notB hb2.blk hb
   exact ⟨ov',L',rfl,hL',ho,hblk,X',Y',hSX.but hbB hnBX,hSY.but hbB hnBY,e1,e2,e3,e4,e5,e6,fun g hg=>(hX' g hg).imp id (fun hh=>Nat.le_trans hb1.size hh),fun g hg=>(hY' g hg).imp id (fun hh=>Nat.le_trans hb1.size hh),((But.of_below hb1).trans hBut (fun _ _ f=>f)).trans hbB (fun _ _ e=>Or.inl e)⟩
end br
end Go.Proofs.YtnmfmoimjkoieaaGreatDoor
