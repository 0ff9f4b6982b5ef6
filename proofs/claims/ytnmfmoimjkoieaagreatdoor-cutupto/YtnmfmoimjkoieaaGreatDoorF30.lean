import Derived.Test.YtnmfmoimjkoieaaGreatDoorF02
import Derived.Test.YtnmfmoimjkoieaaGreatDoorF14
import Derived.Test.YtnmfmoimjkoieaaGreatDoorF23
import Derived.Test.YtnmfmoimjkoieaaGreatDoorF06
namespace Go.Proofs.YtnmfmoimjkoieaaGreatDoor
namespace br
open Go.RowKit topPlain topWalks decPlain rd ew encPlain rf
structure Gd (N:Nat) (ash aw:Addr) (w:World):Prop where
 errs:Errs ash aw w
 env:Env aw N w
 sh:ash.block < N
 wr:aw.block < N
theorem Gd.below {N:Nat} {ash aw:Addr} {w w':World} (h:Gd N ash aw w) (hb:Below N w w'):Gd N ash aw w':=by
 obtain ⟨⟨h1,h2,h3,⟨c1,t1,h4⟩,c2,t2,h5⟩,he,hs,hw⟩:=h
 have hl:=he.low
 refine ⟨⟨?_,?_,h3,⟨c1,t1,(hb.block _ hs).trans h4⟩,c2,t2,(hb.block _ hw).trans h5⟩,he.below hb,hs,hw⟩
 · rw [hb.cell (by have:1 < 5:=(by decide);simp only;omega)];exact h1
 · rw [hb.cell (by have:0 < 5:=(by decide);simp only;omega)];exact h2
theorem Gd.env' {N:Nat} {ash aw:Addr} {w:World} (h:Gd N ash aw w):Env aw w.heap.size w:=⟨Nat.le_trans h.env.low h.env.size,Nat.le_refl _,h.env.err,h.env.inv⟩
def encD (p:Pkt) (fs:List (List UInt8×Int)) (cs:List Int):List UInt8:=(encL (fwW p) (cbW p) p fs cs).getD []
theorem enc_calls {N:Nat} {ash aw:Addr} {w:World} (h:Gd N ash aw w) (p:Pkt) (fs:List (List UInt8×Int)) (cs:List Int) (hf:FilV w p.fv fs) (hc:IntV w p.cv cs) :
 Calls Tryz.prog 53 #[.agg (pkK p)] w fun e w''=>Below w.heap.size w w''∧∃ v x,e=.returned (.tuple #[v,x])∧w''.ownsRow w.heap.size 5 1 v (encD p fs cs).length (u8k (encD p fs cs)):=by
 refine (pEncode_any ash aw p fs cs w hf hc h.errs h.env').mono ?_
 rintro e w' ⟨hb,hR⟩
 refine ⟨hb,?_⟩
 unfold encD
 cases hr:encL (fwW p) (cbW p) p fs cs with
 | none=>rw [hr] at hR;obtain ⟨v,n,rfl,_⟩:=hR;exact ⟨_,_,rfl,⟨rfl,Or.inl ⟨rfl,rfl⟩⟩⟩
 | some b=>rw [hr] at hR;obtain ⟨v,rfl,ho⟩:=hR;exact ⟨_,_,rfl,ho⟩
theorem filV_nil (w:World):FilV w (.slice none 0 0) []:=⟨none,0,rfl,by simp,fun j f h=>by simp at h⟩
theorem intV_nil (w:World):IntV w (.slice none 0 0) []:=⟨none,0,rfl,by simp,fun j f h=>by simp at h⟩
theorem Gd.enc {N:Nat} {ash aw:Addr} {w:World} (h:Gd N ash aw w) (p:Pkt) (hf:p.fv=.slice none 0 0) (hc:p.cv=.slice none 0 0):EncOK N w p (encD p [] []):=
 ⟨h.env.size,fun w' hb=>enc_calls (h.below hb) p [] [] (by rw [hf];exact filV_nil _) (by rw [hc];exact intV_nil _)⟩
theorem Gd.encCodes {N:Nat} {ash aw:Addr} {w:World} (h:Gd N ash aw w) (p:Pkt) (cs:List Int) (hf:p.fv=.slice none 0 0) (hc:IntV w p.cv cs):EncOK w.heap.size w p (encD p [] cs):=
 ⟨Nat.le_refl _,fun w' hb=>enc_calls (h.below (hb.mono h.env.size)) p [] cs (by rw [hf];exact filV_nil _) (by
  obtain ⟨q,cap,h1,h2,h3⟩:=hc
  exact ⟨q,cap,h1,h2,fun j c hj=>by obtain ⟨g,e1,e2,e3⟩:=h3 j c hj;exact ⟨g,e1,Nat.lt_of_lt_of_le e2 hb.size,by rw [hb.cell e2];exact e3⟩⟩)⟩
set_option maxHeartbeats 400000 in
set_option maxRecDepth 100000 in
theorem is_nil (b:Addr) (w:World):Calls Tryz.prog 84 #[.nilIface,.iface 331 (.pointer (some b))] w fun e w'=>e=.returned (.bool false)∧Below w.heap.size w w':=by
 have hq:∀ w:World,(binOp .eql 118 .nilIface (.iface 331 (.pointer (some b)))).run Tryz.prog w=.ok (.bool false) w:=fun w=>by kernel_rfl
 go_enter Tryz.func84,Tryz.ntmps84
 go_wp2
 go_ret
 exact ⟨rfl,Below.refl _ _⟩
end br
namespace br
open Go.RowKit topPlain topWalks
set_option maxHeartbeats 800000 in
set_option maxRecDepth 100000 in
theorem clone_none (a:Addr) (cap:Nat) (w:World):Calls Tryz.prog 91 #[.slice (some a) 0 cap] w fun e w'=>∃ q,e=.returned (.slice q 0 0)∧Below w.heap.size w w'∧w'.ownsRow w.heap.size 5 1 (.slice q 0 0) 0 []:=by
 have hq:∀ w:World,(binOp .eql 45 (.slice (some a) 0 cap) (.slice none 0 0)).run Tryz.prog w=.ok (.bool false) w:=fun w=>by kernel_rfl
 go_enter Tryz.func91,Tryz.ntmps91
 go_wp2_with fail
 go_ret
 exact ⟨_,rfl,(Below.refl _ _).alloc (Nat.le_refl _) _,rfl,Or.inr ⟨w.heap.size,0,#[],rfl,Nat.le_refl _,heap_alloc_new _ _,Nat.le_refl _,by unfold maxLen;omega,rfl,rfl⟩⟩
end br
end Go.Proofs.YtnmfmoimjkoieaaGreatDoor
