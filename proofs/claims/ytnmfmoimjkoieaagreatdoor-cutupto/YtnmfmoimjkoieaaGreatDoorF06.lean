import Derived.Test.YtnmfmoimjkoieaaGreatDoorF05
import Derived.Stop.Asserts
import Derived.LaidEql
import Derived.RowKitTokens
import Derived.Deep.LoopGhost
import Derived.Deep.QuietTactic
import Derived.BigQuiet
import Derived.WalkMore
namespace Go.Proofs.YtnmfmoimjkoieaaGreatDoor
namespace rd
open Go.RowKit Go.Extern.Stop Go.Stop Go.Extern topPlain topWalks decPlain
theorem isTypeOf (v:Value) (w:World):(Extern.ReflectliteType.typeOf #[.iface 331 v]).run Tryz.prog w=.ok (.iface 239 (.agg #[.pointer (some ⟨5,331,none⟩)])) w:=by kernel_rfl
theorem callComparable (w:World):(callFunc 313 #[.agg #[.pointer (some ⟨5,331,none⟩)]]).run Tryz.prog w=.ok (.value (.bool true)) w:=by
 rw [@run_callFunc_extern Tryz.prog 313 _ (Extern.ReflectliteType.method fun t=>do Extern.Rtype.noPackHeld "Comparable" t;pure (.bool (← typeInfo t).comparable)) Tryz.func313 (by kernel_rfl) (by kernel_rfl) (by kernel_rfl) (by kernel_rfl)]
 kernel_rfl
theorem isMethodComparable (v:Value) (w:World):(Go.method 466 239 v "Comparable").run Tryz.prog w=.ok (313,v) w:=by kernel_rfl
theorem isComp:(Tryz.prog.info? 331).map (·.comparable)=some true:=by kernel_rfl
theorem isSize:(Tryz.prog.info? 354).map (·.size)=some 1:=by kernel_rfl
theorem noIsE (v:Value) (xT:TypeId) (w:World):(Instr.typeAssert (.iface 331 v) xT 241 true).run Tryz.prog w=.ok (.tuple #[.nilIface,.bool false]) w:=run_typeAssert_lacksB Tryz.underlying241 (by kernel_rfl) (by kernel_rfl) v xT w
theorem noUnwrapE (v:Value) (xT:TypeId) (w:World):(Instr.typeAssert (.iface 331 v) xT 244 true).run Tryz.prog w=.ok (.tuple #[.nilIface,.bool false]) w:=run_typeAssert_lacksB Tryz.underlying244 (by kernel_rfl) (by kernel_rfl) v xT w
theorem noUnwrapsE (v:Value) (xT:TypeId) (w:World):(Instr.typeAssert (.iface 331 v) xT 246 true).run Tryz.prog w=.ok (.tuple #[.nilIface,.bool false]) w:=run_typeAssert_lacksB Tryz.underlying246 (by kernel_rfl) (by kernel_rfl) v xT w
theorem noIsW (v:Value) (xT:TypeId) (w:World):(Instr.typeAssert (.iface 171 v) xT 241 true).run Tryz.prog w=.ok (.tuple #[.nilIface,.bool false]) w:=run_typeAssert_lacksB Tryz.underlying241 (by kernel_rfl) (by kernel_rfl) v xT w
theorem hasUnwrapW (v:Value) (xT:TypeId) (w:World):(Instr.typeAssert (.iface 171 v) xT 244 true).run Tryz.prog w=.ok (.tuple #[.iface 171 v,.bool true]) w:=run_typeAssert_hasB Tryz.underlying244 (by kernel_rfl) v xT w
theorem methodUnwrap (v:Value) (w:World):(Go.method 466 171 v "Unwrap").run Tryz.prog w=.ok (309,v) w:=by kernel_rfl
set_option maxHeartbeats 800000 in
theorem unwrap_any (wh:ByteArray) (c:Value) (w:World):Calls Tryz.prog 309 #[.agg #[.string wh,c]] w fun e w'=>e=.returned c∧Below w.heap.size w w':=by
 go_enter Tryz.func309,Tryz.ntmps309
 go_wp2
 go_ret
 exact ⟨rfl,(Below.refl _ _).alloc (Nat.le_refl _) _⟩
theorem nest_iface {a:Addr} {n:Nat} {v:Value} (h:Nest a n v):∃ t x,v=.iface t x:=by
 cases n with
 | zero=>exact ⟨_,_,h⟩
 | succ n=>obtain ⟨wh,c,rfl,_⟩:=h;exact ⟨_,_,rfl⟩
set_option maxHeartbeats 1600000 in
set_option maxRecDepth 100000 in
/-- errors.is, from an error that wraps the one at a, n times, to the one at b -/
theorem is_loop (a b:Addr) (ca cb:Array Value) (ta tb:TypeId) (n:Nat) (v:Value) (w:World) (hn:Nest a n v) (ha:w.heap[a.block]?=some (.cells ca ta (0,0))) (hb:w.heap[b.block]?=some (.cells cb tb (0,0))) :
 Calls Tryz.prog 123 #[v,.iface 331 (.pointer (some b)),.bool true] w fun e w'=>e=.returned (.bool (decide (a=b)))∧Below w.heap.size w w':=by
 obtain ⟨i,hi,hcmp⟩:=Option.map_eq_some_iff.1 isComp
 obtain ⟨j,hj,hjs⟩:=Option.map_eq_some_iff.1 isSize
 have HA:=hide ha
 have HB:=hide hb
 have HN:=hide hn
 obtain ⟨t0,x0,rfl⟩:=nest_iface hn
 have nE:=noIsE
 have uE:=noUnwrapE
 have vE:=noUnwrapsE
 have nW:=noIsW
 have uW:=hasUnwrapW
 have mU:=methodUnwrap
 clear ha hb hn
 go_enter Tryz.func123,Tryz.ntmps123
 go_wp2_with fail
 go_loopg [0] n (fun g s0 wx=>Nest a g s0∧Below w.heap.size w wx)
 case atStart=>exact ⟨HN.out,Below.refl _ _⟩
 case round =>
  obtain ⟨hne,hbel⟩:=hrel
  have HBL:=hide hbel
  cases gk with
  | zero =>
    have hv:_=Value.iface 331 (.pointer (some a)):=hne
    subst hv
    have hwa:wr.heap[a.block]?=some (.cells ca ta (0,0)):=by rw [hbel.block _ (Array.getElem?_eq_some_iff.1 HA.out).1];exact HA.out
    have hwb:wr.heap[b.block]?=some (.cells cb tb (0,0)):=by rw [hbel.block _ (Array.getElem?_eq_some_iff.1 HB.out).1];exact HB.out
    by_cases hab:a=b
    · subst hab
      have heq:=run_eql_iface_ptr_same (P:=Tryz.prog) wr a Tryz.underlying118 Tryz.underlying331 hi hcmp hj
      clear hwa hwb hne hbel
      go_wp2
      go_ret
      exact ⟨by simp,HBL.out⟩
    · have heq:=run_eql_iface_ptr_other (P:=Tryz.prog) wr Tryz.underlying118 Tryz.underlying331 hi hcmp hj (by rw [hjs];decide) hab hwa hwb
      have hd:decide (a=b)=false:=decide_eq_false hab
      have HD:=hide hd
      clear hwa hwb hne hbel hab hd
      go_wp2
      go_ret
      exact ⟨ret_bool HD.out.symm,HBL.out⟩
  | succ g =>
    obtain ⟨wh,c,rfl,hc⟩:=hne
    have HC:=hide hc
    obtain ⟨tc,xc,rfl⟩:=nest_iface hc
    have hty:=fun w=>run_eql_iface_types (P:=Tryz.prog) 171 331 (.agg #[.string wh,.iface tc xc]) (.pointer (some b)) Tryz.underlying118 (by decide) w
    clear hc hbel
    go_wp2_with fail
    refine (unwrap_any _ _ _).mono ?_
    rintro e w2 ⟨rfl,hb2⟩
    have HB2:=hide (HBL.out.trans (hb2.mono HBL.out.size))
    clear hb2
    go_wp2
    go_roundg g
    case measure=>omega
    case rel=>exact ⟨HC.out,HB2.out⟩
set_option maxHeartbeats 1600000 in
set_option maxRecDepth 100000 in
theorem is_any (a b:Addr) (ca cb:Array Value) (ta tb:TypeId) (n:Nat) (v:Value) (w:World) (hn:Nest a n v) (ha:w.heap[a.block]?=some (.cells ca ta (0,0))) (hb:w.heap[b.block]?=some (.cells cb tb (0,0))) :
 Calls Tryz.prog 84 #[v,.iface 331 (.pointer (some b))] w fun e w'=>e=.returned (.bool (decide (a=b)))∧Below w.heap.size w w':=by
 have cL:=hide (is_loop a b ca cb ta tb n v w hn ha hb)
 obtain ⟨t0,x0,rfl⟩:=nest_iface hn
 have h8:=@run_callFunc_extern Tryz.prog 122 _ Extern.ReflectliteType.typeOf Tryz.func122 (by kernel_rfl) (by kernel_rfl) (by kernel_rfl) (by kernel_rfl)
 have tT:=isTypeOf
 have cT:=callComparable
 have mR:=isMethodComparable
 clear hn ha hb
 go_enter Tryz.func84,Tryz.ntmps84
 go_wp2_with (go_at_call 123;refine (unhide cL).mono ?_;rintro e w2 ⟨rfl,hb2⟩)
 go_ret
 exact ⟨rfl,by assumption⟩
structure Errs (ash aw:Addr) (w:World):Prop where
 short:w.cell? ⟨1,0,none⟩=some (.iface 331 (.pointer (some ash)))
 wrong:w.cell? ⟨0,0,none⟩=some (.iface 331 (.pointer (some aw)))
 ne:ash≠aw
 bsh:∃ c t,w.heap[ash.block]?=some (.cells c t (0,0))
 bw:∃ c t,w.heap[aw.block]?=some (.cells c t (0,0))
theorem Errs.below {ash aw:Addr} {w w':World} (h:Errs ash aw w) (hb:Below w.heap.size w w'):Errs ash aw w':=by
 obtain ⟨h1,h2,h3,⟨c1,t1,h4⟩,c2,t2,h5⟩:=h
 exact ⟨by rw [hb.cell (topWalks.cell_lt h1)];exact h1,by rw [hb.cell (topWalks.cell_lt h2)];exact h2,h3,⟨c1,t1,by rw [hb.block _ (Array.getElem?_eq_some_iff.1 h4).1];exact h4⟩,c2,t2,by rw [hb.block _ (Array.getElem?_eq_some_iff.1 h5).1];exact h5⟩
set_option maxHeartbeats 800000 in
theorem errno_nil (w:World):Calls Tryz.prog 54 #[.nilIface] w fun e w'=>e=.returned (.int .i64 0)∧w'=w:=by
 go_enter Tryz.func54,Tryz.ntmps54
 go_wp2
 go_ret
 exact ⟨rfl,rfl⟩
set_option maxHeartbeats 800000 in
theorem errno_short (ash aw:Addr) (n:Nat) (v:Value) (w:World) (hE:Errs ash aw w) (hn:Nest ash n v):Calls Tryz.prog 54 #[v] w fun e w'=>e=.returned (.int .i64 3)∧Below w.heap.size w w':=by
 obtain ⟨c1,t1,h4⟩:=hE.bsh
 have cI:=hide (is_any ash ash c1 c1 t1 t1 n v w hn h4 h4)
 rw [decide_eq_true (rfl:ash=ash)] at cI
 have hs:=hE.short
 obtain ⟨t0,x0,rfl⟩:=nest_iface hn
 clear hE hn h4
 go_enter Tryz.func54,Tryz.ntmps54
 go_wp2_with (go_at_call 84;refine (unhide cI).mono ?_;rintro e w2 ⟨rfl,hb2⟩)
 go_ret
 exact ⟨rfl,by assumption⟩
set_option maxHeartbeats 800000 in
theorem errno_wrong (ash aw:Addr) (n:Nat) (v:Value) (w:World) (hE:Errs ash aw w) (hn:Nest aw n v):Calls Tryz.prog 54 #[v] w fun e w'=>e=.returned (.int .i64 2)∧Below w.heap.size w w':=by
 obtain ⟨c1,t1,h4⟩:=hE.bsh
 obtain ⟨c2,t2,h5⟩:=hE.bw
 have cI:=hide (is_any aw ash c2 c1 t2 t1 n v w hn h5 h4)
 rw [decide_eq_false (fun e=>hE.ne e.symm)] at cI
 have hs:=hE.short
 obtain ⟨t0,x0,rfl⟩:=nest_iface hn
 clear hE hn h4 h5
 go_enter Tryz.func54,Tryz.ntmps54
 go_wp2_with (go_at_call 84;refine (unhide cI).mono ?_;rintro e w2 ⟨rfl,hb2⟩)
 go_ret
 exact ⟨rfl,by assumption⟩
end rd
namespace rd
open Go.RowKit topPlain topWalks decPlain
def lenL:List UInt8→Option (Option (Nat×Nat))
 | []=>none
 | x :: r=>if x.toNat < 128 then some (some (x.toNat,1)) else match r with
   | []=>none
   | y :: _=>if y.toNat=0∨127 < y.toNat∨300 < x.toNat - 128+128*y.toNat then some none else some (some (x.toNat - 128+128*y.toNat,2))
def LenPost (ash aw:Addr) (w:World) (R:Option (Option (Nat×Nat))) (e:Ending) (w':World):Prop:=
 Below w.heap.size w w'∧match R with
  | none=>∃ v,e=.returned (.tuple #[.int .i64 0,.int .i64 0,v])∧Nest ash 1 v
  | some none=>∃ v,e=.returned (.tuple #[.int .i64 0,.int .i64 0,v])∧Nest aw 1 v
  | some (some r)=>e=.returned (.tuple #[.int .i64 (r.1:Int),.int .i64 (r.2:Int),.nilIface])
theorem an128:∀ x:Fin 256,bits .andNot .u8 ((x.val:Nat):Int) 128=((x.val % 128:Nat):Int):=by decide +kernel
theorem ad128:∀ x:Fin 256,(bits .and .u8 ((x.val:Nat):Int) 128 == 0)=decide (x.val < 128):=by decide +kernel
theorem or0:∀ x:Fin 128,bits .or .i64 0 ((x.val:Nat):Int)=((x.val:Nat):Int):=by decide +kernel
theorem orJ (a c:Nat) (ha:a < 128) (hc:c < 128):bits .or .i64 (a:Int) ((c:Int)*128)=((a+128*c:Nat):Int):=by
 have h:bits .or .i64 (a:Int) ((c:Int)*128)=bits .or .i64 ((c:Int)*128) (a:Int):=by simp only [bits,BitVec.or_comm]
 rw [h,bits_join .i64 62 (by decide) wraps_i64 7 _ _ (by omega) (by omega) (by omega) (by omega) (by omega) (by omega)]
 omega
set_option maxHeartbeats 1600000 in
set_option maxRecDepth 100000 in
theorem readLength_any (ash aw:Addr) (w:World) (l:List UInt8) (v:Value) (hl:l.length≤1099511627776) (hv:BytesV w.heap.size w v l) (hE:Errs ash aw w) :
 Calls Tryz.prog 86 #[v] w (LenPost ash aw w (lenL l)):=by
 obtain ⟨b,off,cap,rfl,hc1,hc2,hb,hcell⟩:=hv
 have hs:=hE.short
 have hw:=hE.wrong
 clear hE
 match l,hcell,hc1,hl with
 | [],_,_,_ =>
   go_enter Tryz.func86,Tryz.ntmps86
   go_wp2_with fail
   refine wp_loop_rounds 1 ?_
   rw [rounds_succ]
   go_wp2
   go_quiet (fail)
   go_wp2
   go_ret3
   exact ⟨below_drewN (Below.refl _ _) _,_,rfl,_,_,rfl,rfl⟩
 | x :: r,hcell,hc1,hl =>
   have cx:=hcell 0 x rfl
   rw [Nat.add_zero] at cx
   have hxl:=x.toNat_lt
   have aX:=an128 ⟨x.toNat,hxl⟩
   have dX:=ad128 ⟨x.toNat,hxl⟩
   simp only at aX dX
   have hlp:(0:Int) < ((r.length+1:Nat):Int):=by omega
   simp only [List.length_cons] at hl hc1 ⊢
   by_cases hx:x.toNat < 128
   · rw [decide_eq_true hx] at dX
     rw [Nat.mod_eq_of_lt hx] at aX
     have oX:=or0 ⟨x.toNat,hx⟩
     simp only at oX
     have hR:lenL (x :: r)=some (some (x.toNat,1)):=by simp [lenL,hx]
     rw [hR]
     clear hcell hR
     go_enter Tryz.func86,Tryz.ntmps86
     go_wp2_with fail
     refine wp_loop_rounds 1 ?_
     rw [rounds_succ]
     go_wp2
     all_goals
      go_ret3
      refine ⟨Below.refl _ _,?_⟩
      simp_all
   · rw [decide_eq_false hx] at dX
     have hm:x.toNat % 128=x.toNat - 128:=by omega
     rw [hm] at aX
     have oX:=or0 ⟨x.toNat - 128,by omega⟩
     simp only at oX
     have hsub:((x.toNat - 128:Nat):Int)≤127:=by omega
     generalize hX:x.toNat - 128=X at *
     have HX:=hide hX
     clear hX hm
     match r,hcell,hc1,hl,hlp with
     | [],hcell,hc1,hl,hlp =>
       have hR:lenL [x]=none:=by simp [lenL,hx]
       rw [hR]
       clear hcell hR
       go_enter Tryz.func86,Tryz.ntmps86
       go_wp2_with fail
       refine wp_loop_rounds 2 ?_
       rw [rounds_succ]
       go_wp2
       rw [rounds_succ]
       go_wp2
       go_quiet (fail)
       go_wp2
       go_ret3
       exact ⟨below_drewN (Below.refl _ _) _,_,rfl,_,_,rfl,rfl⟩
     | y :: t,hcell,hc1,hl,hlp =>
       have cy:=hcell 1 y rfl
       have hyl:=y.toNat_lt
       have aY:=an128 ⟨y.toNat,hyl⟩
       have dY:=ad128 ⟨y.toNat,hyl⟩
       simp only at aY dY
       have hXl:X < 128:=by omega
       clear hcell
       simp only [List.length_cons] at hl hc1 hlp ⊢
       by_cases hy:y.toNat < 128
       · rw [decide_eq_true hy] at dY
         rw [Nat.mod_eq_of_lt hy] at aY
         have oY:=orJ X y.toNat hXl hy
         by_cases h0:y.toNat=0
         · have hR:lenL (x :: y :: t)=some none:=by simp [lenL,hx,h0]
           rw [hR]
           have hz:((y.toNat:Int) == 0)=true:=beq_iff_eq.2 (by omega)
           clear hR
           go_enter Tryz.func86,Tryz.ntmps86
           go_wp2_with fail
           refine wp_loop_rounds 2 ?_
           rw [rounds_succ]
           go_wp2
           rw [rounds_succ]
           go_wp2
           go_quiet (fail)
           go_wp2
           go_ret3
           exact ⟨below_drewN (Below.refl _ _) _,_,rfl,_,_,rfl,rfl⟩
         · have hnz:((y.toNat:Int) == 0)=false:=beq_eq_false_iff_ne.2 (by omega)
           by_cases h3:300 < X+128*y.toNat
           · have hR:lenL (x :: y :: t)=some none:=by
              simp only [lenL,hx,if_false,HX.out]
              rw [if_pos (by omega)]
             rw [hR]
             have hgt:(300:Int) < ((X+128*y.toNat:Nat):Int):=by omega
             clear hR h3
             generalize X+128*y.toNat=L at *
             go_enter Tryz.func86,Tryz.ntmps86
             go_wp2_with fail
             refine wp_loop_rounds 2 ?_
             rw [rounds_succ]
             go_wp2
             rw [rounds_succ]
             go_wp2
             go_quiet (fail)
             go_wp2
             go_ret3
             exact ⟨below_drewN (Below.refl _ _) _,_,rfl,_,_,rfl,rfl⟩
           · have hR:lenL (x :: y :: t)=some (some (X+128*y.toNat,2)):=by
              simp only [lenL,hx,if_false,HX.out]
              rw [if_neg (by omega)]
             rw [hR]
             have hgt:¬ ((300:Int) < ((X+128*y.toNat:Nat):Int)):=by omega
             clear hR h3
             generalize X+128*y.toNat=L at *
             go_enter Tryz.func86,Tryz.ntmps86
             go_wp2_with fail
             refine wp_loop_rounds 2 ?_
             rw [rounds_succ]
             go_wp2
             rw [rounds_succ]
             go_wp2
             go_ret3
             exact ⟨Below.refl _ _,rfl⟩
       · rw [decide_eq_false hy] at dY
         have hm2:y.toNat % 128=y.toNat - 128:=by omega
         rw [hm2] at aY
         have oY:=orJ X (y.toNat - 128) hXl (by omega)
         have hR:lenL (x :: y :: t)=some none:=by
          simp only [lenL,hx,if_false,HX.out]
          rw [if_pos (by omega)]
         rw [hR]
         have hY:((y.toNat - 128:Nat):Int)≤127:=by omega
         clear hR hm2
         have hL1:X+128*(y.toNat - 128)≤20000:=by omega
         generalize y.toNat - 128=Y at *
         generalize X+128*Y=L at *
         go_enter Tryz.func86,Tryz.ntmps86
         go_wp2_with fail
         refine wp_loop_rounds 2 ?_
         rw [rounds_succ]
         go_wp2
         rw [rounds_succ]
         go_wp2
         go_quiet (fail)
         go_wp2
         go_ret3
         exact ⟨below_drewN (Below.refl _ _) _,_,rfl,_,_,rfl,rfl⟩
end rd
end Go.Proofs.YtnmfmoimjkoieaaGreatDoor
