import Derived.Test.YtnmfmoimjkoieaaGreatDoorF06
import Derived.Test.YtnmfmoimjkoieaaGreatDoorF08
namespace Go.Proofs.YtnmfmoimjkoieaaGreatDoor
namespace rd
open Go.RowKit topPlain topWalks decPlain
def fixedF (k:Int):Int:=if k=6∨k=8∨k=10 then 2 else 0
def firstL (k f:Nat):Option Pkt:=
 if k=0∨15≤k then none
 else if k≠3 then (if (f:Int)=fixedF k then some { zeroP with kind:=(k:Int) } else none)
 else if 2 < f / 2 % 4∨decide (f / 8=1)=true∧f / 2 % 4=0 then none
 else some { zeroP with kind:=3,dup:=decide (f / 8=1),qos:=((f / 2 % 4:Nat):Int),retain:=decide (f % 2=1) }
def FirstPost (aw:Addr) (w:World) (R:Option Pkt) (e:Ending) (w':World):Prop:=
 Below w.heap.size w w'∧match R with
  | some p=>e=.returned (.tuple #[.agg (pkCells p),.nilIface])
  | none=>∃ v,e=.returned (.tuple #[.agg (pkCells zeroP),v])∧Nest aw 1 v
theorem ad15:∀ x:Fin 256,bits .and .i64 ((x.val:Nat):Int) 15=((x.val % 16:Nat):Int):=by decide +kernel
theorem ad8:∀ x:Fin 16,(bits .and .i64 ((x.val:Nat):Int) 8 != 0)=decide (x.val / 8=1):=by decide +kernel
theorem ad1:∀ x:Fin 16,(bits .and .i64 ((x.val:Nat):Int) 1 != 0)=decide (x.val % 2=1):=by decide +kernel
theorem adq:∀ x:Fin 16,bits .and .i64 (((x.val:Nat):Int) / 2) 3=((x.val / 2 % 4:Nat):Int):=by decide +kernel
set_option maxHeartbeats 800000 in
theorem fixedFlags_any (k:Int) (w:World):Calls Tryz.prog 119 #[.int .i64 k] w fun e w'=>e=.returned (.int .i64 (fixedF k))∧w'=w:=by
 unfold fixedF
 by_cases h:k=6∨k=8∨k=10
 · rw [if_pos h]
   rcases h with rfl | rfl | rfl
   all_goals
    go_enter Tryz.func119,Tryz.ntmps119
    go_wp2
    go_ret
    exact ⟨rfl,rfl⟩
 · rw [if_neg h]
   have h6:(k == 6)=false:=beq_eq_false_iff_ne.2 (by omega)
   have h8:(k == 8)=false:=beq_eq_false_iff_ne.2 (by omega)
   have h10:(k == 10)=false:=beq_eq_false_iff_ne.2 (by omega)
   clear h
   go_enter Tryz.func119,Tryz.ntmps119
   go_wp2
   go_ret
   exact ⟨rfl,rfl⟩
set_option maxHeartbeats 3200000 in
set_option maxRecDepth 100000 in
theorem first_none (aw:Addr) (w:World) (b k f:Nat) (hbl:(b:Int) < 256) (hw:w.cell? ⟨0,0,none⟩=some (.iface 331 (.pointer (some aw)))) (h15:bits .and .i64 (b:Int) 15=(f:Int)) (hdiv:(b:Int) / 16=(k:Int)) (_hF:f < 16) (hk:k=0) :
 Calls Tryz.prog 85 #[.int .u8 (b:Int)] w (FirstPost aw w (none)):=by
 have lt:∀ o,(w.alloc o).cell? ⟨0,0,none⟩=some (.iface 331 (.pointer (some aw))):=fun o=>by rw [alloc_keep (topWalks.cell_lt hw)];exact hw
 have lt2:∀ o o',((w.alloc o).alloc o').cell? ⟨0,0,none⟩=some (.iface 331 (.pointer (some aw))):=fun o o'=>by rw [alloc_keep (topWalks.cell_lt (lt o))];exact lt o
 subst hk
 go_enter Tryz.func85,Tryz.ntmps85
 go_wp2
 go_region
 go_wp2
 refine bodyPost_ret (v:=.tuple #[.agg (pkCells zeroP),.iface 171 (.agg #[.string ⟨#[107,105,110,100]⟩,.iface 331 (.pointer (some aw))])]) (by simp [results,Tryz.results85,go_sem,pkCells,zeroP,bs]) rfl ?_
 exact ⟨by first | exact ((Below.refl _ _).alloc (Nat.le_refl _) _).drew | exact (((Below.refl _ _).alloc (Nat.le_refl _) _).alloc (by simp) _).drew,_,rfl,_,_,rfl,rfl⟩
set_option maxHeartbeats 3200000 in
set_option maxRecDepth 100000 in
theorem first_many (aw:Addr) (w:World) (b k f:Nat) (hbl:(b:Int) < 256) (hw:w.cell? ⟨0,0,none⟩=some (.iface 331 (.pointer (some aw)))) (h15:bits .and .i64 (b:Int) 15=(f:Int)) (hdiv:(b:Int) / 16=(k:Int)) (_hF:f < 16) (hk:15≤k) :
 Calls Tryz.prog 85 #[.int .u8 (b:Int)] w (FirstPost aw w (none)):=by
 have lt:∀ o,(w.alloc o).cell? ⟨0,0,none⟩=some (.iface 331 (.pointer (some aw))):=fun o=>by rw [alloc_keep (topWalks.cell_lt hw)];exact hw
 have lt2:∀ o o',((w.alloc o).alloc o').cell? ⟨0,0,none⟩=some (.iface 331 (.pointer (some aw))):=fun o o'=>by rw [alloc_keep (topWalks.cell_lt (lt o))];exact lt o
 have hk0:((k:Int) == 0)=false:=beq_eq_false_iff_ne.2 (by omega)
 have hk15:(15:Int)≤(k:Int):=by omega
 go_enter Tryz.func85,Tryz.ntmps85
 go_wp2
 go_region
 go_wp2
 refine bodyPost_ret (v:=.tuple #[.agg (pkCells zeroP),.iface 171 (.agg #[.string ⟨#[107,105,110,100]⟩,.iface 331 (.pointer (some aw))])]) (by simp [results,Tryz.results85,go_sem,pkCells,zeroP,bs]) rfl ?_
 exact ⟨by first | exact ((Below.refl _ _).alloc (Nat.le_refl _) _).drew | exact (((Below.refl _ _).alloc (Nat.le_refl _) _).alloc (by simp) _).drew,_,rfl,_,_,rfl,rfl⟩
set_option maxHeartbeats 3200000 in
set_option maxRecDepth 100000 in
theorem first_flags (aw:Addr) (w:World) (b k f:Nat) (hbl:(b:Int) < 256) (hw:w.cell? ⟨0,0,none⟩=some (.iface 331 (.pointer (some aw)))) (h15:bits .and .i64 (b:Int) 15=(f:Int)) (hdiv:(b:Int) / 16=(k:Int)) (_hF:f < 16) (h0:¬ (k=0∨15≤k)) (h3:k≠3) (hf:(f:Int)=fixedF k) :
 Calls Tryz.prog 85 #[.int .u8 (b:Int)] w (FirstPost aw w (some { zeroP with kind:=(k:Int) })):=by
 have lt:∀ o,(w.alloc o).cell? ⟨0,0,none⟩=some (.iface 331 (.pointer (some aw))):=fun o=>by rw [alloc_keep (topWalks.cell_lt hw)];exact hw
 have lt2:∀ o o',((w.alloc o).alloc o').cell? ⟨0,0,none⟩=some (.iface 331 (.pointer (some aw))):=fun o o'=>by rw [alloc_keep (topWalks.cell_lt (lt o))];exact lt o
 have hk0:((k:Int) == 0)=false:=beq_eq_false_iff_ne.2 (by omega)
 have hk15:¬ ((15:Int)≤(k:Int)):=by omega
 have hk3:((k:Int) == 3)=false:=beq_eq_false_iff_ne.2 (by omega)
 have cF:=hide fun w=>fixedFlags_any (k:Int) w
 have hfb:((f:Int) == fixedF k)=true:=beq_iff_eq.2 hf
 generalize fixedF (k:Int)=X at *
 clear hf h0 h3
 go_enter Tryz.func85,Tryz.ntmps85
 go_wp2_with (go_at_call 119;refine (unhide cF _).mono ?_;rintro e w2 ⟨rfl,rfl⟩)
 refine bodyPost_ret (v:=.tuple #[.agg (pkCells { zeroP with kind:=(k:Int) }),.nilIface]) (by simp [results,Tryz.results85,go_sem,pkCells,zeroP,bs]) rfl ?_
 exact ⟨((Below.refl _ _).alloc (Nat.le_refl _) _).alloc (by simp) _,rfl⟩
set_option maxHeartbeats 3200000 in
set_option maxRecDepth 100000 in
theorem first_wrong (aw:Addr) (w:World) (b k f:Nat) (hbl:(b:Int) < 256) (hw:w.cell? ⟨0,0,none⟩=some (.iface 331 (.pointer (some aw)))) (h15:bits .and .i64 (b:Int) 15=(f:Int)) (hdiv:(b:Int) / 16=(k:Int)) (_hF:f < 16) (h0:¬ (k=0∨15≤k)) (h3:k≠3) (hf:¬ (f:Int)=fixedF k) :
 Calls Tryz.prog 85 #[.int .u8 (b:Int)] w (FirstPost aw w (none)):=by
 have lt:∀ o,(w.alloc o).cell? ⟨0,0,none⟩=some (.iface 331 (.pointer (some aw))):=fun o=>by rw [alloc_keep (topWalks.cell_lt hw)];exact hw
 have lt2:∀ o o',((w.alloc o).alloc o').cell? ⟨0,0,none⟩=some (.iface 331 (.pointer (some aw))):=fun o o'=>by rw [alloc_keep (topWalks.cell_lt (lt o))];exact lt o
 have hk0:((k:Int) == 0)=false:=beq_eq_false_iff_ne.2 (by omega)
 have hk15:¬ ((15:Int)≤(k:Int)):=by omega
 have hk3:((k:Int) == 3)=false:=beq_eq_false_iff_ne.2 (by omega)
 have cF:=hide fun w=>fixedFlags_any (k:Int) w
 have hfb:((f:Int) == fixedF k)=false:=beq_eq_false_iff_ne.2 hf
 generalize fixedF (k:Int)=X at *
 clear hf h0 h3
 go_enter Tryz.func85,Tryz.ntmps85
 go_wp2_with (go_at_call 119;refine (unhide cF _).mono ?_;rintro e w2 ⟨rfl,rfl⟩)
 go_region
 go_wp2
 refine bodyPost_ret (v:=.tuple #[.agg (pkCells zeroP),.iface 171 (.agg #[.string ⟨#[102,108,97,103,115]⟩,.iface 331 (.pointer (some aw))])]) (by simp [results,Tryz.results85,go_sem,pkCells,zeroP,bs]) rfl ?_
 exact ⟨by first | exact ((Below.refl _ _).alloc (Nat.le_refl _) _).drew | exact (((Below.refl _ _).alloc (Nat.le_refl _) _).alloc (by simp) _).drew,_,rfl,_,_,rfl,rfl⟩
set_option maxHeartbeats 3200000 in
set_option maxRecDepth 100000 in
theorem first3_big (aw:Addr) (w:World) (b k f:Nat) (hbl:(b:Int) < 256) (hw:w.cell? ⟨0,0,none⟩=some (.iface 331 (.pointer (some aw)))) (h15:bits .and .i64 (b:Int) 15=(f:Int)) (hdiv:(b:Int) / 16=(k:Int)) (hF:f < 16) (hk:k=3) (hq2:2 < f / 2 % 4) :
 Calls Tryz.prog 85 #[.int .u8 (b:Int)] w (FirstPost aw w (none)):=by
 have lt:∀ o,(w.alloc o).cell? ⟨0,0,none⟩=some (.iface 331 (.pointer (some aw))):=fun o=>by rw [alloc_keep (topWalks.cell_lt hw)];exact hw
 have lt2:∀ o o',((w.alloc o).alloc o').cell? ⟨0,0,none⟩=some (.iface 331 (.pointer (some aw))):=fun o o'=>by rw [alloc_keep (topWalks.cell_lt (lt o))];exact lt o
 subst hk
 have a8:=ad8 ⟨f,hF⟩
 have a1:=ad1 ⟨f,hF⟩
 have aq:=adq ⟨f,hF⟩
 simp only at a8 a1 aq
 have hq4:f / 2 % 4 < 4:=Nat.mod_lt _ (by decide)
 generalize f / 2 % 4=Q at *
 generalize decide (f / 8=1)=D at *
 generalize decide (f % 2=1)=T at *
 have hz:(2:Int) < (Q:Int):=by omega
 go_enter Tryz.func85,Tryz.ntmps85
 go_wp2
 go_region
 go_wp2
 refine bodyPost_ret (v:=.tuple #[.agg (pkCells zeroP),.iface 171 (.agg #[.string ⟨#[102,108,97,103,115]⟩,.iface 331 (.pointer (some aw))])]) (by simp [results,Tryz.results85,go_sem,pkCells,zeroP,bs]) rfl ?_
 exact ⟨by first | exact ((Below.refl _ _).alloc (Nat.le_refl _) _).drew | exact (((Below.refl _ _).alloc (Nat.le_refl _) _).alloc (by simp) _).drew,_,rfl,_,_,rfl,rfl⟩
set_option maxHeartbeats 3200000 in
set_option maxRecDepth 100000 in
theorem first3_no (aw:Addr) (w:World) (b k f:Nat) (hbl:(b:Int) < 256) (hw:w.cell? ⟨0,0,none⟩=some (.iface 331 (.pointer (some aw)))) (h15:bits .and .i64 (b:Int) 15=(f:Int)) (hdiv:(b:Int) / 16=(k:Int)) (hF:f < 16) (hk:k=3) (hq2:¬ 2 < f / 2 % 4) (hD:decide (f / 8=1)=false) :
 Calls Tryz.prog 85 #[.int .u8 (b:Int)] w (FirstPost aw w (some { zeroP with kind:=3,dup:=false,qos:=((f / 2 % 4:Nat):Int),retain:=decide (f % 2=1) })):=by
 have lt:∀ o,(w.alloc o).cell? ⟨0,0,none⟩=some (.iface 331 (.pointer (some aw))):=fun o=>by rw [alloc_keep (topWalks.cell_lt hw)];exact hw
 have lt2:∀ o o',((w.alloc o).alloc o').cell? ⟨0,0,none⟩=some (.iface 331 (.pointer (some aw))):=fun o o'=>by rw [alloc_keep (topWalks.cell_lt (lt o))];exact lt o
 subst hk
 have a8:=ad8 ⟨f,hF⟩
 have a1:=ad1 ⟨f,hF⟩
 have aq:=adq ⟨f,hF⟩
 simp only at a8 a1 aq
 have hq4:f / 2 % 4 < 4:=Nat.mod_lt _ (by decide)
 generalize f / 2 % 4=Q at *
 generalize decide (f / 8=1)=D at *
 generalize decide (f % 2=1)=T at *
 have hz:¬ ((2:Int) < (Q:Int)):=by omega
 subst hD
 clear hq2
 go_enter Tryz.func85,Tryz.ntmps85
 go_wp2
 refine bodyPost_ret (v:=.tuple #[.agg (pkCells { zeroP with kind:=3,dup:=false,qos:=(Q:Int),retain:=T }),.nilIface]) (by simp [results,Tryz.results85,go_sem,pkCells,zeroP,bs]) rfl ?_
 exact ⟨((Below.refl _ _).alloc (Nat.le_refl _) _).alloc (by simp) _,rfl⟩
set_option maxHeartbeats 3200000 in
set_option maxRecDepth 100000 in
theorem first3_zero (aw:Addr) (w:World) (b k f:Nat) (hbl:(b:Int) < 256) (hw:w.cell? ⟨0,0,none⟩=some (.iface 331 (.pointer (some aw)))) (h15:bits .and .i64 (b:Int) 15=(f:Int)) (hdiv:(b:Int) / 16=(k:Int)) (hF:f < 16) (hk:k=3) (hD:decide (f / 8=1)=true) (hq0:f / 2 % 4=0) :
 Calls Tryz.prog 85 #[.int .u8 (b:Int)] w (FirstPost aw w (none)):=by
 have lt:∀ o,(w.alloc o).cell? ⟨0,0,none⟩=some (.iface 331 (.pointer (some aw))):=fun o=>by rw [alloc_keep (topWalks.cell_lt hw)];exact hw
 have lt2:∀ o o',((w.alloc o).alloc o').cell? ⟨0,0,none⟩=some (.iface 331 (.pointer (some aw))):=fun o o'=>by rw [alloc_keep (topWalks.cell_lt (lt o))];exact lt o
 subst hk
 have a8:=ad8 ⟨f,hF⟩
 have a1:=ad1 ⟨f,hF⟩
 have aq:=adq ⟨f,hF⟩
 simp only at a8 a1 aq
 have hq4:f / 2 % 4 < 4:=Nat.mod_lt _ (by decide)
 generalize f / 2 % 4=Q at *
 generalize decide (f / 8=1)=D at *
 generalize decide (f % 2=1)=T at *
 have hz:¬ ((2:Int) < (Q:Int)):=by omega
 subst hD
 have hqb:((Q:Int) == 0)=true:=beq_iff_eq.2 (by omega)
 clear hq0
 go_enter Tryz.func85,Tryz.ntmps85
 go_wp2
 go_region
 go_wp2
 refine bodyPost_ret (v:=.tuple #[.agg (pkCells zeroP),.iface 171 (.agg #[.string ⟨#[102,108,97,103,115]⟩,.iface 331 (.pointer (some aw))])]) (by simp [results,Tryz.results85,go_sem,pkCells,zeroP,bs]) rfl ?_
 exact ⟨by first | exact ((Below.refl _ _).alloc (Nat.le_refl _) _).drew | exact (((Below.refl _ _).alloc (Nat.le_refl _) _).alloc (by simp) _).drew,_,rfl,_,_,rfl,rfl⟩
set_option maxHeartbeats 3200000 in
set_option maxRecDepth 100000 in
theorem first3_yes (aw:Addr) (w:World) (b k f:Nat) (hbl:(b:Int) < 256) (hw:w.cell? ⟨0,0,none⟩=some (.iface 331 (.pointer (some aw)))) (h15:bits .and .i64 (b:Int) 15=(f:Int)) (hdiv:(b:Int) / 16=(k:Int)) (hF:f < 16) (hk:k=3) (hq2:¬ 2 < f / 2 % 4) (hD:decide (f / 8=1)=true) (hq0:¬ f / 2 % 4=0) :
 Calls Tryz.prog 85 #[.int .u8 (b:Int)] w (FirstPost aw w (some { zeroP with kind:=3,dup:=true,qos:=((f / 2 % 4:Nat):Int),retain:=decide (f % 2=1) })):=by
 have lt:∀ o,(w.alloc o).cell? ⟨0,0,none⟩=some (.iface 331 (.pointer (some aw))):=fun o=>by rw [alloc_keep (topWalks.cell_lt hw)];exact hw
 have lt2:∀ o o',((w.alloc o).alloc o').cell? ⟨0,0,none⟩=some (.iface 331 (.pointer (some aw))):=fun o o'=>by rw [alloc_keep (topWalks.cell_lt (lt o))];exact lt o
 subst hk
 have a8:=ad8 ⟨f,hF⟩
 have a1:=ad1 ⟨f,hF⟩
 have aq:=adq ⟨f,hF⟩
 simp only at a8 a1 aq
 have hq4:f / 2 % 4 < 4:=Nat.mod_lt _ (by decide)
 generalize f / 2 % 4=Q at *
 generalize decide (f / 8=1)=D at *
 generalize decide (f % 2=1)=T at *
 have hz:¬ ((2:Int) < (Q:Int)):=by omega
 subst hD
 have hqb:((Q:Int) == 0)=false:=beq_eq_false_iff_ne.2 (by omega)
 clear hq2 hq0
 go_enter Tryz.func85,Tryz.ntmps85
 go_wp2
 refine bodyPost_ret (v:=.tuple #[.agg (pkCells { zeroP with kind:=3,dup:=true,qos:=(Q:Int),retain:=T }),.nilIface]) (by simp [results,Tryz.results85,go_sem,pkCells,zeroP,bs]) rfl ?_
 exact ⟨((Below.refl _ _).alloc (Nat.le_refl _) _).alloc (by simp) _,rfl⟩
theorem readFirst_any (ash aw:Addr) (w:World) (b:Nat) (hb:b < 256) (hE:Errs ash aw w) :
 Calls Tryz.prog 85 #[.int .u8 (b:Int)] w (FirstPost aw w (firstL (b / 16) (b % 16))):=by
 have hw:=hE.wrong
 have h15:=ad15 ⟨b,hb⟩
 simp only at h15
 have hF:b % 16 < 16:=by omega
 have hdiv:(b:Int) / 16=((b / 16:Nat):Int):=by omega
 have hbl:(b:Int) < 256:=by omega
 clear hE
 generalize b / 16=k at *
 generalize b % 16=f at *
 unfold firstL
 by_cases h0:k=0∨15≤k
 · rw [if_pos h0]
   rcases h0 with h0 | h0
   · exact first_none aw w b k f hbl hw h15 hdiv hF h0
   · exact first_many aw w b k f hbl hw h15 hdiv hF h0
 · rw [if_neg h0]
   by_cases h3:k=3
   · rw [if_neg (by simpa using h3)]
     by_cases hq2:2 < f / 2 % 4
     · rw [if_pos (Or.inl hq2)]
       exact first3_big aw w b k f hbl hw h15 hdiv hF h3 hq2
     · cases hD:decide (f / 8=1)
       · rw [if_neg (by simp;omega)]
         exact first3_no aw w b k f hbl hw h15 hdiv hF h3 hq2 hD
       · by_cases hq0:f / 2 % 4=0
         · rw [if_pos (Or.inr ⟨rfl,hq0⟩)]
           exact first3_zero aw w b k f hbl hw h15 hdiv hF h3 hD hq0
         · rw [if_neg (by simp;omega)]
           exact first3_yes aw w b k f hbl hw h15 hdiv hF h3 hq2 hD hq0
   · rw [if_pos h3]
     by_cases hf:(f:Int)=fixedF k
     · rw [if_pos hf]
       exact first_flags aw w b k f hbl hw h15 hdiv hF h0 h3 hf
     · rw [if_neg hf]
       exact first_wrong aw w b k f hbl hw h15 hdiv hF h0 h3 hf
end rd
end Go.Proofs.YtnmfmoimjkoieaaGreatDoor
