import Derived.Test.YtnmfmoimjkoieaaGreatDoorF43
namespace Go.Proofs.YtnmfmoimjkoieaaGreatDoor
namespace kp
open Go.RowKit topPlain topWalks decPlain br
open rd (ints)
def bareC (win que:Int):Array Value:=#[.pointer none,.slice none 0 0,.int .i64 0,.slice none 0 0,.slice none 0 0,.int .i64 0,.int .i64 win,.int .i64 que]
set_option maxHeartbeats 1600000 in
set_option maxRecDepth 100000 in
theorem begun_any (win que qos:Int) (w:World) (PA PB PC PD:Nat→Nat→World→Prop)
 (h1:-9223372036854775808≤win) (h2:win≤9223372036854775807) (h3:-9223372036854775808≤que) (h4:que≤9223372036854775807) (h5:-9223372036854775808≤qos) (h6:qos≤9223372036854775807)
 (hsure:Calls Tryz.prog 18 #[] w fun e w'=>e=.returned (.bool true)∧Below w.heap.size w w')
 (hopen:∀ w' b,Below w.heap.size w w'→w.heap.size≤b→w'.heap[b]?=some (.cells (bareC (1+(pickN win 8:Int)) (pickN que 9:Int)) 77)→Calls Tryz.prog 22 #[.int .i64 (1+(pickN win 8:Int)),.int .i64 (pickN que 9:Int)] w' fun e w''=>∃ lb,e=.returned (.pointer (some ⟨lb,0,none⟩))∧w''.heap[b]?=w'.heap[b]?∧PA b lb (w''.setCell ⟨b,0,none⟩ (.pointer (some ⟨lb,0,none⟩))))
 (cA:∀ b lb w',PA b lb w'→w'.cell? ⟨b,0,none⟩=some (.pointer (some ⟨lb,0,none⟩)))
 (cB:∀ b lb w',PB b lb w'→w'.cell? ⟨b,0,none⟩=some (.pointer (some ⟨lb,0,none⟩)))
 (cC:∀ b lb w',PC b lb w'→w'.cell? ⟨b,0,none⟩=some (.pointer (some ⟨lb,0,none⟩)))
 (sB:∀ b lb w' w'',PB b lb w'→Below w'.heap.size w' w''→PB b lb w'')
 (hJ1:∀ b lb w1,PA b lb w1→Calls Tryz.prog 48 #[.pointer (some ⟨lb,0,none⟩),.int .i64 0,.string (bs [99]),.bool false] w1 fun e w2=>∃ v,e=.returned (.tuple #[v,.bool true])∧PB b lb w2)
 (hAs:∀ b lb w2,PB b lb w2→Calls Tryz.prog 49 #[.pointer (some ⟨lb,0,none⟩),.int .i64 0,.string (bs [35]),.int .i64 (pickN qos 3:Int)] w2 fun e w3=>e=.returned (.bool true)∧PC b lb w3)
 (hJ2:∀ b lb w3,PC b lb w3→Calls Tryz.prog 48 #[.pointer (some ⟨lb,0,none⟩),.int .i64 1,.string (bs [100]),.bool false] w3 fun e w4=>∃ v,e=.returned (.tuple #[v,.bool true])∧PD b lb w4) :
 Calls Tryz.prog 25 #[.int .i64 win,.int .i64 que,.int .i64 qos] w fun e w'=>∃ b lb,e=.returned (.pointer (some ⟨b,0,none⟩))∧PD b lb w':=by
 have HSu:=hide hsure
 have HOp:=hide hopen
 have HcA:=hide cA
 have HcB:=hide cB
 have HcC:=hide cC
 have HsB:=hide sB
 have HJ1:=hide hJ1
 have HAs:=hide hAs
 have HJ2:=hide hJ2
 have cPw:=hide fun w'=>pick_is win 8 w' (by omega) h1 h2 (by omega)
 have cPq:=hide fun w'=>pick_is que 9 w' (by omega) h3 h4 (by omega)
 have cPs:=hide fun w'=>pick_is qos 3 w' (by omega) h5 h6 (by omega)
 have l1:pickN win 8 < 8:=pickN_lt _ (by omega)
 have l2:pickN que 9 < 9:=pickN_lt _ (by omega)
 generalize pickN win 8=W at *
 generalize pickN que 9=Q at *
 generalize pickN qos 3=S at *
 clear hsure hopen cA cB cC sB hJ1 hAs hJ2
 go_enter Tryz.func25,Tryz.ntmps25
 go_wp2_with fail
 refine HSu.out.mono ?_
 rintro e w1 ⟨rfl,hB1⟩
 have HB1:=hide hB1
 clear hB1
 go_wp2_with fail
 refine (cPw.out _).mono ?_
 rintro e w2 ⟨rfl,hB2⟩
 have HB2:=hide (HB1.out.trans (hB2.mono HB1.out.size))
 clear hB2 HB1
 go_wp2_with fail
 refine (cPq.out _).mono ?_
 rintro e w3 ⟨rfl,hB3⟩
 have HB3:=hide (HB2.out.trans (hB3.mono HB2.out.size))
 clear hB3 HB2
 go_wp2_with fail
 have hn:=heap_alloc_new w3 (.cells #[.pointer none,.slice none 0 0,.int .i64 0,.slice none 0 0,.slice none 0 0,.int .i64 0,.int .i64 (1+(W:Int)),.int .i64 (Q:Int)] 77)
 have hB4:=HB3.out.alloc HB3.out.size (.cells #[.pointer none,.slice none 0 0,.int .i64 0,.slice none 0 0,.slice none 0 0,.int .i64 0,.int .i64 (1+(W:Int)),.int .i64 (Q:Int)] 77)
 generalize w3.alloc (.cells #[.pointer none,.slice none 0 0,.int .i64 0,.slice none 0 0,.slice none 0 0,.int .i64 0,.int .i64 (1+(W:Int)),.int .i64 (Q:Int)] 77)=W4 at *
 have hle:w.heap.size≤w3.heap.size:=HB3.out.size
 generalize w3.heap.size=b at *
 have c6:W4.cell? ⟨b,6,none⟩=some (.int .i64 (1+(W:Int))):=blk_cell hn rfl
 have c7:W4.cell? ⟨b,7,none⟩=some (.int .i64 (Q:Int)):=blk_cell hn rfl
 have cO:=hide (HOp.out W4.drew b hB4.drew hle hn)
 have HN:=hide hn
 clear hn hB4 HB3 HOp
 go_region_with (
  refine cO.out.mono ?_
  rintro e w5 ⟨lb,rfl,hk,hPA⟩
  have b5:w5.heap[b]?=_:=hk.trans HN.out
  have f0:w5.cell? ⟨b,0,none⟩=some (.pointer none):=blk_cell b5 rfl
  have g0:w5.frozen? ⟨b,0,none⟩=false:=blk_frozen b5
  have HPA:=hide hPA
  clear hk hPA b5)
 all_goals
  have a0:=HcA.out b lb _ HPA.out
  generalize w5.setCell ⟨b,0,none⟩ (.pointer (some ⟨lb,0,none⟩))=w6 at *
  clear cO c6 c7 f0 g0 HN
  go_wp2_with fail
  refine (HJ1.out b lb _ HPA.out).mono ?_
  rintro e w7 ⟨v7,rfl,hPB⟩
  have HPB:=hide hPB
  have a7:=HcB.out b lb _ hPB
  clear hPB a0
  have hl7:=cell_blt a7
  simp only at hl7
  go_wp2_with fail
  go_region_with (first
   | (go_at_call 21
      refine (cPs.out _).mono ?_
      rintro e w8 ⟨rfl,hB8⟩
      have hB78:Below w7.heap.size w7 w8:=(Below.refl w7.heap.size w7).drew.trans hB8
      have a8:w8.cell? ⟨b,0,none⟩=some (.pointer (some ⟨lb,0,none⟩)):=(hB78.cell (p:=⟨b,0,none⟩) hl7).trans a7
      have HPB8:=hide (HsB.out b lb _ _ HPB.out hB78)
      clear hB8 hB78)
   | (go_at_call 49
      refine (HAs.out b lb _ HPB8.out).mono ?_
      rintro e w9 ⟨rfl,hPC⟩
      have HPC:=hide hPC
      have a9:=HcC.out b lb _ hPC
      clear hPC))
  all_goals
   clear a7 a8
   go_wp2_with fail
   refine (HJ2.out b lb _ HPC.out).mono ?_
   rintro e w10 ⟨v10,rfl,hPD⟩
   have HPD:=hide hPD
   clear hPD a9
   go_wp2_with fail
   go_ret
   exact ⟨b,lb,rfl,HPD.out⟩
end kp
end Go.Proofs.YtnmfmoimjkoieaaGreatDoor
