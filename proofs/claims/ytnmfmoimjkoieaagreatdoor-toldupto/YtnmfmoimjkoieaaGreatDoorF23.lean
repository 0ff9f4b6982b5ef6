import Derived.Test.YtnmfmoimjkoieaaGreatDoorF18
set_option maxHeartbeats 25600000
set_option maxRecDepth 100000
set_option linter.all false
namespace Go.Proofs.YtnmfmoimjkoieaaGreatDoor
open Go.Proofs.Tryz
namespace lb
open Go.RowKit aD av aM rd lw
theorem below_drewN'{w wx:World}(h:Below w.heap.size w wx)(n:Nat):Below w.heap.size w (wx.drewN n):=below_drewN h n
theorem PX (w:World) (af:Nat) (sv:Value) (v:Nat→Value) (xs:Nat→List Value) (h:cX w af sv v xs) (h3:xs 3 = []) (h4:xs 4 = []) (h6:xs 6 = []) (h7:xs 7 = []) :
 Calls prog 13 #[.pointer (some ⟨af,0,none⟩)] w fun e w'=>e=.returned (.bool true)∧Below w.heap.size w w':=by
 have H:=ac fun wx (hb:Below w.heap.size w wx)=>h.below hb
 have mI:=ac fun wx (hb:Below w.heap.size w wx)=>ahd wx af sv v xs (h.below hb) (by rw [h6,h7])
 have I2:=ac fun (n i:Nat) (w:World) (hn:n≤4611686018427387904) (hi:i≤4611686018427387904)=>Ud n i w hn hi
 have xh:=h.lt'
 obtain ⟨p1,k1,e1⟩:=vV (h.own 1 (j3 (by omega) (by omega)))
 obtain ⟨p2,k2,e2⟩:=vV (h.own 2 (j3 (by omega) (by omega)))
 obtain ⟨p3,k3,e3⟩:=vV (h.own 3 (j3 (by omega) (by omega)))
 obtain ⟨gH,k4,e4⟩:=vV (h.own 4 (j3 (by omega) (by omega)))
 obtain ⟨jQ,k5,e5⟩:=vV (h.own 5 (j3 (by omega) (by omega)))
 have l1:=h.len 1 (j3 (by omega) (by omega))
 have l2:=h.len 2 (j3 (by omega) (by omega))
 have Aw:=h.len 5 (j3 (by omega) (by omega))
 rw [h3] at e3
 rw [h4] at e4
 have lJ:=ac fun wx (hb:Below w.heap.size w wx)=>show wx.cell? ⟨af,1,none⟩=some (.slice p1 (xs 1).length k1)∧wx.cell? ⟨af,2,none⟩=some (.slice p2 (xs 2).length k2)∧wx.cell? ⟨af,3,none⟩=some (.slice p3 0 k3)∧wx.cell? ⟨af,4,none⟩=some (.slice gH 0 k4)∧wx.cell? ⟨af,5,none⟩=some (.slice jQ (xs 5).length k5) by
  obtain ⟨_,c1,c2,c3,c4,c5,_,_⟩:=(h.below hb).cells
  rw [e1] at c1;rw [e2] at c2;rw [e3] at c3;rw [e4] at c4;rw [e5] at c5
  exact ⟨c1,c2,c3,c4,c5⟩
 have wB:=ac e1
 have H7:=ac e2
 have Rq:=ac e5
 clear h h3 h4 h6 h7 e1 e2 e3 e4 e5
 generalize VB:(xs 1).length=E1 at *
 have iY:=ac VB
 clear VB
 generalize Gs:(xs 2).length=G2 at *
 have HG2:=ac Gs
 clear Gs
 generalize VC:(xs 5).length=LH at *
 have abu:=ac VC
 clear VC
 go_enter func13,ntmps13
 go_wp2_with fail
 go_loopw [3] (fun i wx=>∃ (k:Nat),k≤E1∧i=.int .i64 k∧Below w.heap.size w wx) (fun i _=>E1 - (intOf i).toNat)
 case atStart=>exact ⟨0,cm _,rfl,aN _ _⟩
 case round =>
  obtain ⟨k,hk,rfl,hB⟩:=hrel
  obtain ⟨c1,c2,c3,c4,c5⟩:=lJ.aa _ hB
  have aB:=ac hB
  have hlr:af < wr.heap.size:=cw xh hB.size
  clear hB
  by_cases gF:k < E1
  · obtain ⟨u,hu⟩:∃ u,(xs 1)[k]?=some u:=⟨_,cS (by rw [iY.aa];exact gF)⟩
    obtain ⟨g,ad,m,cc,rfl,hg,hc,rfl,hm,_⟩:=(H.aa _ aB.aa).elem (j3 (by omega) (by omega)) wB.aa k u hu
    have HU:=ac hu
    clear hu
    go_wp2_with fail
    go_loopw [4] (fun i wx=>∃ (j:Nat),j≤m∧i=.int .i64 j∧Below w.heap.size w wx) (fun i _=>m - (intOf i).toNat)
    case atStart=>exact ⟨0,cm _,rfl,aB.aa⟩
    case round =>
     obtain ⟨j,hj,rfl,qO⟩:=hrel
     obtain ⟨d1,d2,d3,d4,d5⟩:=lJ.aa _ qO
     obtain ⟨gx,S0,mx,iC,e1,hgx,WA,e2,_,hh⟩:=(H.aa _ qO).elem (j3 (by omega) (by omega)) wB.aa k _ HU.aa
     cases e1
     cases e2
     have tW:=ac qO
     clear qO
     by_cases hjm:j < m
     · rcases hh with h0 | ⟨g2,rfl,hg2,hcell⟩
       · omega
       · have hcell:=hcell
         have q0:wr.cell? ⟨g2,j,none⟩=some (.int .u8 (rP (k / 4*4) j:Int)):=hcell j (by show _ < m*1;omega)
         have DT:((k / 4*4:Nat):Int)=(k:Int) / 4*4:=by omega
         have hdd:=ac (I2.aa (k / 4*4) j · (by omega) (by omega))
         rw [DT] at hdd
         have ar3:IntKind.i64.wrap ((k:Int) / 4)=(k:Int) / 4:=by rw [Bf];omega
         have ar4:IntKind.i64.wrap ((k:Int) / 4*4)=(k:Int) / 4*4:=by rw [Bf];omega
         clear DT hcell
         go_wp2_with fail
         go_quiet ((go_at_call 39;exact (hdd.aa _).mono fun _ _ h=>⟨h.1,_,h.2⟩))
         go_wp2
         go_roundw
         case rel=>exact ⟨j+1,by omega,by go_num,by first | exact tW.aa | exact tW.aa.drew | exact below_drewN' tW.aa _⟩
         case measure=>simp [intOf];omega
     · clear hh
       go_wp2
       go_roundw
       case rel=>exact ⟨k+1,by omega,by go_num,tW.aa⟩
       case measure=>simp [intOf];omega
  · go_wp2_with fail
    clear gF hk
    go_loopw [5] (fun i wx=>∃ (k:Nat),k≤G2∧i=.int .i64 k∧Below w.heap.size w wx) (fun i _=>G2 - (intOf i).toNat)
    case atStart=>exact ⟨0,cm _,rfl,aB.aa⟩
    case round =>
     obtain ⟨k,hk,rfl,hB⟩:=hrel
     obtain ⟨c1,c2,c3,c4,c5⟩:=lJ.aa _ hB
     have aB:=ac hB
     have hlr:af < wr.heap.size:=cw xh hB.size
     clear hB
     by_cases gF:k < G2
     · obtain ⟨u,hu⟩:∃ u,(xs 2)[k]?=some u:=⟨_,cS (by rw [HG2.aa];exact gF)⟩
       obtain ⟨g,ad,m,cc,rfl,hg,hc,rfl,hm,_⟩:=(H.aa _ aB.aa).elem (j3 (by omega) (by omega)) H7.aa k u hu
       have HU:=ac hu
       clear hu
       go_wp2_with fail
       go_loopw [6] (fun i wx=>∃ (j:Nat),j≤m∧i=.int .i64 j∧Below w.heap.size w wx) (fun i _=>m - (intOf i).toNat)
       case atStart=>exact ⟨0,cm _,rfl,aB.aa⟩
       case round =>
        obtain ⟨j,hj,rfl,qO⟩:=hrel
        obtain ⟨d1,d2,d3,d4,d5⟩:=lJ.aa _ qO
        obtain ⟨gx,S0,mx,iC,e1,hgx,WA,e2,_,hh⟩:=(H.aa _ qO).elem (j3 (by omega) (by omega)) H7.aa k _ HU.aa
        cases e1
        cases e2
        have tW:=ac qO
        clear qO
        by_cases hjm:j < m
        · rcases hh with h0 | ⟨g2,rfl,hg2,hcell⟩
          · omega
          · have hcell:=hcell
            have q0:wr.cell? ⟨g2,j*3,none⟩=some (.int .i64 (-1 - (k:Int) / 4*4)):=by
             rw [hcell (j*3) (by show _ < m*3;omega)]
             show some (xp k (j*3))=_
             unfold xp
             rw [ax (by omega),show ((k / 4*4:Nat):Int)=(k:Int) / 4*4 by omega]
            have q1:wr.cell? ⟨g2,j*3+1,none⟩=some (.slice none 0 0):=by
             rw [hcell (j*3+1) (by show _ < m*3;omega)]
             show some (xp k (j*3+1))=_
             unfold xp
             rw [au (by omega),ax (by omega)]
            have q2:wr.cell? ⟨g2,j*3+2,none⟩=some (.bool false):=by
             rw [hcell (j*3+2) (by show _ < m*3;omega)]
             show some (xp k (j*3+2))=_
             unfold xp
             rw [au (by omega),au (by omega)]
            have bO:=ac (tW.aa.alloc tW.aa.size (.cells #[.int .i64 (-1 - (k:Int) / 4*4),.slice none 0 0,.bool false] 66))
            clear hcell
            go_wp2
            go_roundw
            case rel=>exact ⟨j+1,by omega,by go_num,bO.aa⟩
            case measure=>simp [intOf];omega
        · clear hh
          go_wp2
          go_roundw
          case rel=>exact ⟨k+1,by omega,by go_num,tW.aa⟩
          case measure=>simp [intOf];omega
     · go_wp2_with fail
       clear gF hk
       go_loopw [8] (fun i wx=>i=.int .i64 0∧wx=wr) (fun _ _=>0)
       case atStart=>exact ⟨rfl,rfl⟩
       case round =>
        obtain ⟨rfl,rfl⟩:=hrel
        go_wp2_with fail
        go_loopw [10] (fun i wx=>i=.int .i64 0∧wx=wr) (fun _ _=>0)
        case atStart=>exact ⟨rfl,rfl⟩
        case round =>
         obtain ⟨rfl,rfl⟩:=hrel
         go_wp2_with fail
         go_loopw [12] (fun i wx=>∃ (k:Nat),k≤LH∧i=.int .i64 k∧Below w.heap.size w wx) (fun i _=>LH - (intOf i).toNat)
         case atStart=>exact ⟨0,cm _,rfl,aB.aa⟩
         case round =>
          obtain ⟨k,hk,rfl,hB⟩:=hrel
          obtain ⟨c1,c2,c3,c4,c5⟩:=lJ.aa _ hB
          have aB:=ac hB
          have hlr:af < wr.heap.size:=cw xh hB.size
          clear hB
          by_cases gF:k < LH
          · obtain ⟨u,hu⟩:∃ u,(xs 5)[k]?=some u:=⟨_,cS (by rw [abu.aa];exact gF)⟩
            obtain ⟨g,ad,m,cc,rfl,hg,hc,rfl,hm,_⟩:=(H.aa _ aB.aa).elem (j3 (by omega) (by omega)) Rq.aa k u hu
            have HU:=ac hu
            clear hu
            go_wp2_with fail
            go_loopw [13] (fun i wx=>∃ (j:Nat),j≤m∧i=.int .i64 j∧Below w.heap.size w wx) (fun i _=>m - (intOf i).toNat)
            case atStart=>exact ⟨0,cm _,rfl,aB.aa⟩
            case round =>
             obtain ⟨j,hj,rfl,qO⟩:=hrel
             obtain ⟨d1,d2,d3,d4,d5⟩:=lJ.aa _ qO
             obtain ⟨gx,S0,mx,iC,e1,hgx,WA,e2,_,hh⟩:=(H.aa _ qO).elem (j3 (by omega) (by omega)) Rq.aa k _ HU.aa
             cases e1
             cases e2
             have tW:=ac qO
             clear qO
             by_cases hjm:j < m
             · rcases hh with h0 | ⟨g2,rfl,hg2,hcell⟩
               · omega
               · have hcell:=hcell
                 have q0:wr.cell? ⟨g2,j,none⟩=some (.int .u8 251):=hcell j (by show _ < m*1;omega)
                 clear hcell
                 go_wp2
                 go_roundw
                 case rel=>exact ⟨j+1,by omega,by go_num,by first | exact tW.aa | exact tW.aa.drew⟩
                 case measure=>simp [intOf];omega
             · clear hh
               go_wp2
               go_roundw
               case rel=>exact ⟨k+1,by omega,by go_num,tW.aa⟩
               case measure=>simp [intOf];omega
          · go_wp2_with fail
            clear gF hk
            refine (mI.aa _ aB.aa).mono ?_
            rintro e jo ⟨rfl,n9,rfl⟩
            go_wp2
            go_ret
            exact ⟨rfl,below_drewN' aB.aa _⟩
end lb
end Go.Proofs.YtnmfmoimjkoieaaGreatDoor
