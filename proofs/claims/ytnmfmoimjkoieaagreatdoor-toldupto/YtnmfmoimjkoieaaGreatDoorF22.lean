import Derived.Test.YtnmfmoimjkoieaaGreatDoorF19
set_option maxHeartbeats 25600000
set_option maxRecDepth 100000
set_option linter.all false
namespace Go.Proofs.YtnmfmoimjkoieaaGreatDoor
open Go.Proofs.Tryz
variable{w w':World}{q:aM.ay}{R:Option (aM.ay×List (List UInt8×Int)×List Int)}
namespace bJ
open Go.RowKit aD av aM rd
theorem aeW (s:ByteArray) (p:ay) (w:World) (hs:s.size≤300) (hk:p.kind=3) (hI:av.Inv w) (hN:5≤w.heap.size) (aQ:p.fv=.slice none 0 0) (hcv:p.ae=.slice none 0 0) :
 Calls prog 69 #[.string s,.agg (aL p)] w (eV w (cC p s.data.toList)):=by
 have hB:=ac9 p s.data.toList hk
 unfold Nu at hB
 have hsz:=dI s
 have htl:=Ll s.data.toList 0
 have hal:=Q3 s.data.toList 0
 have M7:=fun w=>mn s 0 w (by omega) (by omega)
 generalize hT:cy s.data.toList 0=T at *
 obtain ⟨t,k⟩:=T
 simp only at hB htl hal M7
 have cV:Hid (∀ w,Calls prog 94 #[.string s,.int .i64 0] w fun e w'=>e=.returned (.tuple #[.string (bs t),.int .i64 k])∧∃ n,w'=w.drewN n):=ac M7
 have jb:=ac fun w hI=>QA (bs t) w (by rw [show (bs t).size=t.length from by rw [dI,dS]];unfold maxLen;omega) hI
 rw [dS] at jb
 have cO:Hid (∀ w,0≤k→Calls prog 96 #[.string s,.int .i64 k] w fun e w'=>e=.returned (.int .i64 (df s.data.toList k.toNat))∧∃ n,w'=w.drewN n):=ac fun w h0=>by
  have:=mb s k.toNat w (by omega)
  rw [show ((k.toNat:Nat):Int)=k by omega] at this
  exact this
 have WE:∀ n:Nat,n≤s.size→s.extract n s.size=bs (s.data.toList.drop n):=fun n hn=>by
  rw [yu,iV (by rw [eX,← hsz];omega)]
 have nV:=ac WE
 have hnl:1≤df s.data.toList k.toNat→k.toNat+2≤s.size:=fun h=>by
  by_cases hh:s.data.toList.length < k.toNat+2
  · rw [Ct _ _ hh] at h;omega
  · omega
 have kj:=ac hnl
 have dx:=ac fun p=>fG.begin w p hI hN
 have aB:=ac hB
 rw [← hsz] at htl hal
 clear hB hsz hT M7 WE hnl hI hN
 obtain ⟨kind,aR,will,ah,aq,aS,code,dup,qos,aF,ak,az,id,fv,ae⟩:=p
 obtain rfl:=aQ
 obtain rfl:=hcv
 obtain rfl:=hk
 simp only at aB
 generalize df s.data.toList k.toNat=num at *
 simp only [aL]
 go_enter func69,ntmps69
 go_wp2_with fail
 refine (aY cV _).mono ?_
 rintro e w1 ⟨rfl,n1,hw1⟩
 have H1:Hid (fG w w1 w.heap.size ⟨3,aR,will,ah,aq,aS,code,dup,qos,aF,ak,az,id,.slice none 0 0,.slice none 0 0⟩):=ac (by rw [hw1];exact (dx.aa ⟨3,aR,will,ah,aq,aS,code,dup,qos,aF,ak,az,id,.slice none 0 0,.slice none 0 0⟩).drawn n1)
 clear hw1 dx cV
 go_wp2_with fail
 refine (aY jb _ H1.aa.inv).mono ?_
 rintro e w2 ⟨rfl,hb2⟩
 have cg:=ac (H1.aa.vz hb2)
 clear hb2 H1 jb
 generalize fZ t=tb at *
 by_cases h0:k < 0
 · have aT:=ac (aB.aa.trans (bq (Option.map _) (ax (ai h0))))
   clear aB nV kj cO
   generalize cC _ s.data.toList=R at *
   have hD:=cg.aa
   have gH:=hD.aw.c4;have j4:=hD.aw.c8;have jg:=hD.aw.c10;have jh:=hD.aw.c11;have fM:=hD.aw.c12;have jI:=hD.aw.c13
   have gQ:=hD.lt
   have f4:=hD.aw.fz 4
   have f10:=hD.aw.fz 10
   have f11:=hD.aw.fz 11
   clear hD
   simp only at gH j4 jg jh fM jI
   go_wp2_with (first | refine rw.lB rfl rfl rfl cg.aa.aw ?_ | refine rw.st rfl rfl rfl rfl cg.aa.res ⟨_,_,_,rfl⟩ ⟨_,_,_,rfl⟩ ?_ | fail)
   exact nC cg.aa (by rfl) (by rfl) fun hb=>eV.bad (q:=⟨3,aR,will,ah,aq,aS,code,dup,qos,aF,ak,az,id,.slice none 0 0,.slice none 0 0⟩) aT.aa hb ⟨_,_,_,rfl⟩ ⟨_,_,_,rfl⟩
 · cases tb with
   | false =>
     have aT:=ac (aB.aa.trans (bq (Option.map _) (ax (ag rfl))))
     clear aB nV kj cO
     generalize cC _ s.data.toList=R at *
     have hD:=cg.aa
     have gH:=hD.aw.c4;have j4:=hD.aw.c8;have jg:=hD.aw.c10;have jh:=hD.aw.c11;have fM:=hD.aw.c12;have jI:=hD.aw.c13
     have gQ:=hD.lt
     have f4:=hD.aw.fz 4
     have f10:=hD.aw.fz 10
     have f11:=hD.aw.fz 11
     clear hD
     simp only at gH j4 jg jh fM jI
     go_wp2_with (first | refine rw.lB rfl rfl rfl cg.aa.aw ?_ | refine rw.st rfl rfl rfl rfl cg.aa.res ⟨_,_,_,rfl⟩ ⟨_,_,_,rfl⟩ ?_ | fail)
     exact nC cg.aa (by rfl) (by rfl) fun hb=>eV.bad (q:=⟨3,aR,will,ah,aq,aS,code,dup,qos,aF,ak,az,id,.slice none 0 0,.slice none 0 0⟩) aT.aa hb ⟨_,_,_,rfl⟩ ⟨_,_,_,rfl⟩
   | true =>
     have cJ:=aB.aa.trans (bq (Option.map _) (au (by simp;omega)))
     have bp:=ac cJ
     clear aB cJ
     have h0':0≤k:=by omega
     by_cases hq:0 < qos
     · have fU:=bp.aa.trans (bq (Option.map _) (ax hq))
       have fy:=ac fU
       clear fU bp
       have k8:=cg.aa.aw.c8
       have k10:=cg.aa.aw.c10
       have f10:=cg.aa.aw.fz 10
       have l2:=cg.aa.lt
       go_wp2_with fail
       have dX:=ac (cg.aa.set (cg.aa.aw.CH t))
       refine (aY cO _ h0').mono ?_
       rintro e w4 ⟨rfl,n4,hw4⟩
       have ij:Hid (fG w w4 w.heap.size ⟨3,aR,will,ah,aq,aS,code,dup,qos,aF,t,az,id,.slice none 0 0,.slice none 0 0⟩):=ac (by rw [hw4];exact dX.aa.drawn n4)
       clear hw4 cO k8 k10 f10 l2 cg dX
       by_cases hn:num < 1
       · have aT:=ac (fy.aa.trans (bq (Option.map _) (ax hn)))
         clear fy nV kj
         generalize cC _ s.data.toList=R at *
         have f12:=ij.aa.aw.fz 12
         have oN:=ac (ij.aa.set (ij.aa.aw.id num))
         have hD:=ij.aa
         have gH:=hD.aw.c4;have j4:=hD.aw.c8;have jg:=hD.aw.c10;have jh:=hD.aw.c11;have fM:=hD.aw.c12;have jI:=hD.aw.c13
         have gQ:=hD.lt
         have f4:=hD.aw.fz 4
         have f10:=hD.aw.fz 10
         have f11:=hD.aw.fz 11
         clear hD
         simp only at gH j4 jg jh fM jI
         go_wp2_with (first | refine rw.lB rfl rfl rfl oN.aa.aw ?_ | refine rw.st rfl rfl rfl rfl oN.aa.res ⟨_,_,_,rfl⟩ ⟨_,_,_,rfl⟩ ?_ | fail)
         exact nC oN.aa (by rfl) (by rfl) fun hb=>eV.bad (q:=⟨3,aR,will,ah,aq,aS,code,dup,qos,aF,t,az,num,.slice none 0 0,.slice none 0 0⟩) aT.aa hb ⟨_,_,_,rfl⟩ ⟨_,_,_,rfl⟩
       · have hkl:k.toNat+2≤s.size:=kj.aa (by omega)
         have aT:=ac (fy.aa.trans (bq (Option.map _) (au hn)))
         have hex:=nV.aa (k.toNat+2) hkl
         have abj:=ac hex
         clear fy nV kj hex
         generalize s.data.toList.drop (k.toNat+2)=dr at *
         generalize cC _ s.data.toList=R at *
         have f12:=ij.aa.aw.fz 12
         have oN:=ac (ij.aa.set (ij.aa.aw.id num))
         have xD:=ac (oN.aa.set (oN.aa.aw.CG dr))
         have hk2:k+2≤(s.size:Int):=by omega
         have ahT:(k+2).toNat=k.toNat+2:=by omega
         have ari:=abj.aa
         have hD:=ij.aa
         have gH:=hD.aw.c4;have j4:=hD.aw.c8;have jg:=hD.aw.c10;have jh:=hD.aw.c11;have fM:=hD.aw.c12;have jI:=hD.aw.c13
         have gQ:=hD.lt
         have f4:=hD.aw.fz 4
         have f10:=hD.aw.fz 10
         have f11:=hD.aw.fz 11
         clear hD
         simp only at gH j4 jg jh fM jI
         go_wp2_with (first | refine rw.lB rfl rfl rfl xD.aa.aw ?_ | refine rw.st rfl rfl rfl rfl xD.aa.res ⟨_,_,_,rfl⟩ ⟨_,_,_,rfl⟩ ?_ | fail)
         exact nC xD.aa (by rfl) (by rfl) fun hb=>eV.good (q:=⟨3,aR,will,ah,aq,aS,code,dup,qos,aF,t,dr,num,.slice none 0 0,.slice none 0 0⟩) aT.aa hb rfl rfl
     · have fU:=bp.aa.trans (bq (Option.map _) (au hq))
       have aT:=ac fU
       have hex:=nV.aa k.toNat (by omega)
       clear fU bp nV kj
       generalize s.data.toList.drop k.toNat=dr at *
       generalize cC _ s.data.toList=R at *
       have dX:=ac (cg.aa.set (cg.aa.aw.CH t))
       have ij:=ac (dX.aa.set (dX.aa.aw.CG dr))
       have hkl:k≤(s.size:Int):=by omega
       clear cO
       have hD:=cg.aa
       have gH:=hD.aw.c4;have j4:=hD.aw.c8;have jg:=hD.aw.c10;have jh:=hD.aw.c11;have fM:=hD.aw.c12;have jI:=hD.aw.c13
       have gQ:=hD.lt
       have f4:=hD.aw.fz 4
       have f10:=hD.aw.fz 10
       have f11:=hD.aw.fz 11
       clear hD
       simp only at gH j4 jg jh fM jI
       go_wp2_with (first | refine rw.lB rfl rfl rfl ij.aa.aw ?_ | refine rw.st rfl rfl rfl rfl ij.aa.res ⟨_,_,_,rfl⟩ ⟨_,_,_,rfl⟩ ?_ | fail)
       exact nC ij.aa (by rfl) (by rfl) fun hb=>eV.good (q:=⟨3,aR,will,ah,aq,aS,code,dup,qos,aF,t,dr,id,.slice none 0 0,.slice none 0 0⟩) aT.aa hb rfl rfl
theorem aeV (s:ByteArray) (p:ay) (w:World) (hs:s.size≤300) (hk:p.kind=4∨p.kind=5∨p.kind=6∨p.kind=7∨p.kind=11) (hI:av.Inv w) (hN:5≤w.heap.size) (aQ:p.fv=.slice none 0 0) (hcv:p.ae=.slice none 0 0) :
 Calls prog 69 #[.string s,.agg (aL p)] w (eV w (cC p s.data.toList)):=by
 have hB:=ac7 p s.data.toList hk
 have hsz:=dI s
 have cO:Hid (∀ w,Calls prog 96 #[.string s,.int .i64 0] w fun e w'=>e=.returned (.int .i64 (df s.data.toList 0))∧∃ n,w'=w.drewN n):=ac fun w=>mb s 0 w (by omega)
 have hnl:1≤df s.data.toList 0→2≤s.size:=fun h=>by
  by_cases hh:s.data.toList.length < 0+2
  · rw [Ct _ _ hh] at h;omega
  · omega
 have kj:=ac hnl
 have dx:=ac fun p=>fG.begin w p hI hN
 have aB:=ac hB
 obtain ⟨u,hu⟩:∃ u,s.extract 2 s.size=u:=⟨_,rfl⟩
 have qV:u=bs (s.data.toList.drop 2):=by
  rw [← hu,yu,iV (by rw [eX,← hsz];omega)]
 have nJ:u.size=(s.data.toList.drop 2).length:=by rw [qV,dI,dS]
 have xW:=ac qV
 have oQ:=ac nJ
 have G9:u.size=s.size - 2:=by rw [nJ,eX,← hsz]
 clear hB hsz hnl qV nJ
 clear hI hN
 obtain ⟨kind,aR,will,ah,aq,aS,code,dup,qos,aF,ak,az,id,fv,ae⟩:=p
 obtain rfl:=aQ
 obtain rfl:=hcv
 simp only at hk
 have hk1:(kind == 1)=false:=beq_eq_false_iff_ne.2 (by omega)
 have hk2:(kind == 2)=false:=beq_eq_false_iff_ne.2 (by omega)
 have hk3:(kind == 3)=false:=beq_eq_false_iff_ne.2 (by omega)
 have ahM:(kind == 12)=false:=beq_eq_false_iff_ne.2 (by omega)
 have ahN:(kind == 13)=false:=beq_eq_false_iff_ne.2 (by omega)
 have ahO:(kind == 14)=false:=beq_eq_false_iff_ne.2 (by omega)
 have mO:(kind == 8)=false:=beq_eq_false_iff_ne.2 (by omega)
 have O9:(kind == 10)=false:=beq_eq_false_iff_ne.2 (by omega)
 have ahP:(kind == 9)=false:=beq_eq_false_iff_ne.2 (by omega)
 clear hk
 simp only [aL]
 go_enter func69,ntmps69
 go_wp2_with fail
 refine (aY cO _).mono ?_
 rintro e w1 ⟨rfl,n1,hw1⟩
 have H1:Hid (fG w w1 w.heap.size ⟨kind,aR,will,ah,aq,aS,code,dup,qos,aF,ak,az,id,.slice none 0 0,.slice none 0 0⟩):=ac (by rw [hw1];exact (dx.aa ⟨kind,aR,will,ah,aq,aS,code,dup,qos,aF,ak,az,id,.slice none 0 0,.slice none 0 0⟩).drawn n1)
 clear hw1 dx cO
 generalize df s.data.toList 0=num at *
 have cg:=ac (H1.aa.set (H1.aa.aw.id num))
 have f12:=H1.aa.aw.fz 12
 by_cases hn:num < 1
 · have aT:=ac (aB.aa.trans (ax hn))
   clear aB kj xW oQ hu
   generalize cC _ s.data.toList=R at *
   have hD:=H1.aa
   have p0:=hD.aw.c0;have fM:=hD.aw.c12
   have gQ:=hD.lt
   have f4:=hD.aw.fz 4
   have f10:=hD.aw.fz 10
   have f11:=hD.aw.fz 11
   clear hD
   simp only at p0 fM
   go_wp2_with (first | refine rw.lB rfl rfl rfl cg.aa.aw ?_ | refine rw.st rfl rfl rfl rfl cg.aa.res ⟨_,_,_,rfl⟩ ⟨_,_,_,rfl⟩ ?_ | fail)
   exact nC cg.aa (by rfl) (by rfl) fun hb=>eV.bad (q:=⟨kind,aR,will,ah,aq,aS,code,dup,qos,aF,ak,az,num,.slice none 0 0,.slice none 0 0⟩) aT.aa hb ⟨_,_,_,rfl⟩ ⟨_,_,_,rfl⟩
 · have h2:2≤s.size:=kj.aa (by omega)
   have cJ:=aB.aa.trans (au hn)
   rw [← oQ.aa] at cJ
   have bp:=ac cJ
   have Jx:(2:Int)≤(s.size:Int):=by omega
   clear aB kj xW oQ cJ
   by_cases hz:u.size=0
   · have aT:=ac (bp.aa.trans (ax hz))
     have he:((u.size:Int) == 0)=true:=beq_iff_eq.2 (by omega)
     clear bp hz G9
     generalize cC _ s.data.toList=R at *
     have hD:=H1.aa
     have p0:=hD.aw.c0;have fM:=hD.aw.c12
     have gQ:=hD.lt
     have f4:=hD.aw.fz 4
     have f10:=hD.aw.fz 10
     have f11:=hD.aw.fz 11
     clear hD
     simp only at p0 fM
     go_wp2_with (first | refine rw.lB rfl rfl rfl cg.aa.aw ?_ | refine rw.st rfl rfl rfl rfl cg.aa.res ⟨_,_,_,rfl⟩ ⟨_,_,_,rfl⟩ ?_ | fail)
     exact nC cg.aa (by rfl) (by rfl) fun hb=>eV.good (q:=⟨kind,aR,will,ah,aq,aS,code,dup,qos,aF,ak,az,num,.slice none 0 0,.slice none 0 0⟩) aT.aa hb rfl rfl
   · have aT:=ac (bp.aa.trans (au hz))
     have he:((u.size:Int) == 0)=false:=beq_eq_false_iff_ne.2 (by omega)
     clear bp hz G9
     generalize cC _ s.data.toList=R at *
     have hD:=H1.aa
     have p0:=hD.aw.c0;have fM:=hD.aw.c12
     have gQ:=hD.lt
     have f4:=hD.aw.fz 4
     have f10:=hD.aw.fz 10
     have f11:=hD.aw.fz 11
     clear hD
     simp only at p0 fM
     go_wp2_with (first | refine rw.lB rfl rfl rfl cg.aa.aw ?_ | refine rw.st rfl rfl rfl rfl cg.aa.res ⟨_,_,_,rfl⟩ ⟨_,_,_,rfl⟩ ?_ | fail)
     exact nC cg.aa (by rfl) (by rfl) fun hb=>eV.bad (q:=⟨kind,aR,will,ah,aq,aS,code,dup,qos,aF,ak,az,num,.slice none 0 0,.slice none 0 0⟩) aT.aa hb ⟨_,_,_,rfl⟩ ⟨_,_,_,rfl⟩
theorem eV.af4{fs:List (List UInt8×Int)}{fv:Value}(hR:R=some (q,fs,[]))(hb:Below w.heap.size w w')(h1:w'.ownsRow w.heap.size 95 2 fv fs.length (ey fs))(h2:q.ae=.slice none 0 0):eV w R (.returned (.tuple #[.agg (aL {q with fv:=fv}),.bool true])) w':=by subst hR;obtain⟨kind,aR,will,ah,aq,aS,code,dup,qos,aF,ak,az,id,agr,ae⟩:=q;obtain rfl:=h2;exact⟨hb,_,_,rfl,h1,mG _ _ _ _⟩
theorem aeU (s:ByteArray) (p:ay) (w:World) (hs:s.size≤300) (hk:p.kind=8∨p.kind=10) (hI:av.Inv w) (hN:5≤w.heap.size) (aQ:p.fv=.slice none 0 0) (hcv:p.ae=.slice none 0 0) :
 Calls prog 69 #[.string s,.agg (aL p)] w (eV w (cC p s.data.toList)):=by
 have hB:=ac6 p s.data.toList hk
 have hsz:=dI s
 have cO:Hid (∀ w,Calls prog 96 #[.string s,.int .i64 0] w fun e w'=>e=.returned (.int .i64 (df s.data.toList 0))∧∃ n,w'=w.drewN n):=ac fun w=>mb s 0 w (by omega)
 have hnl:1≤df s.data.toList 0→2≤s.size:=fun h=>by
  by_cases hh:s.data.toList.length < 0+2
  · rw [Ct _ _ hh] at h;omega
  · omega
 have kj:=ac hnl
 have dx:=ac fun p=>fG.begin w p hI hN
 have aB:=ac hB
 obtain ⟨u,hu⟩:∃ u,s.extract 2 s.size=u:=⟨_,rfl⟩
 have qV:u=bs (s.data.toList.drop 2):=by
  rw [← hu,yu,iV (by rw [eX,← hsz];omega)]
 have nJ:u.size=(s.data.toList.drop 2).length:=by rw [qV,dI,dS]
 have xW:=ac qV
 have oQ:=ac nJ
 have G9:u.size=s.size - 2:=by rw [nJ,eX,← hsz]
 clear hB hsz hnl qV nJ
 have cr:=ac fun (k8:Bool) w' (hI:av.Inv w') (hN:5≤w'.heap.size)=>afj u k8 w' (by omega) hI hN
 rw [show u.data.toList=s.data.toList.drop 2 by rw [xW.aa,dS]] at cr
 clear hI
 obtain ⟨kind,aR,will,ah,aq,aS,code,dup,qos,aF,ak,az,id,fv,ae⟩:=p
 obtain rfl:=aQ
 obtain rfl:=hcv
 simp only at hk
 have hk1:(kind == 1)=false:=beq_eq_false_iff_ne.2 (by omega)
 have hk2:(kind == 2)=false:=beq_eq_false_iff_ne.2 (by omega)
 have hk3:(kind == 3)=false:=beq_eq_false_iff_ne.2 (by omega)
 have ahM:(kind == 12)=false:=beq_eq_false_iff_ne.2 (by omega)
 have ahN:(kind == 13)=false:=beq_eq_false_iff_ne.2 (by omega)
 have ahO:(kind == 14)=false:=beq_eq_false_iff_ne.2 (by omega)
 obtain ⟨k8,mO⟩:∃ k8,(kind == 8)=k8:=⟨_,rfl⟩
 have O9:k8=false→(kind == 10)=true:=fun h=>by
  subst h
  have:=beq_eq_false_iff_ne.1 mO
  exact beq_iff_eq.2 (hk.resolve_left this)
 simp only [mO] at aB
 clear hk
 simp only [aL]
 go_enter func69,ntmps69
 go_wp2_with fail
 refine (aY cO _).mono ?_
 rintro e w1 ⟨rfl,n1,hw1⟩
 have H1:Hid (fG w w1 w.heap.size ⟨kind,aR,will,ah,aq,aS,code,dup,qos,aF,ak,az,id,.slice none 0 0,.slice none 0 0⟩):=ac (by rw [hw1];exact (dx.aa ⟨kind,aR,will,ah,aq,aS,code,dup,qos,aF,ak,az,id,.slice none 0 0,.slice none 0 0⟩).drawn n1)
 clear hw1 dx cO
 generalize df s.data.toList 0=num at *
 have cg:=ac (H1.aa.set (H1.aa.aw.id num))
 have f12:=H1.aa.aw.fz 12
 by_cases hn:num < 1
 · have aT:=ac (aB.aa.trans (ax hn))
   clear aB kj xW oQ hu cr
   generalize cC _ s.data.toList=R at *
   have hD:=H1.aa
   have fM:=hD.aw.c12;have jI:=hD.aw.c13
   have gQ:=hD.lt
   have f4:=hD.aw.fz 4
   have f10:=hD.aw.fz 10
   have f11:=hD.aw.fz 11
   clear hD
   simp only at fM jI
   go_wp2_with (first | refine rw.lB rfl rfl rfl cg.aa.aw ?_ | refine rw.st rfl rfl rfl rfl cg.aa.res ⟨_,_,_,rfl⟩ ⟨_,_,_,rfl⟩ ?_ | fail)
   exact nC cg.aa (by rfl) (by rfl) fun hb=>eV.bad (q:=⟨kind,aR,will,ah,aq,aS,code,dup,qos,aF,ak,az,num,.slice none 0 0,.slice none 0 0⟩) aT.aa hb ⟨_,_,_,rfl⟩ ⟨_,_,_,rfl⟩
 · have h2:2≤s.size:=kj.aa (by omega)
   have bp:=ac (aB.aa.trans (au hn))
   have Jx:(2:Int)≤(s.size:Int):=by omega
   clear aB kj xW oQ
   have k0:=H1.aa.aw.c0
   have k12:=H1.aa.aw.c12
   have l1:=H1.aa.lt
   cases k8
   all_goals
    try have art:=O9 rfl
    clear O9
    go_wp2_with fail
    refine (aY cr _ _ cg.aa.inv (bi hN (ya (cw (by omega) (ya cg.aa.lt))))).mono ?_
    rintro e w3 ⟨hb3,v3,asm,rfl,Ps⟩
    have dX:=ac (cg.aa.vz hb3)
    unfold E0 at Ps
    have vh:=ac Ps
    clear Ps hb3 cr k0 k12 f12 l1
    generalize kv _ (some (s.data.toList.drop 2))=F at *
    obtain ⟨N2,st0⟩:=F
    simp only at vh bp
    have hC:w.heap.size+1 < (w1.setCell ⟨w.heap.size,12,none⟩ (.int .i64 num)).heap.size:=cg.aa.lt
    have HC:=ac hC
    clear hC
    cases hst:whole N2 st0 with
    | none =>
      rw [hst] at vh
      obtain ⟨rfl,q3,m3,c3,rfl⟩:=vh.aa
      have aT:Hid (cC ⟨kind,aR,will,ah,aq,aS,code,dup,qos,aF,ak,az,id,.slice none 0 0,.slice none 0 0⟩ s.data.toList=none):=ac (bp.aa.trans ((Ls (fun f:List (List UInt8×Int)=>((⟨kind,aR,will,ah,aq,aS,code,dup,qos,aF,ak,az,num,.slice none 0 0,.slice none 0 0⟩:ay),f,([]:List Int))) N2 st0).trans (by rw [hst];rfl)))
      clear bp vh hst hu Jx
      generalize cC _ s.data.toList=R at *
      have f13:=dX.aa.aw.fz 13
      have ij:=ac (dX.aa.set (dX.aa.aw.K7 (.slice q3 m3 c3)))
      have hD:=dX.aa
      have fM:=hD.aw.c12;have jI:=hD.aw.c13
      have gQ:=hD.lt
      have f4:=hD.aw.fz 4
      have f10:=hD.aw.fz 10
      have f11:=hD.aw.fz 11
      clear hD
      simp only at fM jI
      go_wp2_with (first | refine rw.lB rfl rfl rfl ij.aa.aw ?_ | refine rw.st rfl rfl rfl rfl ij.aa.res ⟨_,_,_,rfl⟩ ⟨_,_,_,rfl⟩ ?_ | fail)
      exact nC ij.aa (by rfl) (by rfl) fun hb=>eV.bad (q:=⟨kind,aR,will,ah,aq,aS,code,dup,qos,aF,ak,az,num,.slice q3 m3 c3,.slice none 0 0⟩) aT.aa hb ⟨_,_,_,rfl⟩ ⟨_,_,_,rfl⟩
    | some N3 =>
      rw [hst] at vh
      obtain ⟨rfl,Pn⟩:=vh.aa
      have L6:=ac Pn
      obtain ⟨q3,m3,c3,rfl⟩:=jH Pn
      have aT:Hid (cC ⟨kind,aR,will,ah,aq,aS,code,dup,qos,aF,ak,az,id,.slice none 0 0,.slice none 0 0⟩ s.data.toList=some (⟨kind,aR,will,ah,aq,aS,code,dup,qos,aF,ak,az,num,.slice none 0 0,.slice none 0 0⟩,N3,[])):=ac (bp.aa.trans ((Ls (fun f:List (List UInt8×Int)=>((⟨kind,aR,will,ah,aq,aS,code,dup,qos,aF,ak,az,num,.slice none 0 0,.slice none 0 0⟩:ay),f,([]:List Int))) N2 st0).trans (by rw [hst];rfl)))
      clear bp vh hst hu Jx Pn
      generalize cC _ s.data.toList=R at *
      have f13:=dX.aa.aw.fz 13
      have ij:=ac (dX.aa.set (dX.aa.aw.K7 (.slice q3 m3 c3)))
      have ue:=ac (bM L6.aa (show w.heap.size < _ from Nat.lt_trans (My _) HC.aa) (jt w3 w.heap.size 13 (.slice q3 m3 c3)))
      have hD:=dX.aa
      have fM:=hD.aw.c12;have jI:=hD.aw.c13
      have gQ:=hD.lt
      have f4:=hD.aw.fz 4
      have f10:=hD.aw.fz 10
      have f11:=hD.aw.fz 11
      clear hD
      simp only at fM jI
      have GQ:∀ CO,(w3.setCell ⟨w.heap.size,13,none⟩ (.slice q3 m3 c3)).grownBy CO (some (w.heap.size+1))→CO.ownsRow w.heap.size 95 2 (.slice q3 m3 c3) N3.length (ey N3):=fun CO hg=>Ht (bM ue.aa HC.aa hg) (ya (Nat.lt_trans (My _) HC.aa))
      have jU:=ac GQ
      clear GQ
      go_wp2_with (first | refine rw.lB rfl rfl rfl ij.aa.aw ?_ | refine rw.st rfl rfl rfl rfl ij.aa.res ⟨_,_,_,rfl⟩ ⟨_,_,_,rfl⟩ ?_ | fail)
      exact nC ij.aa (by rfl) (by rfl) fun hb=>eV.af4 (q:=⟨kind,aR,will,ah,aq,aS,code,dup,qos,aF,ak,az,num,.slice none 0 0,.slice none 0 0⟩) aT.aa hb (jU.aa _ (rw.Vf _ _ _)) rfl
theorem fG.other{w0:World}{B:Nat}{p:ay}(h:fG w0 w B p){row:Option Nat}(hg:w.grownBy w' row)(hrow:∀k,row=some k->B+1<k):fG w0 w' B p:=by
 have hlt:=h.lt;have eO:Below B w w':=⟨hg.os,hg.tape,hg.output,hg.size,λk hk=>hg.block k (by omega) (λe=>by have:=hrow k e.symm;omega)⟩;obtain⟨k,f⟩:=I0 hg (show B<w.heap.size by omega) (λe=>by have:=hrow B e.symm;omega);have hp:=h.aw;have hi:av.Inv w':=by cases row with|none=>exact yL (br:=B) h.inv h.low ⟨hg.os,hg.tape,hg.output,hg.size,λi hi _=>hg.block i hi (by simp)⟩|some k=>exact yL (br:=k) h.inv (by have:=hrow k rfl;have:=h.low;omega) hg
 exact⟨⟨λi=>by rw[f];exact hp.fz i,by rw[k];exact hp.c0,by rw[k];exact hp.c1,by rw[k];exact hp.c2,by rw[k];exact hp.c3,by rw[k];exact hp.c4,by rw[k];exact hp.c5,by rw[k];exact hp.c6,by rw[k];exact hp.c7,by rw[k];exact hp.c8,by rw[k];exact hp.c9,by rw[k];exact hp.c10,by rw[k];exact hp.c11,by rw[k];exact hp.c12,by rw[k];exact hp.c13,by rw[k];exact hp.c14⟩,(hg.block _ hlt (λe=>by have:=hrow _ e.symm;omega)).trans h.res,h.eN.trans eO,hi,h.low⟩
theorem eV.aed{cs:List Int}{ae:Value}(hR:R=some (q,[],cs))(hb:Below w.heap.size w w')(h1:w'.ownsRow w.heap.size 3 1 ae cs.length (ints cs))(h2:q.fv=.slice none 0 0):eV w R (.returned (.tuple #[.agg (aL {q with ae:=ae}),.bool true])) w':=by subst hR;obtain⟨kind,aR,will,ah,aq,aS,code,dup,qos,aF,ak,az,id,agr,ae⟩:=q;obtain rfl:=h2;exact⟨hb,_,_,rfl,mG _ _ _ _,h1⟩
theorem TM(l:List UInt8)(h:0<l.length):lZ (some l)=kN l []:=by unfold lZ;rw[cZ (show 0<aX (some l)by simpa[aX]using h)];rfl
theorem TK{x:UInt8}:codeOk x.toNat=!(decide (2<x.toNat)&&!decide (x.toNat=128)):=by
 unfold codeOk;by_cases h1:x.toNat<=2;·rw[cZ h1,dO (show¬2<x.toNat by omega)];rfl
 ·rw[dO h1,cZ (show 2<x.toNat by omega)];cases decide (x.toNat=128)<;>rfl
theorem ajd(w:World)(n:Int):∀(j:Nat) u,([.int .i64 n]:List Value)[j]?=some u->(w.alloc (.cells #[.int .i64 n] 3)).cell? ((⟨w.heap.size,0,none⟩:Addr).add j)=some u:=by intro j u hj;match j,hj with|0,hj=>simp at hj;subst hj;simp[Addr.add]
def nA(l:List UInt8):List Int:=l.map λx=>(x.toNat:Int)
theorem aeQ (s:ByteArray) (p:ay) (w:World) (hs:s.size≤300) (hk:p.kind=9) (hI:av.Inv w) (hN:5≤w.heap.size) (aQ:p.fv=.slice none 0 0) (hcv:p.ae=.slice none 0 0) :
 Calls prog 69 #[.string s,.agg (aL p)] w (eV w (cC p s.data.toList)):=by
 have hB:=ac2 p s.data.toList hk
 have hsz:=dI s
 have cO:Hid (∀ w,Calls prog 96 #[.string s,.int .i64 0] w fun e w'=>e=.returned (.int .i64 (df s.data.toList 0))∧∃ n,w'=w.drewN n):=ac fun w=>mb s 0 w (by omega)
 have hnl:1≤df s.data.toList 0→2≤s.size:=fun h=>by
  by_cases hh:s.data.toList.length < 0+2
  · rw [Ct _ _ hh] at h;omega
  · omega
 have kj:=ac hnl
 have dx:=ac fun p=>fG.begin w p hI hN
 have aB:=ac hB
 obtain ⟨u,hu⟩:∃ u,s.extract 2 s.size=u:=⟨_,rfl⟩
 have qV:u=bs (s.data.toList.drop 2):=by
  rw [← hu,yu,iV (by rw [eX,← hsz];omega)]
 have nJ:u.size=(s.data.toList.drop 2).length:=by rw [qV,dI,dS]
 have xW:=ac qV
 have oQ:=ac nJ
 have G9:u.size=s.size - 2:=by rw [nJ,eX,← hsz]
 clear hB hsz hnl qV nJ
 have Ed:u.data.toList=s.data.toList.drop 2:=by rw [xW.aa,dS]
 rw [← Ed] at aB
 obtain ⟨i0,hi,hz0,hz1,hz2⟩:=fK Ya
 clear hI Ed xW
 obtain ⟨kind,aR,will,ah,aq,aS,code,dup,qos,aF,ak,az,id,fv,ae⟩:=p
 obtain rfl:=aQ
 obtain rfl:=hcv
 obtain rfl:=hk
 simp only [aL]
 go_enter func69,ntmps69
 go_wp2_with fail
 refine (aY cO _).mono ?_
 rintro e w1 ⟨rfl,n1,hw1⟩
 have H1:Hid (fG w w1 w.heap.size ⟨9,aR,will,ah,aq,aS,code,dup,qos,aF,ak,az,id,.slice none 0 0,.slice none 0 0⟩):=ac (by rw [hw1];exact (dx.aa ⟨9,aR,will,ah,aq,aS,code,dup,qos,aF,ak,az,id,.slice none 0 0,.slice none 0 0⟩).drawn n1)
 clear hw1 dx cO
 generalize df s.data.toList 0=num at *
 have cg:=ac (H1.aa.set (H1.aa.aw.id num))
 have f12:=H1.aa.aw.fz 12
 by_cases hn:num < 1
 · have aT:=ac (aB.aa.trans (ax hn))
   clear aB kj oQ hu
   generalize cC _ s.data.toList=R at *
   have hD:=H1.aa
   have fM:=hD.aw.c12;have nL:=hD.aw.c14
   have gQ:=hD.lt
   have f4:=hD.aw.fz 4
   have f10:=hD.aw.fz 10
   have f11:=hD.aw.fz 11
   clear hD
   simp only at fM nL
   go_wp2_with (first | refine rw.lB rfl rfl rfl cg.aa.aw ?_ | refine rw.st rfl rfl rfl rfl cg.aa.res ⟨_,_,_,rfl⟩ ⟨_,_,_,rfl⟩ ?_ | fail)
   exact nC cg.aa (by rfl) (by rfl) fun hb=>eV.bad (q:=⟨9,aR,will,ah,aq,aS,code,dup,qos,aF,ak,az,num,.slice none 0 0,.slice none 0 0⟩) aT.aa hb ⟨_,_,_,rfl⟩ ⟨_,_,_,rfl⟩
 · have h2:2≤s.size:=kj.aa (by omega)
   have bp:=ac (aB.aa.trans (au hn))
   have Jx:(2:Int)≤(s.size:Int):=by omega
   clear aB kj oQ
   generalize cC _ s.data.toList=R at *
   have k0:=H1.aa.aw.c0
   have k12:=H1.aa.aw.c12
   have l1:=H1.aa.lt
   obtain ⟨C,hC⟩:∃ C,w1.heap.size=C:=⟨_,rfl⟩
   have Vt:w.heap.size+1 < C:=by omega
   have Ob:C≤(w1.setCell ⟨w.heap.size,12,none⟩ (.int .i64 num)).heap.size:=by simp [hC]
   have nJ:u.size=u.data.toList.length:=dI u
   have oQ:=ac nJ
   have ar2:u.size≤300:=by omega
   clear nJ hC G9
   go_wp2_with fail
   clear hu
   go_loopw [11] (fun i wr=>∃ (k:Nat) (v:Value),i=.int .i64 (k:Int)∧k≤u.size∧fG w wr w.heap.size ⟨9,aR,will,ah,aq,aS,code,dup,qos,aF,ak,az,num,.slice none 0 0,v⟩∧wr.ownsRow C 3 1 v (nA (u.data.toList.take k)).length (ints (nA (u.data.toList.take k)))∧(∀ x∈u.data.toList.take k,codeOk x.toNat=true)∧C≤wr.heap.size) (fun i _=>u.size - (intOf i).toNat)
   case atStart=>exact ⟨0,.slice none 0 0,rfl,cm _,cg.aa,mG _ _ _ _,(fun x hx=>by simp at hx),Ob⟩
   case round =>
    obtain ⟨k,v,rfl,arw,hD,hown,hall,Vv⟩:=hrel
    have HD:=ac hD
    have HO:=ac hown
    have bO:=ac hall
    clear hD hown hall H1 cg k0 k12 f12
    have Xj:(nA (u.data.toList.take k)).length=k:=by
     unfold nA
     rw [dU,dY,← oQ.aa]
     omega
    have R5:=ac Xj
    obtain ⟨q3,m3,c3,rfl⟩:=jH HO.aa
    clear Xj
    by_cases hend:k=u.size
    · have D6:¬ ((k:Int) < (u.size:Int)):=by omega
      have htk:u.data.toList.take k=u.data.toList:=iV (by rw [← oQ.aa];omega)
      by_cases h0:u.size=0
      · have qV:u.data.toList = []:=Bi (by rw [← oQ.aa];exact h0)
        have aT:Hid (R=none):=ac (bp.aa.trans (by rw [qV];rfl))
        have hgt:¬ (0:Int) < (u.size:Int):=by omega
        clear bp bO HO htk qV
        have hD:=HD.aa
        have fM:=hD.aw.c12;have nL:=hD.aw.c14
        have gQ:=hD.lt
        have f4:=hD.aw.fz 4
        have f10:=hD.aw.fz 10
        have f11:=hD.aw.fz 11
        clear hD
        simp only at fM nL
        go_wp2_with (first | refine rw.lB rfl rfl rfl HD.aa.aw ?_ | refine rw.st rfl rfl rfl rfl HD.aa.res ⟨_,_,_,rfl⟩ ⟨_,_,_,rfl⟩ ?_ | fail)
        exact nC HD.aa (by rfl) (by rfl) fun hb=>eV.bad (q:=⟨9,aR,will,ah,aq,aS,code,dup,qos,aF,ak,az,num,.slice none 0 0,.slice q3 m3 c3⟩) aT.aa hb ⟨_,_,_,rfl⟩ ⟨_,_,_,rfl⟩
      · have hR:R=some (⟨9,aR,will,ah,aq,aS,code,dup,qos,aF,ak,az,num,.slice none 0 0,.slice none 0 0⟩,[],nA u.data.toList):=by
         refine bp.aa.trans ?_
         have:=bO.aa
         rw [htk] at this
         rw [TM _ (by rw [← oQ.aa];omega),aea _ _ this]
         rfl
        have aT:=ac hR
        have ho:wr.ownsRow C 3 1 (.slice q3 m3 c3) (nA u.data.toList).length (ints (nA u.data.toList)):=by have:=HO.aa;rw [htk] at this;exact this
        have jV:=ac ho
        have hgt:decide (0 < u.size)=true:=cZ (by omega)
        have GQ:∀ CO,wr.grownBy CO (some (w.heap.size+1))→CO.ownsRow w.heap.size 3 1 (.slice q3 m3 c3) (nA u.data.toList).length (ints (nA u.data.toList)):=fun CO hg=>Ht (bM jV.aa Vt hg) (by omega)
        have jU:=ac GQ
        clear bp bO HO htk hR ho jV GQ
        have hD:=HD.aa
        have fM:=hD.aw.c12;have nL:=hD.aw.c14
        have gQ:=hD.lt
        have f4:=hD.aw.fz 4
        have f10:=hD.aw.fz 10
        have f11:=hD.aw.fz 11
        clear hD
        simp only at fM nL
        go_wp2_with (first | refine rw.lB rfl rfl rfl HD.aa.aw ?_ | refine rw.st rfl rfl rfl rfl HD.aa.res ⟨_,_,_,rfl⟩ ⟨_,_,_,rfl⟩ ?_ | fail)
        exact nC HD.aa (by rfl) (by rfl) fun hb=>eV.aed (q:=⟨9,aR,will,ah,aq,aS,code,dup,qos,aF,ak,az,num,.slice none 0 0,.slice none 0 0⟩) aT.aa hb (jU.aa _ (rw.Vf _ _ _)) rfl
    · have hlt:k < u.size:=by omega
      have ah4:(k:Int) < (u.size:Int):=by omega
      obtain ⟨x,hx⟩:∃ x:UInt8,u[k]'hlt=x:=⟨_,rfl⟩
      have PO:u.data.toList[k]?=some x:=by rw [← hx];exact qM u k hlt
      have xm:x∈u.data.toList:=ld PO
      have XP:u.data.toList.take (k+1)=u.data.toList.take k ++ [x]:=by
       rw [jL,PO];rfl
      have Mp:=ac xm
      have zt:=ac XP
      have hxl:=x.toNat_lt
      clear PO xm XP hend
      by_cases hbad:2 < x.toNat∧¬x.toNat=128
      · have hc:codeOk x.toNat=false:=by rw [TK,cZ hbad.1,dO hbad.2];rfl
        have aT:Hid (R=none):=ac (bp.aa.trans (by
         rw [TM _ (by rw [← oQ.aa];omega)]
         have:=aeb u.data.toList [] x Mp.aa hc
         generalize kN u.data.toList []=Z at *
         obtain ⟨kA,z2⟩:=Z
         simp only at this
         subst this
         rfl))
        have g2:(2:Int) < (x.toNat:Int):=by omega
        have agv:((x.toNat:Int) != 128)=true:=by rw [bne,show ((x.toNat:Int) == 128)=false from beq_eq_false_iff_ne.2 (by omega)];rfl
        clear bp bO HO hc hbad Mp zt
        have hD:=HD.aa
        have fM:=hD.aw.c12;have nL:=hD.aw.c14
        have gQ:=hD.lt
        have f4:=hD.aw.fz 4
        have f10:=hD.aw.fz 10
        have f11:=hD.aw.fz 11
        clear hD
        simp only at fM nL
        go_wp2_with (first | refine rw.lB rfl rfl rfl HD.aa.aw ?_ | refine rw.st rfl rfl rfl rfl HD.aa.res ⟨_,_,_,rfl⟩ ⟨_,_,_,rfl⟩ ?_ | fail)
        exact nC HD.aa (by rfl) (by rfl) fun hb=>eV.bad (q:=⟨9,aR,will,ah,aq,aS,code,dup,qos,aF,ak,az,num,.slice none 0 0,.slice q3 m3 c3⟩) aT.aa hb ⟨_,_,_,rfl⟩ ⟨_,_,_,rfl⟩
      · have hc:codeOk x.toNat=true:=by
         rw [TK]
         by_cases g:2 < x.toNat
         · rw [cZ (show x.toNat=128 by omega)];simp
         · rw [dO g];rfl
        have LO:=ac hc
        have k14:=HD.aa.aw.c14
        clear hc Mp
        have yD:¬ (2:Int) < (x.toNat:Int)∨(2:Int) < (x.toNat:Int)∧((x.toNat:Int) != 128)=false:=by
         by_cases g:(2:Int) < (x.toNat:Int)
         · refine ag ⟨g,?_⟩
           rw [bne,show ((x.toNat:Int) == 128)=true from beq_iff_eq.2 (by omega)];rfl
         · exact ai g
        clear hbad
        have xh:=HD.aa.lt
        have hown:=HO.aa
        rw [R5.aa] at hown
        have wK:=ac hown
        clear hown
        rcases yD with g2 | ⟨g2,agv⟩
        all_goals
         have hwx:IntKind.i64.wrap (x.toNat:Int)=(x.toNat:Int):=tK _ (by omega) (by omega)
         have gz:=ac (ajd wr (x.toNat:Int))
         have hA:∀ o,(wr.alloc o).cell? ⟨w.heap.size,14,none⟩=some (.slice q3 m3 c3):=fun o=>by rw [kL (av.eU k14)];exact k14
         go_wp2_with fail
         go_region_law (
          refine QR rfl (.tmp 136) (.tmp 141) 34 rfl C 3 i0 (.int .i64 0) 1 8 underlying34 hi hz0 hz1 hz2 rfl (by decide) (.slice q3 m3 c3) k (ints (nA (u.data.toList.take k))) ?s1 ?s2 ⟨wr.heap.size,0,none⟩ 1 1 [.int .i64 (x.toNat:Int)] ?s3 rfl ?s4 ?iH ?jl ?fX ?nM ?_
          case s1=>simp [Act.eval]
          case s3=>simp [Act.eval]
          case s2=>exact wK.aa.alloc _
          case s4=>exact gz.aa
          case iH=>intro u hu;simp at hu;subst hu;rfl
          case jl=>unfold maxLen;omega
          case fX=>omega
          case nM=>exact bi Vv (by show wr.heap.size≤(wr.alloc _).heap.size;simp)
          intro v' cQ hown' hgrow
          obtain ⟨g',cap',rfl⟩:=bI hown' (by omega)
          have XK:C≤cQ.heap.size:=bi Vv (bi (by simp) hgrow.size)
          have WV:(wr.alloc (.cells #[.int .i64 (x.toNat:Int)] 3)).grownBy cQ (Value.slice q3 m3 c3).ownBlock:=⟨hgrow.os,hgrow.tape,hgrow.output,hgrow.size,hgrow.block⟩
          have vd:=ac ((HD.aa.other (World.grownBy_alloc wr _ none) (fun _ h=>by cases h)).other WV (fun k hk=>by have:=(wK.aa.lt k hk).1;omega))
          have HOW:=ac hown'
          have ajw:=vd.aa.aw.c14
          have f14:=vd.aa.aw.fz 14
          clear hown' hgrow k14 hA hwx WV)
         all_goals
          go_wp2
          have xJ:=ac (vd.aa.set (vd.aa.aw.ZL (.slice (some ⟨g',0,none⟩) (k+1) cap')))
          have xP:Hid ((cQ.setCell ⟨w.heap.size,14,none⟩ (.slice (some ⟨g',0,none⟩) (k+1) cap')).ownsRow C 3 1 (.slice (some ⟨g',0,none⟩) (k+1) cap') (nA (u.data.toList.take (k+1))).length (ints (nA (u.data.toList.take (k+1))))):=by
           refine bM ?_ (show w.heap.size < C by omega) (jt _ _ _ _)
           rw [zt.aa]
           have e1:(nA (u.data.toList.take k ++ [x])).length=k+1:=by
            have:=R5.aa
            unfold nA at this ⊢
            rw [FK,bT,this];rfl
           have e2:ints (nA (u.data.toList.take k ++ [x]))=ints (nA (u.data.toList.take k)) ++ [.int .i64 (x.toNat:Int)]:=by simp [ints,nA]
           rw [e1,e2]
           exact HOW.aa
          go_roundw
          case rel=>exact ⟨k+1,_,by go_num,by omega,xJ.aa,xP.aa,(fun y hy=>by
           rw [zt.aa] at hy
           rcases List.mem_append.1 hy with h | h
           · exact bO.aa y h
           · rw [List.mem_singleton.1 h];exact LO.aa),by simpa using XK⟩
          case measure=>simp [intOf];omega
theorem aeS (s:ByteArray) (p:ay) (w:World) (hs:s.size≤300) (hk:p.kind=1) (hI:av.Inv w) (hN:5≤w.heap.size) (aQ:p.fv=.slice none 0 0) (hcv:p.ae=.slice none 0 0) :
 Calls prog 69 #[.string s,.agg (aL p)] w (eV w (cC p s.data.toList)):=by
 have hB:=ac4 p s.data.toList hk
 have iK:=ac fun w' (hI:av.Inv w') (hN:5≤w'.heap.size)=>ae4 s p w' hs hI hN aQ hcv
 have dx:=ac fun p=>fG.begin w p hI hN
 have aB:=ac hB
 clear hB hI
 obtain ⟨kind,aR,will,ah,aq,aS,code,dup,qos,aF,ak,az,id,fv,ae⟩:=p
 obtain rfl:=aQ
 obtain rfl:=hcv
 obtain rfl:=hk
 generalize cC _ s.data.toList=R at *
 generalize Du s.data.toList _=D at *
 simp only [aL] at iK ⊢
 go_enter func69,ntmps69
 go_wp2_with fail
 have hD:=dx.aa ⟨1,aR,will,ah,aq,aS,code,dup,qos,aF,ak,az,id,.slice none 0 0,.slice none 0 0⟩
 refine (aY iK _ hD.inv (bi hN hD.eN.size)).mono ?_
 rintro e w3 ⟨q,ok,⟨rfl,hb3⟩,hf,hc,hm⟩
 have dX:=ac (hD.vz hb3)
 obtain ⟨qZ,qH,ru,qY,qG,rc,qJ,qL,rf,rp,rq,ra,qW,zV,cq⟩:=q
 simp only at hf hc
 subst hf hc
 have fk:=ac hm
 clear hm hb3 hD dx iK
 simp only [aL]
 have hD:=dX.aa
 have gQ:=hD.lt
 have f4:=hD.aw.fz 4
 have f10:=hD.aw.fz 10
 have f11:=hD.aw.fz 11
 clear hD
 have hR:R=if ok then some ((⟨qZ,qH,ru,qY,qG,rc,qJ,qL,rf,rp,rq,ra,qW,.slice none 0 0,.slice none 0 0⟩:ay),[],[]) else none:=by
  rw [aB.aa]
  have h:=fk.aa
  cases D with
  | none=>simp only at h;subst h;rfl
  | some r=>simp only at h;obtain ⟨rfl,rfl⟩:=h;rfl
 have wN:=ac hR
 clear hR aB fk
 cases ok
 · have aT:Hid (R=none):=ac wN.aa
   clear wN
   go_wp2_with (first | refine rw.st (q:=⟨qZ,qH,ru,qY,qG,rc,qJ,qL,rf,rp,rq,ra,qW,.slice none 0 0,.slice none 0 0⟩) rfl rfl rfl rfl dX.aa.res ⟨_,_,_,rfl⟩ ⟨_,_,_,rfl⟩ ?_ | fail)
   exact nC dX.aa (by rfl) (by rfl) fun hb=>eV.bad (q:=⟨qZ,qH,ru,qY,qG,rc,qJ,qL,rf,rp,rq,ra,qW,.slice none 0 0,.slice none 0 0⟩) aT.aa hb ⟨_,_,_,rfl⟩ ⟨_,_,_,rfl⟩
 · have aT:Hid (R=some (⟨qZ,qH,ru,qY,qG,rc,qJ,qL,rf,rp,rq,ra,qW,.slice none 0 0,.slice none 0 0⟩,[],[])):=ac wN.aa
   clear wN
   go_wp2_with (first | refine rw.st (q:=⟨qZ,qH,ru,qY,qG,rc,qJ,qL,rf,rp,rq,ra,qW,.slice none 0 0,.slice none 0 0⟩) rfl rfl rfl rfl dX.aa.res ⟨_,_,_,rfl⟩ ⟨_,_,_,rfl⟩ ?_ | fail)
   exact nC dX.aa (by rfl) (by rfl) fun hb=>eV.good (q:=⟨qZ,qH,ru,qY,qG,rc,qJ,qL,rf,rp,rq,ra,qW,.slice none 0 0,.slice none 0 0⟩) aT.aa hb rfl rfl
theorem aeX(s:ByteArray)(p:ay)(w:World)(hs:s.size<=300)(hk1:1<=p.kind)(hk2:p.kind<=14)(hI:av.Inv w)(hN:5<=w.heap.size)(aQ:p.fv=.slice none 0 0)(hcv:p.ae=.slice none 0 0):Calls prog 69 #[.string s,.agg (aL p)] w (eV w (cC p s.data.toList)):=by
 have hk:p.kind=1\/p.kind=2\/p.kind=3\/(p.kind=4\/p.kind=5\/p.kind=6\/p.kind=7\/p.kind=11)\/(p.kind=8\/p.kind=10)\/p.kind=9\/(p.kind=12\/p.kind=13\/p.kind=14):=by omega
 rcases hk with h|h|h|h|h|h|h;·exact aeS s p w hs h hI hN aQ hcv
 ·exact aeR s p w h aQ hcv
 ·exact aeW s p w hs h hI hN aQ hcv
 ·exact aeV s p w hs h hI hN aQ hcv
 ·exact aeU s p w hs h hI hN aQ hcv
 ·exact aeQ s p w hs h hI hN aQ hcv
 ·exact aeT s p w h aQ hcv
end bJ
end Go.Proofs.YtnmfmoimjkoieaaGreatDoor
