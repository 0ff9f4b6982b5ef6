import Derived.Test.YtnmfmoimjkoieaaGreatDoorF12
import Derived.Test.YtnmfmoimjkoieaaGreatDoorF13
import Derived.Test.YtnmfmoimjkoieaaGreatDoorF14
set_option maxHeartbeats 25600000
set_option maxRecDepth 100000
set_option linter.all false
namespace Go.Proofs.YtnmfmoimjkoieaaGreatDoor
open Go.Proofs.Tryz
namespace cT
open Go.RowKit aD av aM b7 ew
open rd (aL iL)
theorem adX(a b q c:Int):bk (wrap64 (wrap64 (wrap64 (a+b)+wrap64 (8*q))+c))=bk (a+b+8*q+c):=by unfold bk wrap64;congr 2;omega
theorem aab(a b q c:Int)(k l:List UInt8):({data:=#[0,4,77,81,84,84,4]}:ByteArray)++bs [bk (wrap64 (wrap64 (wrap64 (a+b)+wrap64 (8*q))+c))]++bs k++bs l=bs ([0,4,77,81,84,84,4]++[bk (a+b+8*q+c)]++k++l):=by rw[adX,<-li,<-li,<-li];rfl
theorem adq(p:ay)(fs:List (List UInt8×Int))(cs:List Int)(w:World)(hk:p.kind=1)(h0: -9223372036854775808<=p.ah)(h1:p.ah<=9223372036854775807)(dc:p.aq.length<=1099511627776)(hl2:p.ak.length<=1099511627776)(rT:p.az.length<=1099511627776):Calls prog 70 #[.agg (aL p)] w λe w'=>e=.returned (.string (bs (eG p fs cs)))/\Below w.heap.size w w':=by
 have c1:=ac λn w=>Er n w;have c2:=ac λb n w=>QC b n w;have c3:=ac λw=>Lj p.ah w h0 h1;have c4:=ac λl w (hl:l.length<=1099511627776)=>mn l w hl;clear h0 h1;have hsz:=λl=>BC l;obtain⟨kind,aR,will,ah,aq,aS,code,dup,qos,aF,ak,az,id,fv,ae⟩:=p;simp only at hk;subst hk;simp only at dc hl2 rT c3;have hq:¬9223372036854775807<10+(2+aq.length):=by omega
 generalize hG:eG _ fs cs=G;have HG:=ac hG;clear hG;simp only[aL];have HST:=ac (St.new w (.cells #[.int .i64 1,.bool aR,.bool will,.int .i64 ah,.string (bs aq),.bool aS,.int .i64 code,.bool dup,.int .i64 qos,.bool aF,.string (bs ak),.string (bs az),.int .i64 id,fv,ae] 36));have G8:=λn=>Li n;have htx:=λl=>HF l;go_enter func70,ntmps70;go_wp2_with fail;rename_i zL SD IR;have HK:=ac zL;clear zL;go_region_held3(λw'=>w'.cell? ⟨w.heap.size,0,none⟩=some (.int .i64 1)/\w'.cell? ⟨w.heap.size,1,none⟩=some (.bool aR)/\w'.cell? ⟨w.heap.size,2,none⟩=some (.bool will)/\w'.cell? ⟨w.heap.size,3,none⟩=some (.int .i64 ah)/\w'.cell? ⟨w.heap.size,4,none⟩=some (.string (bs aq))/\w'.cell? ⟨w.heap.size,5,none⟩=some (.bool aS)/\w'.cell? ⟨w.heap.size,6,none⟩=some (.int .i64 code)/\w'.cell? ⟨w.heap.size,7,none⟩=some (.bool dup)/\w'.cell? ⟨w.heap.size,8,none⟩=some (.int .i64 qos)/\w'.cell? ⟨w.heap.size,9,none⟩=some (.bool aF)/\w'.cell? ⟨w.heap.size,10,none⟩=some (.string (bs ak))/\w'.cell? ⟨w.heap.size,11,none⟩=some (.string (bs az))/\w'.cell? ⟨w.heap.size,12,none⟩=some (.int .i64 id)/\w'.cell? ⟨w.heap.size,13,none⟩=some (fv)/\w'.cell? ⟨w.heap.size,14,none⟩=some (ae)) (go_keep) (first|(go_at_call 98;refine(c1.aa _ _).mono ?_;rintro e w5 ⟨rfl,cH⟩;(first|have hst:=HST.aa.call cH|have hst:=HST.aa.drew.call cH);obtain⟨y0,y1,y2,y3,y4,nS,y6,uY,qh,tL,uX,qd,qf,y13,qg⟩:=lD hst.blk;have HST:=ac hst;clear cH hst)|(go_at_call 99;refine(c2.aa _ _ _).mono ?_;rintro e w5 ⟨rfl,rfl⟩)|(go_at_call 100;refine(c3.aa _).mono ?_;rintro e w5 ⟨rfl,cH⟩;(first|have hst:=HST.aa.call cH|have hst:=HST.aa.drew.call cH);obtain⟨y0,y1,y2,y3,y4,nS,y6,uY,qh,tL,uX,qd,qf,y13,qg⟩:=lD hst.blk;have HST:=ac hst;clear cH hst)|(go_at_call 101;refine(c4.aa _ _ (by assumption)).mono ?_;rintro e w5 ⟨rfl,cH⟩;(first|have hst:=HST.aa.call cH|have hst:=HST.aa.drew.call cH);obtain⟨y0,y1,y2,y3,y4,nS,y6,uY,qh,tL,uX,qd,qf,y13,qg⟩:=lD hst.blk;have HST:=ac hst;clear cH hst));refine IR _ _ ?_;cases will with|false=>go_wp2_with fail;refine HK.aa _ _ ?_;exact Dn w _ 1 aR false ah aq aS code dup qos aF ak az id fv ae 0 ([0,4,77,81,84,84,4]++[pd ⟨1,aR,false,ah,aq,aS,code,dup,qos,aF,ak,az,id,fv,ae⟩]++gb ah++iR aq++[]) G _ (by(try simp only[Kq]);rw[aab,ek];rfl) (by simp[G8,htx];omega) (HG.aa.symm) HST.aa _ _ _ _ _ _ _ _ _ _ _ _ _ _ _ _ _ _ _ _ _ _ _ _ _ _ _ _ _ _ _ _ _ _ _ _ _ _ _ _ _ _ _ _ _ _ _ _ _ _ _ _ _ _ _ _ _ _ _ _ _ _ _ _ _ _ _ _ _ _ _ _ _ _ _ _ _ _ _ _ _ _ _ _ _ _ _ _ _ _ _ _ _ _ _ _ _ _ _ _ _ _ _ _ _ _ _ _ _ _ _ _ _ _ _ _ _ _ _ _ _ _ _ _ _ _ _ _ _ _ _ _ _ _ _ _ _ _ _ _ _ _ _ _ _ _ _ _ _ _ _ _ _ _ _ _ _ _ _ _ _ _ _ _ _ _ _ _ _ _ _ _ _ _ _ _ _ _ _|true=>(have hq2:¬9223372036854775807<10+(2+aq.length)+(2+ak.length):=by omega);(have xk:¬9223372036854775807<10+(2+aq.length)+(2+ak.length)+(2+az.length):=by omega);go_wp2_with fail;go_region_held3(λw'=>w'.cell? ⟨w.heap.size,0,none⟩=some (.int .i64 1)/\w'.cell? ⟨w.heap.size,1,none⟩=some (.bool aR)/\w'.cell? ⟨w.heap.size,2,none⟩=some (.bool true)/\w'.cell? ⟨w.heap.size,3,none⟩=some (.int .i64 ah)/\w'.cell? ⟨w.heap.size,4,none⟩=some (.string (bs aq))/\w'.cell? ⟨w.heap.size,5,none⟩=some (.bool aS)/\w'.cell? ⟨w.heap.size,6,none⟩=some (.int .i64 code)/\w'.cell? ⟨w.heap.size,7,none⟩=some (.bool dup)/\w'.cell? ⟨w.heap.size,8,none⟩=some (.int .i64 qos)/\w'.cell? ⟨w.heap.size,9,none⟩=some (.bool aF)/\w'.cell? ⟨w.heap.size,10,none⟩=some (.string (bs ak))/\w'.cell? ⟨w.heap.size,11,none⟩=some (.string (bs az))/\w'.cell? ⟨w.heap.size,12,none⟩=some (.int .i64 id)/\w'.cell? ⟨w.heap.size,13,none⟩=some (fv)/\w'.cell? ⟨w.heap.size,14,none⟩=some (ae)) (go_keep) (first|(go_at_call 101;refine(c4.aa _ _ (by assumption)).mono ?_;rintro e w5 ⟨rfl,cH⟩;(first|have hst:=HST.aa.call cH|have hst:=HST.aa.drew.call cH);obtain⟨y0,y1,y2,y3,y4,nS,y6,uY,qh,tL,uX,qd,qf,y13,qg⟩:=lD hst.blk;have HST:=ac hst;clear cH hst));refine HK.aa _ _ ?_;exact Dn w _ 1 aR true ah aq aS code dup qos aF ak az id fv ae 0 ([0,4,77,81,84,84,4]++[pd ⟨1,aR,true,ah,aq,aS,code,dup,qos,aF,ak,az,id,fv,ae⟩]++gb ah++iR aq++(iR ak++iR az)) G _ (by(try simp only[Kq]);rw[aab,li,li,fS];rfl) (by simp[G8,htx];omega) (HG.aa.symm) HST.aa _ _ _ _ _ _ _ _ _ _ _ _ _ _ _ _ _ _ _ _ _ _ _ _ _ _ _ _ _ _ _ _ _ _ _ _ _ _ _ _ _ _ _ _ _ _ _ _ _ _ _ _ _ _ _ _ _ _ _ _ _ _ _ _ _ _ _ _ _ _ _ _ _ _ _ _ _ _ _ _ _ _ _ _ _ _ _ _ _ _ _ _ _ _ _ _ _ _ _ _ _ _ _ _ _ _ _ _ _ _ _ _ _ _ _ _ _ _ _ _ _ _ _ _ _ _ _ _ _ _ _ _ _ _ _ _ _ _ _ _ _ _ _ _ _ _ _ _ _ _ _ _ _ _ _ _ _ _ _ _ _ _ _ _ _ _ _ _ _ _ _ _ _ _ _ _ _ _ _
theorem Zu(p:ay)(fs:List (List UInt8×Int))(cs:List Int)(G:List UInt8)(h:eG p fs cs=G)(hk:p.kind=3)(F:Int)(hF:bk (16*3+F)=bk (16*3+(dA p.dup 8+2*p.qos+dA p.aF 1)))(X:List UInt8)(hX:eT p fs cs=X):G=bk (16*3+F)::(r8 X.length++X):=by rw[<-h,hF];unfold eG l6 vF;rw[hX,hk,ax rfl]
theorem U2(a q c:Int):bk (16*3+wrap64 (wrap64 (a+wrap64 (2*q))+c))=bk (16*3+(a+2*q+c)):=by unfold bk wrap64;congr 2;omega
theorem ads(p:ay)(fs:List (List UInt8×Int))(cs:List Int)(w:World)(hk:p.kind=3)(h0: -9223372036854775808<=p.id)(h1:p.id<=9223372036854775807)(hl2:p.ak.length<=1099511627776)(rT:p.az.length<=1099511627776):Calls prog 70 #[.agg (aL p)] w λe w'=>e=.returned (.string (bs (eG p fs cs)))/\Below w.heap.size w w':=by
 have c1:=ac λn w=>Er n w;have c2:=ac λb n w=>QC b n w;have c3:=ac λw=>Lj p.id w h0 h1;have c4:=ac λl w (hl:l.length<=1099511627776)=>mn l w hl;clear h0 h1;have hsz:=λl=>BC l;obtain⟨kind,aR,will,ah,aq,aS,code,dup,qos,aF,ak,az,id,fv,ae⟩:=p;simp only at hk;subst hk;simp only at hl2 rT c3;generalize hG:eG _ fs cs=G;have HG:=ac hG;clear hG;simp only[aL];have HST:=ac (St.new w (.cells #[.int .i64 3,.bool aR,.bool will,.int .i64 ah,.string (bs aq),.bool aS,.int .i64 code,.bool dup,.int .i64 qos,.bool aF,.string (bs ak),.string (bs az),.int .i64 id,fv,ae] 36));have G8:=λn=>Li n;have htx:=λl=>HF l;go_enter func70,ntmps70;go_wp2_with fail;rename_i zL SD IR;have HK:=ac zL;clear zL;go_region_held3(λw'=>w'.cell? ⟨w.heap.size,0,none⟩=some (.int .i64 3)/\w'.cell? ⟨w.heap.size,1,none⟩=some (.bool aR)/\w'.cell? ⟨w.heap.size,2,none⟩=some (.bool will)/\w'.cell? ⟨w.heap.size,3,none⟩=some (.int .i64 ah)/\w'.cell? ⟨w.heap.size,4,none⟩=some (.string (bs aq))/\w'.cell? ⟨w.heap.size,5,none⟩=some (.bool aS)/\w'.cell? ⟨w.heap.size,6,none⟩=some (.int .i64 code)/\w'.cell? ⟨w.heap.size,7,none⟩=some (.bool dup)/\w'.cell? ⟨w.heap.size,8,none⟩=some (.int .i64 qos)/\w'.cell? ⟨w.heap.size,9,none⟩=some (.bool aF)/\w'.cell? ⟨w.heap.size,10,none⟩=some (.string (bs ak))/\w'.cell? ⟨w.heap.size,11,none⟩=some (.string (bs az))/\w'.cell? ⟨w.heap.size,12,none⟩=some (.int .i64 id)/\w'.cell? ⟨w.heap.size,13,none⟩=some (fv)/\w'.cell? ⟨w.heap.size,14,none⟩=some (ae)) (go_keep) (first|(go_at_call 99;refine(c2.aa _ _ _).mono ?_;rintro e w5 ⟨rfl,rfl⟩));refine IR _ _ ?_;have ab2:=ac HST.aa.drew;go_wp2_with fail;refine(c4.aa _ _ (by assumption)).mono ?_;rintro e cQ ⟨rfl,nH⟩;have PE:=ab2.aa.call nH;obtain⟨x0,x1,x2,x3,kf,nR,qc,wq,wu,ww,wo,oI,oJ,nP,nQ⟩:=lD PE.blk;have Sp:=ac PE;clear nH PE;by_cases hq:0<qos;·have bH:=ac hq;(have hr1:¬9223372036854775807<2+ak.length+2:=by omega);(have hr2:¬9223372036854775807<2+ak.length+2+az.length:=by omega);go_wp2_with fail;refine(c3.aa _).mono ?_;rintro e ig ⟨rfl,GJ⟩;have PF:=Sp.aa.call GJ;obtain⟨z0,kA,z2,z3,z4,z5,tQ,tR,qi,z9,tM,tN,z12,tO,tP⟩:=lD PF.blk;have ab3:=ac PF;clear GJ PF;go_wp2_with fail;refine HK.aa _ _ ?_;exact Dn w _ 3 aR will ah aq aS code dup qos aF ak az id fv ae _ (iR ak++gb id++az) G _ (by rw[li,li]) (by simp[G8,htx];omega) (Zu ⟨3,aR,will,ah,aq,aS,code,dup,qos,aF,ak,az,id,fv,ae⟩ fs cs G HG.aa rfl _ (by(try simp only[Kq]);exact U2 _ _ _) _ (by unfold eT;rw[au (by simp),au (by simp),ax rfl,ax bH.aa])) ab3.aa _ _ _ _ _ _ _ _ _ _ _ _ _ _ _ _ _ _ _ _ _ _ _ _ _ _ _ _ _ _ _ _ _ _ _ _ _ _ _ _ _ _ _ _ _ _ _ _ _ _ _ _ _ _ _ _ _ _ _ _ _ _ _ _ _ _ _ _ _ _ _ _ _ _ _ _ _ _ _ _ _ _ _ _ _ _ _ _ _ _ _ _ _ _ _ _ _ _ _ _ _ _ _ _ _ _ _ _ _ _ _ _ _ _ _ _ _ _ _ _ _ _ _ _ _ _ _ _ _ _ _ _ _ _ _ _ _ _ _ _ _ _ _ _ _ _ _ _ _ _ _ _ _ _ _ _ _ _ _ _ _ _ _ _ _ _ _ _ _ _ _ _ _ _ _ _ _ _ _
 ·have bH:=ac hq;(have hr2:¬9223372036854775807<2+ak.length+az.length:=by omega);go_wp2_with fail;refine HK.aa _ _ ?_;exact Dn w _ 3 aR will ah aq aS code dup qos aF ak az id fv ae _ (iR ak++[]++az) G _ (by rw[li,ek]) (by simp[htx];omega) (Zu ⟨3,aR,will,ah,aq,aS,code,dup,qos,aF,ak,az,id,fv,ae⟩ fs cs G HG.aa rfl _ (by(try simp only[Kq]);exact U2 _ _ _) _ (by unfold eT;rw[au (by simp),au (by simp),ax rfl,au (by have:=bH.aa;simp only;omega)])) Sp.aa _ _ _ _ _ _ _ _ _ _ _ _ _ _ _ _ _ _ _ _ _ _ _ _ _ _ _ _ _ _ _ _ _ _ _ _ _ _ _ _ _ _ _ _ _ _ _ _ _ _ _ _ _ _ _ _ _ _ _ _ _ _ _ _ _ _ _ _ _ _ _ _ _ _ _ _ _ _ _ _ _ _ _ _ _ _ _ _ _ _ _ _ _ _ _ _ _ _ _ _ _ _ _ _ _ _ _ _ _ _ _ _ _ _ _ _ _ _ _ _ _ _ _ _ _ _ _ _ _ _ _ _ _ _ _ _ _ _ _ _ _ _ _ _ _ _ _ _ _ _ _ _ _ _ _ _ _ _ _ _ _ _ _ _ _ _ _ _ _ _ _ _ _ _ _ _ _ _ _
theorem ago(g:List UInt8×Int->List UInt8)(fs:List (List UInt8×Int))(k:Nat):((fs.take k).flatMap g).length<=(fs.flatMap g).length:=by
 conv=>rhs;rw[<-um k fs]
 rw[uj,bT];omega
theorem adt(p:ay)(fs:List (List UInt8×Int))(cs:List Int)(w:World)(k1:p.kind≠1)(k2:p.kind≠2)(k3:p.kind≠3)(k12:p.kind≠12)(k13:p.kind≠13)(k14:p.kind≠14)(h0: -9223372036854775808<=p.id)(h1:p.id<=9223372036854775807)(hf:kD w p.fv fs)(hc:mD w p.ae cs)(hB:(eT p fs cs).length<=1099511627776):Calls prog 70 #[.agg (aL p)] w λe w'=>e=.returned (.string (bs (eG p fs cs)))/\Below w.heap.size w w':=by
 obtain⟨rI,nH⟩:∃b,(p.kind==6)=b:=⟨_,rfl⟩;obtain⟨b8,yA⟩:∃b,(p.kind==8)=b:=⟨_,rfl⟩;obtain⟨js,DM⟩:∃b,(p.kind==10)=b:=⟨_,rfl⟩;obtain⟨cc,D7⟩:∃cc,(rI||b8||js)=cc:=⟨_,rfl⟩;obtain⟨fl,rZ⟩:∃fl:Int,(if cc then 2 else 0)=fl:=⟨_,rfl⟩;have Oa:eT p fs cs=gb p.id++fs.flatMap (kP b8)++cs.map bk:=by unfold eT;rw[au k1,au k2,au k3,au (by omega),yA]
 have VA:vF p=fl:=by unfold vF iL;rw[au k3,<-rZ,<-D7,<-nH,<-yA,<-DM];simp[or_assoc]
 have c1:=ac λn w=>Er n w;have c3:=ac λw=>Lj p.id w h0 h1;have c4:=ac λl w (hl:l.length<=1099511627776)=>mn l w hl;obtain⟨mh,nK,aQ,hfl,hfc⟩:=hf;obtain⟨mg,kc,hcv,hcl,hcc⟩:=hc;have abm:=ac hfc;have wE:=ac hcc;clear hfc hcc;unfold maxLen at hfl hcl;have hsz:=λl=>BC l;have htx:=λl=>HF l;rw[Oa]at hB;obtain⟨G,hG⟩:∃G,eG p fs cs=G:=⟨_,rfl⟩;rw[hG];have Gs:G=bk (16*p.kind+fl)::(r8 (gb p.id++fs.flatMap (kP b8)++cs.map bk).length++(gb p.id++fs.flatMap (kP b8)++cs.map bk)):=by rw[<-hG];unfold eG l6;rw[Oa,VA]
 have HG:=ac Gs;have L1:=ac hB;have Iq:=ac D7;have ab7:=ac rZ;clear hG Gs Oa VA h0 h1 hB D7 rZ;obtain⟨kind,aR,will,ah,aq,aS,code,dup,qos,aF,ak,az,id,fv,ae⟩:=p;simp only at aQ hcv c3 k1 k2 k3 k12 k13 k14 nH yA DM;subst aQ hcv;have g1:(kind==1)=false:=cn.2 k1;have g2:(kind==2)=false:=cn.2 k2;have g3:(kind==3)=false:=cn.2 k3;have g12:(kind==12)=false:=cn.2 k12;have g13:(kind==13)=false:=cn.2 k13;have g14:(kind==14)=false:=cn.2 k14;clear k1 k2 k3 k12 k13 k14;simp only[aL];have HST:=ac (St.new w (.cells #[.int .i64 kind,.bool aR,.bool will,.int .i64 ah,.string (bs aq),.bool aS,.int .i64 code,.bool dup,.int .i64 qos,.bool aF,.string (bs ak),.string (bs az),.int .i64 id,.slice mh fs.length nK,.slice mg cs.length kc] 36));go_enter func70,ntmps70;go_wp2_with fail;rename_i zL SD IR ap5 ap8;have HK:=ac zL;clear zL;refine(c3.aa _).mono ?_;rintro e w1 ⟨rfl,hb1⟩;have Eb:=HST.aa.call hb1;obtain⟨x0,x1,x2,x3,kf,nR,qc,wq,wu,ww,wo,oI,oJ,nP,nQ⟩:=lD Eb.blk;have Bd:=ac Eb;clear hb1 Eb;go_upto_region 5 with fail;go_cut[24]from 12 (λv wx=>v=.bool cc/\wx=w1);case first=>cases rI;(·cases b8;all_goals go_wp2;go_meet;exact⟨bq Value.bool Iq.aa,rfl⟩);·go_wp2;go_meet;exact⟨bq Value.bool Iq.aa,rfl⟩
 case rest=>obtain⟨rfl,rfl⟩:=hcut;go_upto_if 24 with fail;go_cut[4]from 24 (λv wx=>v=.int .i64 fl/\wx=wc);(case first=>cases cc;all_goals go_wp2;go_meet;exact⟨bq (Value.int .i64) ab7.aa,rfl⟩);case rest=>obtain⟨rfl,rfl⟩:=hcut;go_wp2_with fail;clear x0 x1 x2 x3 kf nR qc wq wu ww wo oI oJ nP nQ;go_loopw[3,5] (λs i wx=>∃k:Nat,k<=fs.length/\i=.int .i64 k/\s=.string (bs (gb id++(fs.take k).flatMap (kP b8)))/\St w wx (.cells #[.int .i64 kind,.bool aR,.bool will,.int .i64 ah,.string (bs aq),.bool aS,.int .i64 code,.bool dup,.int .i64 qos,.bool aF,.string (bs ak),.string (bs az),.int .i64 id,.slice mh fs.length nK,.slice mg cs.length kc] 36)) (λ_ i _=>fs.length-(intOf i).toNat);(case atStart=>exact⟨0,cm _,rfl,by simp,Bd.aa⟩);case round=>obtain⟨k,hk,rfl,rfl,hst⟩:=hrel;obtain⟨x0,x1,x2,x3,kf,nR,qc,wq,wu,ww,wo,oI,oJ,nP,nQ⟩:=lD hst.blk;have Sr:=ac hst;by_cases gF:k<fs.length;(·obtain⟨f,hf⟩:∃f,fs[k]?=some f:=⟨_,cS gF⟩;obtain⟨g,o,rfl,hg,m1,m2⟩:=abm.aa k f hf;(have YF:wr.cell? ⟨g,o+k*2,none⟩=some (.string (bs f.1)):=by rw[hst.below.cell (by exact hg)];exact m1);(have hft:(fs.take (k+1)).flatMap (kP b8)=(fs.take k).flatMap (kP b8)++kP b8 f:=by rw[jL,hf];simp);have hfn:((fs.take (k+1)).flatMap (kP b8)).length<=(fs.flatMap (kP b8)).length:=ago _ _ _;have hlb:=L1.aa;rw[hft]at hfn;simp only[bT,kP,HF]at hfn hlb;obtain⟨A,hA⟩:∃A,A=gb id++(fs.take k).flatMap (kP b8):=⟨_,rfl⟩;(have N8:A.length+(2+f.1.length)<=1099511627776:=by rw[hA,bT];omega);(have ahx:f.1.length<=1099511627776:=by omega);rw[<-hA];have bO:=ac hA;have C3:=ac hft;clear hA hft hfn hlb hst hf m1;go_wp2_with fail;refine(c4.aa _ _ ahx).mono ?_;rintro e w2 ⟨rfl,hb2⟩;have Kk:=Sr.aa.call hb2;(have asf:w2.cell? ⟨g,o+k*2+1,none⟩=some (.int .i64 f.2):=by rw[Kk.below.cell (by exact hg)];exact m2);clear x0 x1 x2 x3 kf nR qc wq wu ww wo oI oJ nP nQ YF;obtain⟨x0,x1,x2,x3,kf,nR,qc,wq,wu,ww,wo,oI,oJ,nP,nQ⟩:=lD Kk.blk;have zr:=ac Kk;clear hb2 Kk m2;cases b8 with|true=>go_wp2_with fail;refine(c1.aa _ _).mono ?_;rintro e w3 ⟨rfl,hb3⟩;have FB:=ac (zr.aa.call hb3);clear hb3;go_wp2;go_roundw;(case rel=>exact⟨k+1,by omega,by go_num,by rw[C3.aa,<-fS,<-bO.aa,li,li];simp[kP],FB.aa⟩);case measure=>simp[intOf];omega|false=>go_wp2;go_roundw;(case rel=>exact⟨k+1,by omega,by go_num,by rw[C3.aa,<-fS,<-bO.aa,li];simp[kP],zr.aa⟩);case measure=>simp[intOf];omega);·have hft:fs.take k=fs:=iV (by omega);rw[hft];obtain⟨A,hA⟩:∃A,A=gb id++fs.flatMap (kP b8):=⟨_,rfl⟩;rw[<-hA];have bO:=ac hA;clear hft hA hst;go_wp2_with fail;clear x0 x1 x2 x3 kf nR qc wq wu ww wo oI oJ nP nQ gF hk;go_loopw[3,6] (λs i wx=>∃k:Nat,k<=cs.length/\i=.int .i64 k/\s=.string (bs (A++(cs.take k).map bk))/\St w wx (.cells #[.int .i64 kind,.bool aR,.bool will,.int .i64 ah,.string (bs aq),.bool aS,.int .i64 code,.bool dup,.int .i64 qos,.bool aF,.string (bs ak),.string (bs az),.int .i64 id,.slice mh fs.length nK,.slice mg cs.length kc] 36)) (λ_ i _=>cs.length-(intOf i).toNat);(case atStart=>exact⟨0,cm _,rfl,by simp,Sr.aa⟩);case round=>obtain⟨k,hk,rfl,rfl,hst⟩:=hrel;obtain⟨x0,x1,x2,x3,kf,nR,qc,wq,wu,ww,wo,oI,oJ,nP,nQ⟩:=lD hst.blk;have Sq:=ac hst;by_cases gF:k<cs.length;(·obtain⟨c,hc⟩:∃c,cs[k]?=some c:=⟨_,cS gF⟩;obtain⟨g,o,rfl,hg,m1⟩:=wE.aa k c hc;(have YF:wr.cell? ⟨g,o+k,none⟩=some (.int .i64 c):=by rw[hst.below.cell (by exact hg)];exact m1);(have hct:(cs.take (k+1)).map bk=(cs.take k).map bk++[bk c]:=by rw[jL,hc];simp);have hlb:=L1.aa;rw[<-bO.aa]at hlb;simp only[bT,dU]at hlb;obtain⟨D,hD⟩:∃D,D=A++(cs.take k).map bk:=⟨_,rfl⟩;(have hDl:D.length+1<=1099511627776:=by rw[hD,bT,dU,dY];omega);rw[<-hD];have HD:=ac hD;have aa8:=ac hct;clear hD hct hlb hst hc m1;go_wp2_with fail;refine(c1.aa _ _).mono ?_;rintro e w3 ⟨rfl,hb3⟩;have FB:=ac (Sq.aa.call hb3);clear hb3;go_wp2;go_roundw;(case rel=>exact⟨k+1,by omega,by go_num,by rw[aa8.aa,<-fS,<-HD.aa,li],FB.aa⟩);case measure=>simp[intOf];omega);·have hct:cs.take k=cs:=iV (by omega);rw[hct];clear hct hst;go_wp2_with fail;refine HK.aa _ _ ?_;exact Dn w _ kind aR will ah aq aS code dup qos aF ak az id (.slice mh fs.length nK) (.slice mg cs.length kc) fl (A++cs.map bk) G _ rfl (by have h:=L1.aa;rw[bO.aa];omega) (by rw[bO.aa];exact HG.aa) Sq.aa _ _ _ _ _ _ _ _ _ _ _ _ _ _ _ _ _ _ _ _ _ _ _ _ _ _ _ _ _ _ _ _ _ _ _ _ _ _ _ _ _ _ _ _ _ _ _ _ _ _ _ _ _ _ _ _ _ _ _ _ _ _ _ _ _ _ _ _ _ _ _ _ _ _ _ _ _ _ _ _ _ _ _ _ _ _ _ _ _ _ _ _ _ _ _ _ _ _ _ _ _ _ _ _ _ _ _ _ _ _ _ _ _ _ _ _ _ _ _ _ _ _ _ _ _ _ _ _ _ _ _ _ _ _ _ _ _ _ _ _ _ _ _ _ _ _ _ _ _ _ _ _ _ _ _ _ _ _ _ _ _ _ _ _ _ _ _ _ _ _ _ _ _ _ _ _ _ _ _
end cT
namespace bJ
open Go.RowKit aD av aM rd
theorem aeZ (s:ByteArray) (p:ay) (w:World) (x:UInt8) (c:List UInt8) (a:Nat) (h12:12≤s.size) (Gl:s.size≤300) (hpre:((s.extract 0 7).toList == [0,4,77,81,84,84,4])=true) (Ee:s[7]'(cw (by decide) h12)=x) (hc:cy s.data.toList 10=(c,(a:Int))) (hcl:c.length≤300) (hI:av.Inv w) (hN:5≤w.heap.size) (aQ:p.fv=.slice none 0 0) (hcv:p.ae=.slice none 0 0)
 (hm:¬x.toNat % 2=1) (h63:¬63 < x.toNat) (hw:x.toNat / 4 % 2≠1) (hq:x.toNat / 8 % 4=0) (hr:x.toNat / 32 % 2≠1) (jP:jG 0 10 c=true) :
 Calls prog 93 #[.string s,.agg (aL p)] w (EY w { jC p x.toNat with ah:=df s.data.toList 8,aq:=c } ((a:Int) == (s.size:Int))):=by
 have hW:decide (x.toNat / 4 % 2=1)=false:=dO hw
 have hR:decide (x.toNat / 32 % 2=1)=false:=dO hr
 clear hw hr
 obtain ⟨kind,aR,will,ah,aq,aS,code,dup,qos,aF,ak,az,id,fv,ae⟩:=p
 obtain rfl:=aQ
 obtain rfl:=hcv
 have cO:Hid (∀ w,Calls prog 96 #[.string s,.int .i64 8] w fun e w'=>e=.returned (.int .i64 (df s.data.toList 8))∧∃ n,w'=w.drewN n):=ac fun w=>mb s 8 w (by omega)
 have cV:Hid (∀ w,Calls prog 94 #[.string s,.int .i64 10] w fun e w'=>e=.returned (.tuple #[.string (bs c),.int .i64 (a:Int)])∧∃ n,w'=w.drewN n):=ac fun w=>by
  have:=mn s 10 w (by omega) (by omega)
  rw [hc] at this
  exact this
 have pc:=ac fun w hI=>Hw (bs c) 0 10 w (by rw [show (bs c).size=c.length from by rw [dI,dS]];unfold maxLen;omega) hI
 rw [dS] at pc
 generalize hK:df s.data.toList 8=K at *
 have hxl:=x.toNat_lt
 have e2:=MV ⟨x.toNat,hxl⟩
 have e4:=MX ⟨x.toNat,hxl⟩
 have zS:=MW ⟨x.toNat,hxl⟩
 have e8:=MZ ⟨x.toNat,hxl⟩
 have em:=MU ⟨x.toNat,hxl⟩
 simp only at e2 e4 zS e8 em
 have dx:=ac fun p=>fG.begin w p hI hN
 have hlt:¬ (s.size:Int) < 12:=by omega
 have h7:(7:Int)≤(s.size:Int):=by omega
 unfold jC
 generalize decide (x.toNat / 2 % 2=1)=kM at *
 generalize decide (x.toNat / 4 % 2=1)=qD at *
 generalize decide (x.toNat / 32 % 2=1)=nu at *
 generalize x.toNat / 8 % 4=Q at *
 clear hI hN hc hK Gl
 simp only [aL]
 subst hW hR hq
 rw [dO hm] at em
 clear hm
 go_enter func93,ntmps93
 go_wp2_with fail
 refine (aY cO _).mono ?_
 rintro e w1 ⟨rfl,n1,hw1⟩
 have H1:Hid (fG w w1 w.heap.size ⟨kind,kM,false,ah,aq,aS,code,dup,((0:Nat):Int),false,ak,az,id,.slice none 0 0,.slice none 0 0⟩):=ac (by rw [hw1];exact (dx.aa ⟨kind,kM,false,ah,aq,aS,code,dup,((0:Nat):Int),false,ak,az,id,.slice none 0 0,.slice none 0 0⟩).drawn n1)
 clear hw1 dx e2 e4 zS e8
 have k3:=H1.aa.aw.c3
 have f3:=H1.aa.aw.fz 3
 have l1:=H1.aa.lt
 go_wp2_with fail
 have cg:=ac (H1.aa.set (H1.aa.aw.K8 K))
 refine (aY cV _).mono ?_
 rintro e w3 ⟨rfl,n3,hw3⟩
 have dX:Hid (fG w w3 w.heap.size ⟨kind,kM,false,K,aq,aS,code,dup,((0:Nat):Int),false,ak,az,id,.slice none 0 0,.slice none 0 0⟩):=ac (by rw [hw3];exact cg.aa.drawn n3)
 clear hw3 k3 f3 l1 H1 cg
 go_wp2_with fail
 refine (aY pc _ dX.aa.inv).mono ?_
 rintro e w4 ⟨rfl,hb4⟩
 have ij:=ac (dX.aa.vz hb4)
 clear hb4 dX cO cV pc
 have hD:=ij.aa
 have p2:=hD.aw.c2;have gH:=hD.aw.c4;have j4:=hD.aw.c8;have se:=hD.aw.c9
 have gQ:=hD.lt
 have f4:=hD.aw.fz 4
 have f10:=hD.aw.fz 10
 have f11:=hD.aw.fz 11
 clear hD
 simp only at p2 gH j4 se
 rw [jP]
 have oN:=ac (ij.aa.set (ij.aa.aw.QH c))
 go_wp2_with (first | refine rw.lB rfl rfl rfl oN.aa.aw ?_ | refine rw.st rfl rfl rfl rfl oN.aa.res ⟨_,_,_,rfl⟩ ⟨_,_,_,rfl⟩ ?_ | fail)
 exact Je oN.aa (by rfl) (by rfl) fun hb=>⟨rfl,hb⟩
theorem ae1 (s:ByteArray) (p:ay) (w:World) (x:UInt8) (c:List UInt8) (a:Nat) (h12:12≤s.size) (Gl:s.size≤300) (hpre:((s.extract 0 7).toList == [0,4,77,81,84,84,4])=true) (Ee:s[7]'(cw (by decide) h12)=x) (hc:cy s.data.toList 10=(c,(a:Int))) (hcl:c.length≤300) (hI:av.Inv w) (hN:5≤w.heap.size) (aQ:p.fv=.slice none 0 0) (hcv:p.ae=.slice none 0 0) (ha:a≤300) (t:List UInt8) (k:Int) (ht:cy s.data.toList a=(t,k)) (htl:t.length≤300) (hk:k≤300)
 (y:List UInt8) (k3:Int) (hy:∀ n:Nat,k=(n:Int)→cy s.data.toList n=(y,k3))
 (hm:¬x.toNat % 2=1) (h63:¬63 < x.toNat) (hw:x.toNat / 4 % 2=1) (hq:¬2 < x.toNat / 8 % 4) (jP:jG 0 10 c=true) (q:ay) (ok:Bool)
 (hq1:k < 0∨fZ t=false→q = { jC p x.toNat with ah:=df s.data.toList 8,aq:=c }∧ok=false)
 (hq2:0≤k→fZ t=true→k3 < 0→q = { jC p x.toNat with ah:=df s.data.toList 8,aq:=c }∧ok=false)
 (xk:0≤k→fZ t=true→0≤k3→q = { jC p x.toNat with ah:=df s.data.toList 8,aq:=c,ak:=t,az:=y }∧ok=(k3 == (s.size:Int))) :
 Calls prog 93 #[.string s,.agg (aL p)] w (EY w q ok):=by
 have hW:decide (x.toNat / 4 % 2=1)=true:=cZ hw
 clear hw
 have eu:Hid (∀ w,Calls prog 94 #[.string s,.int .i64 (a:Int)] w fun e w'=>e=.returned (.tuple #[.string (bs t),.int .i64 k])∧∃ n,w'=w.drewN n):=ac fun w=>by
  have:=mn s a w (by omega) (by omega)
  rw [ht] at this
  exact this
 have vC:Hid (∀ w,0≤k→Calls prog 94 #[.string s,.int .i64 k] w fun e w'=>e=.returned (.tuple #[.string (bs y),.int .i64 k3])∧∃ n,w'=w.drewN n):=ac fun w h0=>by
  have:=mn s k.toNat w (by omega) (by omega)
  rw [hy k.toNat (by omega),show ((k.toNat:Nat):Int)=k by omega] at this
  exact this
 have jb:=ac fun w hI=>QA (bs t) w (by rw [show (bs t).size=t.length from by rw [dI,dS]];unfold maxLen;omega) hI
 rw [dS] at jb
 clear ht hy hk htl
 obtain ⟨kind,aR,will,ah,aq,aS,code,dup,qos,aF,ak,az,id,fv,ae⟩:=p
 obtain rfl:=aQ
 obtain rfl:=hcv
 have cO:Hid (∀ w,Calls prog 96 #[.string s,.int .i64 8] w fun e w'=>e=.returned (.int .i64 (df s.data.toList 8))∧∃ n,w'=w.drewN n):=ac fun w=>mb s 8 w (by omega)
 have cV:Hid (∀ w,Calls prog 94 #[.string s,.int .i64 10] w fun e w'=>e=.returned (.tuple #[.string (bs c),.int .i64 (a:Int)])∧∃ n,w'=w.drewN n):=ac fun w=>by
  have:=mn s 10 w (by omega) (by omega)
  rw [hc] at this
  exact this
 have pc:=ac fun w hI=>Hw (bs c) 0 10 w (by rw [show (bs c).size=c.length from by rw [dI,dS]];unfold maxLen;omega) hI
 rw [dS] at pc
 generalize hK:df s.data.toList 8=K at *
 have hxl:=x.toNat_lt
 have e2:=MV ⟨x.toNat,hxl⟩
 have e4:=MX ⟨x.toNat,hxl⟩
 have zS:=MW ⟨x.toNat,hxl⟩
 have e8:=MZ ⟨x.toNat,hxl⟩
 have em:=MU ⟨x.toNat,hxl⟩
 simp only at e2 e4 zS e8 em
 have dx:=ac fun p=>fG.begin w p hI hN
 have hlt:¬ (s.size:Int) < 12:=by omega
 have h7:(7:Int)≤(s.size:Int):=by omega
 unfold jC at hq1 hq2 xk
 generalize decide (x.toNat / 2 % 2=1)=kM at *
 generalize decide (x.toNat / 4 % 2=1)=qD at *
 generalize decide (x.toNat / 32 % 2=1)=nu at *
 generalize x.toNat / 8 % 4=Q at *
 clear hI hN hc hK Gl
 simp only [aL]
 subst hW
 rw [dO hm] at em
 have uf:=ac hq1
 have wM:=ac hq2
 have Fw:=ac xk
 clear hm hq1 hq2 xk
 go_enter func93,ntmps93
 go_wp2_with fail
 refine (aY cO _).mono ?_
 rintro e w1 ⟨rfl,n1,hw1⟩
 have H1:Hid (fG w w1 w.heap.size ⟨kind,kM,true,ah,aq,aS,code,dup,(Q:Int),nu,ak,az,id,.slice none 0 0,.slice none 0 0⟩):=ac (by rw [hw1];exact (dx.aa ⟨kind,kM,true,ah,aq,aS,code,dup,(Q:Int),nu,ak,az,id,.slice none 0 0,.slice none 0 0⟩).drawn n1)
 clear hw1 dx e2 e4 zS e8
 have k3:=H1.aa.aw.c3
 have f3:=H1.aa.aw.fz 3
 have l1:=H1.aa.lt
 go_wp2_with fail
 have cg:=ac (H1.aa.set (H1.aa.aw.K8 K))
 refine (aY cV _).mono ?_
 rintro e w3 ⟨rfl,n3,hw3⟩
 have dX:Hid (fG w w3 w.heap.size ⟨kind,kM,true,K,aq,aS,code,dup,(Q:Int),nu,ak,az,id,.slice none 0 0,.slice none 0 0⟩):=ac (by rw [hw3];exact cg.aa.drawn n3)
 clear hw3 k3 f3 l1 H1 cg
 go_wp2_with fail
 refine (aY pc _ dX.aa.inv).mono ?_
 rintro e w4 ⟨rfl,hb4⟩
 have ij:=ac (dX.aa.vz hb4)
 clear hb4 dX cO cV pc
 rw [jP]
 have hD:=ij.aa
 have k2:=hD.aw.c2
 have k4:=hD.aw.c4
 have f4:=hD.aw.fz 4
 have k8:=hD.aw.c8
 have k9:=hD.aw.c9
 have gQ:=hD.lt
 clear hD
 go_wp2_with fail
 have oN:=ac (ij.aa.set (ij.aa.aw.QH c))
 refine (aY eu _).mono ?_
 rintro e cQ ⟨rfl,n6,XV⟩
 have xD:Hid (fG w cQ w.heap.size ⟨kind,kM,true,K,c,aS,code,dup,(Q:Int),nu,ak,az,id,.slice none 0 0,.slice none 0 0⟩):=ac (by rw [XV];exact oN.aa.drawn n6)
 clear XV k2 k4 f4 k8 k9 gQ ij oN eu
 go_wp2_with fail
 refine (aY jb _ xD.aa.inv).mono ?_
 rintro e ig ⟨rfl,GJ⟩
 have u6:=ac (xD.aa.vz GJ)
 clear GJ xD jb
 generalize fZ t=tb at *
 by_cases h0:k < 0
 · obtain ⟨rfl,rfl⟩:=uf.aa (ai h0)
   clear uf wM Fw vC
   have hD:=u6.aa
   have p2:=hD.aw.c2;have gH:=hD.aw.c4;have jg:=hD.aw.c10;have jh:=hD.aw.c11
   have gQ:=hD.lt
   have f4:=hD.aw.fz 4
   have f10:=hD.aw.fz 10
   have f11:=hD.aw.fz 11
   clear hD
   simp only at p2 gH jg jh
   go_wp2_with (first | refine rw.lB rfl rfl rfl u6.aa.aw ?_ | refine rw.st rfl rfl rfl rfl u6.aa.res ⟨_,_,_,rfl⟩ ⟨_,_,_,rfl⟩ ?_ | fail)
   exact Je u6.aa (by rfl) (by rfl) fun hb=>⟨rfl,hb⟩
 · cases tb with
   | false =>
     obtain ⟨rfl,rfl⟩:=uf.aa (ag rfl)
     clear uf wM Fw vC
     have hD:=u6.aa
     have p2:=hD.aw.c2;have gH:=hD.aw.c4;have jg:=hD.aw.c10;have jh:=hD.aw.c11
     have gQ:=hD.lt
     have f4:=hD.aw.fz 4
     have f10:=hD.aw.fz 10
     have f11:=hD.aw.fz 11
     clear hD
     simp only at p2 gH jg jh
     go_wp2_with (first | refine rw.lB rfl rfl rfl u6.aa.aw ?_ | refine rw.st rfl rfl rfl rfl u6.aa.res ⟨_,_,_,rfl⟩ ⟨_,_,_,rfl⟩ ?_ | fail)
     exact Je u6.aa (by rfl) (by rfl) fun hb=>⟨rfl,hb⟩

   | true =>
     have ajK:=u6.aa.lt
     go_wp2_with fail
     refine (aY vC _ (by omega)).mono ?_
     rintro e w8 ⟨rfl,n8,pu⟩
     have AV:Hid (fG w w8 w.heap.size ⟨kind,kM,true,K,c,aS,code,dup,(Q:Int),nu,ak,az,id,.slice none 0 0,.slice none 0 0⟩):=ac (by rw [pu];exact u6.aa.drawn n8)
     clear pu vC u6 ajK
     by_cases h3:k3 < 0
     · obtain ⟨rfl,rfl⟩:=wM.aa (by omega) (by simp) h3
       clear uf wM Fw
       have hD:=AV.aa
       have p2:=hD.aw.c2;have gH:=hD.aw.c4;have jg:=hD.aw.c10;have jh:=hD.aw.c11
       have gQ:=hD.lt
       have f4:=hD.aw.fz 4
       have f10:=hD.aw.fz 10
       have f11:=hD.aw.fz 11
       clear hD
       simp only at p2 gH jg jh
       go_wp2_with (first | refine rw.lB rfl rfl rfl AV.aa.aw ?_ | refine rw.st rfl rfl rfl rfl AV.aa.res ⟨_,_,_,rfl⟩ ⟨_,_,_,rfl⟩ ?_ | fail)
       exact Je AV.aa (by rfl) (by rfl) fun hb=>⟨rfl,hb⟩

     · obtain ⟨rfl,rfl⟩:=Fw.aa (by omega) (by simp) (by omega)
       clear uf wM Fw
       have hD:=AV.aa
       have p2:=hD.aw.c2;have gH:=hD.aw.c4;have jg:=hD.aw.c10;have jh:=hD.aw.c11
       have gQ:=hD.lt
       have f4:=hD.aw.fz 4
       have f10:=hD.aw.fz 10
       have f11:=hD.aw.fz 11
       clear hD
       simp only at p2 gH jg jh
       have Ia:=ac (AV.aa.set (AV.aa.aw.CH t))
       have LK:=ac (Ia.aa.set (Ia.aa.aw.CG y))
       go_wp2_with (first | refine rw.lB rfl rfl rfl LK.aa.aw ?_ | refine rw.st rfl rfl rfl rfl LK.aa.res ⟨_,_,_,rfl⟩ ⟨_,_,_,rfl⟩ ?_ | fail)
       exact Je LK.aa (by rfl) (by rfl) fun hb=>⟨rfl,hb⟩
theorem Ut(s:ByteArray):(s.extract 0 7).toList=s.data.toList.take 7:=by have h:=bq (λb:ByteArray=>b.data.toList) (yu s 0 7);rw[wz];exact h
theorem Q3(l:List UInt8)(k:Nat):(cy l k).2<=(l.length:Int):=by
 unfold cy;split;·simp only;omega
 ·simp only;omega
theorem ae4(s:ByteArray)(p:ay)(w:World)(hs:s.size<=300)(hI:av.Inv w)(hN:5<=w.heap.size)(aQ:p.fv=.slice none 0 0)(hcv:p.ae=.slice none 0 0):Calls prog 93 #[.string s,.agg (aL p)] w λe w'=>∃q ok,EY w q ok e w'/\q.fv=.slice none 0 0/\q.ae=.slice none 0 0/\match Du s.data.toList p with|some r=>ok=true/\q=r|none=>ok=false:=by
 have hsz:=dI s;unfold Du;by_cases hpre:s.data.toList.length<12\/s.data.toList.take 7≠[0,4,77,81,84,84,4];·rw[ax hpre];refine(ae0 s p w ?_ aQ hcv).mono λe w' h=>⟨p,false,h,aQ,hcv,rfl⟩;by_cases h12:s.size<12;(·exact ai h12);·refine ag ⟨by omega,?_⟩;rcases hpre with h|h;(·omega);·rw[Ut];exact cn.2 h
 ·rw[au hpre];obtain⟨h12,hp⟩:=not_or.1 hpre;have hp:=y9.1 hp;(have Jw:12<=s.size:=by omega);(have hpre':((s.extract 0 7).toList==[0,4,77,81,84,84,4])=true:=by rw[Ut];exact od.2 hp);(have Ee:s[7]'(cw (by decide) Jw)=s.data.toList.getD 7 0:=by rw[zz,qM s 7 (by omega)];rfl);generalize s.data.toList.getD 7 0=x at *;have hcl:=Ll s.data.toList 10;unfold Nv;by_cases hbad:nv x.toNat=false\/(cy s.data.toList 10).2<0\/jG 0 10 (cy s.data.toList 10).1=false;(·rw[ax hbad];exact(aeY s p w x (cy s.data.toList 10).1 (cy s.data.toList 10).2 Jw hs hpre' Ee rfl (by omega) hI hN aQ hcv hbad).mono λe w' h=>⟨_,false,h,aQ,hcv,rfl⟩);·rw[au hbad];obtain⟨hb1,hb2⟩:=not_or.1 hbad;obtain⟨hb2,hb3⟩:=not_or.1 hb2;(have hb3:jG 0 10 (cy s.data.toList 10).1=true:=by cases hx:jG 0 10 (cy s.data.toList 10).1;(·exact absurd hx hb3);·rfl);(have hok:nv x.toNat=true:=by cases hx:nv x.toNat;(·exact absurd hx hb1);·rfl);unfold nv at hok;simp only[tS,Bool.or_eq_true,yr,Bool.not_eq_true',decide_eq_false_iff_not]at hok;obtain⟨⟨⟨o1,o2⟩,o3⟩,o4⟩:=hok;(have OC:(cy s.data.toList 10).2=(((cy s.data.toList 10).2.toNat:Nat):Int):=by omega);have hal:=Q3 s.data.toList 10;by_cases hw:x.toNat/4%2=1;(·rw[ax hw];unfold Jj;have htl:=Ll s.data.toList (cy s.data.toList 10).2.toNat;have hkl:=Q3 s.data.toList (cy s.data.toList 10).2.toNat;generalize hT:cy s.data.toList (cy s.data.toList 10).2.toNat=T at *;obtain⟨t,k⟩:=T;simp only at htl hkl⊢;generalize hY:cy s.data.toList k.toNat=Y at *;obtain⟨y,k3⟩:=Y;simp only;have hcall:=λq ok h1 h2 h3=>ae1 s p w x (cy s.data.toList 10).1 (cy s.data.toList 10).2.toNat Jw hs hpre' Ee (Prod.ext rfl OC) (by omega) hI hN aQ hcv (by omega) t k hT (by omega) (by omega) y k3 (λn hn=>by rw[<-hY,hn];rfl) (by omega) (by omega) hw (by omega) hb3 q ok h1 h2 h3;by_cases hk:k<0\/fZ t=false;(·rw[ax hk];exact(hcall _ false (λ_=>⟨rfl,rfl⟩) (λh0 h1 _=>by rcases hk with h|h;omega;rw[h1]at h;cases h) (λh0 h1 _=>by rcases hk with h|h;omega;rw[h1]at h;cases h)).mono λe w' h=>⟨_,false,h,aQ,hcv,rfl⟩);·rw[au hk];obtain⟨hk1,hk2⟩:=not_or.1 hk;(have hk2:fZ t=true:=by cases hx:fZ t;(·exact absurd hx hk2);·rfl);by_cases h3:k3<0;(·rw[ax h3];exact(hcall _ false (λh=>absurd h hk) (λ_ _ _=>⟨rfl,rfl⟩) (λ_ _ h=>by omega)).mono λe w' h=>⟨_,false,h,aQ,hcv,rfl⟩);·rw[au h3];refine(hcall _ (k3==(s.size:Int)) (λh=>absurd h hk) (λ_ _ h=>by omega) (λ_ _ _=>⟨rfl,rfl⟩)).mono λe w' h=>⟨_,_,h,aQ,hcv,?_⟩;rw[<-hsz];by_cases he:k3=(s.size:Int);(·rw[ax he];exact⟨od.2 he,rfl⟩);·rw[au he];exact cn.2 he);·rw[au hw];obtain⟨Qf,Qg⟩:=o4.resolve_left hw;refine(aeZ s p w x (cy s.data.toList 10).1 (cy s.data.toList 10).2.toNat Jw hs hpre' Ee (Prod.ext rfl OC) (by omega) hI hN aQ hcv (by omega) (by omega) hw Qf Qg hb3).mono λe w' h=>⟨_,_,h,aQ,hcv,?_⟩;rw[<-OC,<-hsz];by_cases he:(cy s.data.toList 10).2=(s.size:Int);(·rw[ax he];exact⟨od.2 he,rfl⟩);·rw[au he];exact cn.2 he
end bJ
end Go.Proofs.YtnmfmoimjkoieaaGreatDoor
