import Derived.Test.YtpgifpeohlllfaaGreatGV36
import Derived.Test.YtpgifpeohlllfaaGreatGV30
set_option maxHeartbeats 20000000
set_option linter.unusedVariables false
set_option maxRecDepth 100000
set_option linter.unusedSimpArgs false
namespace Go.Proofs.YtpgifpeohlllfaaGreat
namespace Go.Proofs.YtpgifpeohlllfaaGreat
open Go.RowKit
theorem Vd {lo mb:Nat} {tt:TypeId} {X:List Value} (k:aN) (S:dN) (w:World) (i:Nat) (h:bQ lo mb tt X w S k) (hR:bg k) (hi:i<k.frames.length) (ZQ:(au k.frames i).refs≠0) :
  Calls Tryz.prog 147 #[.pointer (some (Ad mb 0)),I (i:Int)] w (dK lo mb tt X w S (.tuple #[]) (dZ k i)):=by
 have hcc:=hR.c;obtain⟨o,hok,hAO,hL0⟩:=aeU hR hi ZQ;rw[hok];obtain⟨fb,cF,A⟩:=h.toiZ.fr (by omega);obtain⟨lb,cL,AL⟩:=h.toiZ.sl hL0;obtain⟨pb,cP,AP⟩:=h.toiZ.sp (by omega);have c1:=h.c1;rw[A.v] at c1;have c2:=h.c2;rw[AL.v] at c2;have x2:=A.x2 i hi;have MU:(i:Int)<(k.frames.length:Int):=by omega
 have Qj:Hid (∀m,m<k.slots.length->w.cell? (Ad lb (m*2+1))=some (I (bw k.slots m).refs)):=AL.x1;have HMC:Hid (∀V S' n,bQ lo mb tt X V S' (oW k i o n)->dI S w S' V->V.cell? (Ad mb 3)=some (.slice (some (Ad pb 0)) k.aj.length cP)):=fun V S' n h1 h2=>by
  have:=h1.c3;rw[h2.eP,AP.v] at this;omega
 have ajW:Hid (∀V S' n,n<k.aj.length->bQ lo mb tt X V S' (oW k i o n)->dI S w S' V->∃ae ce,V.cell? (Ad pb (n*3+2))=some (.slice ae (ak k.aj n).aW.length ce)/\V.frozen? (Ad pb (n*3+2))=false/\mb<V.heap.size/\pb<V.heap.size/\dz bk 3 eD V ae (ak k.aj n).aW/\(ak k.aj n).aW.length<=1000 /\
   (∀V1 v,Below V.heap.size V V1->V1.ownsRow V.heap.size 45 3 v ((ak k.aj n).aW.flatMap (mU i o)).length (((ak k.aj n).aW.flatMap (mU i o)).flatMap bk)->∃S'',bQ lo mb tt X (V1.setCell (Ad pb (n*3+2)) v) S'' (oW k i o (n+1))/\dI S w S'' (V1.setCell (Ad pb (n*3+2)) v))):=fun V S' n hn h1 h2=>by
  have hlen:(oW k i o n).aj.length=k.aj.length:=uJ _ _ _;have hn':n<(oW k i o n).aj.length:=by omega
  have hat:ak (oW k i o n).aj n=ak k.aj n:=by
   show ak (mS _ _ _) n=_;rw[Ab _ _ _ _ hn,bl (Ih _)]
  have hPV:S'.vP=.slice (some (Ad pb 0)) k.aj.length cP:=h2.eP.trans AP.v;obtain⟨GV,ZX,A'⟩:=h1.toiZ.sp (by omega);obtain rfl:pb=GV:=by have ev:=hPV.symm.trans A'.v;grind
  obtain⟨ae,ce,Cv,hre⟩:=h1.toiZ.aW hn';rw[hat] at Cv hre;have a2:=A'.x2 n hn';rw[Cv] at a2;refine⟨ae,ce,a2,A'.fz _,h1.lt,A'.lt,hre,by have:=jC hR hn;omega,fun V1 v g1 g2=>?_⟩;obtain⟨S'',q1,q2⟩:=aaO h1 hn hPV g1 g2;exact⟨S'',q1,h2.trans q2⟩
 have aht:Hid (∀V S' K,K.frames=k.frames->bQ lo mb tt X V S' K->dI S w S' V->V.cell? (Ad mb 1)=some (.slice (some (Ad fb 0)) k.frames.length cF)/\V.cell? (Ad fb (i*4))=some (.string (au k.frames i).data)/\V.cell? (Ad fb (i*4+1))=some (I (au k.frames i).refs)/\V.cell? (Ad fb (i*4+2))=some (.bool (au k.frames i).fN)/\V.cell? (Ad fb (i*4+3))=some (.bool (au k.frames i).seen)/\(∀o,V.frozen? (Ad fb o)=false) /\
   (∀U,U=(((V.setCell (Ad fb (i*4)) (.string ⟨#[]⟩)).setCell (Ad fb (i*4+1)) (I 0)).setCell (Ad fb (i*4+2)) (.bool false)).setCell (Ad fb (i*4+3)) (.bool false)->bQ lo mb tt X U S' { K with frames:=k.frames.set i gD }/\dI S w S' U)):=fun V S' K hK h1 h2=>by
  have hvF:S'.vF=.slice (some (Ad fb 0)) k.frames.length cF:=h2.eF.trans A.v;obtain⟨fb',cF',A'⟩:=h1.toiZ.fr (by grind);obtain rfl:fb=fb':=by have ev:=hvF.symm.trans A'.v;grind
  have hi':i<K.frames.length:=by grind
  have e1:=h1.c1;rw[hvF] at e1;have y0:=A'.x0 i hi';have y1:=A'.x1 i hi';have y2:=A'.x2 i hi';have y3:=A'.x3 i hi';rw[hK] at y0 y1 y2 y3;refine⟨e1,y0,y1,y2,y3,A'.fz,fun U hU=>?_⟩;have m:=h1.WW A'.v hi' gD;rw[hK] at m;subst hU;exact⟨m.1,h2.trans m.2⟩
 have aqO:Hid (∀V S' s,o=some s->bQ lo mb tt X V S' (oW k i o k.aj.length)->dI S w S' V->V.cell? (Ad mb 2)=some (.slice (some (Ad lb 0)) k.slots.length cL)/\(s:Int)<(k.slots.length:Int)/\(∃u0 u1,V.cell? (Ad lb (s*2))=some (.string u0)/\V.cell? (Ad lb (s*2+1))=some (I u1))/\(∀o,V.frozen? (Ad lb o)=false) /\
   (∀U,U=((V.setCell (Ad lb (s*2)) (.string (au k.frames i).data)).setCell (Ad lb (s*2+1)) (I (au k.frames i).refs)).drew->bQ lo mb tt X U S' { oW k i o k.aj.length with slots:=k.slots.set s ⟨(au k.frames i).data,(au k.frames i).refs⟩ }/\dI S w S' U)):=fun V S' s ho h1 h2=>by
  have hs:s<k.slots.length:=by
   rcases hAO with⟨_,g⟩ | ⟨_,s',g,hl,_⟩
   · grind
   grind
  have hvL:S'.vL=.slice (some (Ad lb 0)) k.slots.length cL:=h2.eL.trans AL.v;obtain⟨lb',cL',A'⟩:=h1.toiZ.sl hL0;obtain rfl:lb=lb':=by have ev:=hvL.symm.trans A'.v;grind
  have e2:=h1.c2;rw[hvL] at e2;refine⟨e2,by omega,⟨_,_,A'.x0 s hs,A'.x1 s hs⟩,A'.fz,fun U hU=>?_⟩;have m:=h1.agq A'.v (i:=s) hs ⟨(au k.frames i).data,(au k.frames i).refs⟩;subst hU;exact⟨m.1.below (aK _ _).drew,(h2.trans m.2).trans (dI.below (aK _ _).drew)⟩
 have cZ:Hid (∀V S',bQ lo mb tt X V S' (Lr k i o)->dI S w S' V->dK lo mb tt X w S (.tuple #[]) (Lr k i o) (.returned (.tuple #[])) V):=fun V S' h1 h2=>⟨rfl,S',h1,h2⟩
 obtain⟨P,hP⟩:=ex (dK lo mb tt X w S (.tuple #[]) (Lr k i o));rw[<- hP] at cZ ⊢;have HST:=ai (Ym hAO);have Ku:Hid (∀m z,(au k.frames i).fN=true->Ez k i o (m+1) z->Ez k i o m (if (bw k.slots m).refs=0 then (m:Int) else z)):=fun m z hd hp=>aaB hAO hd hp
 have px:Hid (∀m z,Ez k i o m z->((au k.frames i).fN=false∨m=0)->z=U0 o):=fun m z hp hx=>adg hAO hp hx
 have rz:Hid (bQ lo mb tt X w S (oW k i o 0)):=h;have hnl:k.slots.length<=512:=by omega
 have apr:k.aj.length<=4:=by omega
 obtain⟨d,hd⟩:=ex ((au k.frames i).fN);rw[<- hd] at x2 Ku px aht;obtain⟨i0,hin,hz0,hz1,hz2⟩:=iq uk;have tP:=ai hin;have Dg:=ai hz0;have Df:=ai hz1;have BI:=ai hz2;clear hok hAO hcc hR ZQ A AL AP h hP hd hi hin hz0 hz1 hz2;go_enter Tryz.func147,Tryz.ntmps147;go_wp2;go_loopw [4,5] (fun sv iv wr=>∃(m:Nat) (z:Int),m<=k.slots.length/\iv=I ((m:Int)-1)/\sv=I z/\wr=w/\Ez k i o m z) (fun _ iv _=>(intOf iv+1).toNat)
 case atStart=>exact⟨k.slots.length,-1,aM _,by go_num,rfl,rfl,HST.o⟩
 case round =>
  obtain⟨m,z,hm,rfl,rfl,hwr,ZA⟩:=hrel;have hwr:=hwr.symm;subst hwr;have FY:=ai ZA;clear ZA;by_cases hgo:d=true/\0<m
  · obtain⟨rfl,hm0⟩:=hgo;obtain⟨m',rfl⟩:∃m',m=m'+1:=⟨m-1,by omega⟩;have e1:((m'+1:Nat):Int)-1=(m':Int):=by omega
    rw[e1];have hge:(0:Int)<=(m':Int):=by omega
    have hlt:(m':Int)<(k.slots.length:Int):=by omega
    have s1:=Qj.o m' (by omega);have HPS:=ai (Ku.o m' z rfl FY.o);have HM:=ai hm;have hw1:IntKind.i64.wrap ((m':Int)-1)=(m':Int)-1:=mP _ (by omega);obtain⟨R,hRR⟩:=ex ((bw k.slots m').refs);rw[<- hRR] at s1 HPS;by_cases hz:R=0
    · rw[bf hz] at HPS;have zb:(R==0)=true:=by simpa using hz
      clear hz hRR e1 hm;go_wp2;go_roundw
      case rel=>exact⟨m',_,by omega,by go_num,by first | rfl | trivial,by first | rfl | trivial,HPS.o⟩
      case measure=>simp[intOf]
    · rw[bl hz] at HPS;have zb:(R==0)=false:=by simpa using hz
      clear hz hRR e1 hm;go_wp2;go_roundw
      case rel=>exact⟨m',_,by omega,by go_num,by first | rfl | trivial,by first | rfl | trivial,HPS.o⟩
      case measure=>simp[intOf]
  · have hx:d=false∨m=0:=by
     cases d
     · exact .inl rfl
     · exact .inr (by by_cases c:0<m;exact absurd ⟨rfl,c⟩ hgo;omega)
    obtain rfl:=px.o m z FY.o hx;go_upto_region 2 with fail;go_cut [27] (fun c wx=>c=.bool false/\wx=w)
    case first =>
     by_cases c:m=0
     · subst c;have hge:¬(0:Int)<=((0:Nat):Int)-1:=by omega
       clear hgo hx;go_wp2;go_meet
       exact⟨rfl,rfl⟩
     · obtain rfl:d=false:=by rcases hx with x | x;exact x;omega
       have hge:(0:Int)<=(m:Int)-1:=by omega
       clear hgo hx c;go_wp2;go_meet
       exact⟨rfl,rfl⟩
    case rest =>
    obtain⟨rfl,hwc⟩:=hcut;have hwc:=hwc.symm;subst hwc;obtain⟨sz,hsz⟩:=ex (U0 o);have HSZ:=ai hsz;rw[<- hsz];clear hgo hx hsz FY hm c1 c2 x2 Qj;go_wp2;go_loopw [6] (fun iv wr=>∃(n:Nat) (S':dN),n<=k.aj.length/\iv=I (n:Int)/\bQ lo mb tt X wr S' (oW k i o n)/\dI S w S' wr) (fun iv _=>k.aj.length-(intOf iv).toNat)
    case atStart=>exact⟨0,S,ql _,rfl,rz.o,dI.refl _ _⟩
    case round =>
     obtain⟨n,S',hn,rfl,jn,hch⟩:=hrel;have c3:=HMC.o wr S' n jn hch;by_cases hlt:n<k.aj.length
     · have hni:(n:Int)<(k.aj.length:Int):=by omega
       have HNL:=ai hlt;obtain⟨ae,ce,a2,fz,hmV,hpV,hre,hel,hlast⟩:=ajW.o wr S' n hlt jn hch;obtain⟨es,hes⟩:=ex ((ak k.aj n).aW);rw[<- hes] at a2 hre hel hlast;have JZ:=ai hlast;have sS:=ai hre;have HCW:Hid (∀V,Below wr.heap.size wr V->V.cell? (Ad mb 3)=some (.slice (some (Ad pb 0)) k.aj.length cP)/\V.cell? (Ad pb (n*3+2))=some (.slice ae es.length ce)/\V.frozen? (Ad pb (n*3+2))=false):=fun V hV=>⟨(hV.cell (p:=(Ad mb 3)) hmV).trans c3,(hV.cell (p:=(Ad pb (n*3+2))) hpV).trans a2,(hV.frozen (p:=(Ad pb (n*3+2))) hpV).trans fz⟩
       clear hlast hre jn hch hes rz hlt hn a2 fz;go_wp2;clear c3;go_loopw [7,8] (fun lv jv wq=>∃(m:Nat) (av:Option Addr) (cv:Nat),m<=es.length/\jv=I (m:Int)/\lv=.slice av ((es.take m).flatMap (mU i o)).length cv/\wq.ownsRow wr.heap.size 45 3 (.slice av ((es.take m).flatMap (mU i o)).length cv) ((es.take m).flatMap (mU i o)).length (((es.take m).flatMap (mU i o)).flatMap bk)/\Below wr.heap.size wr wq) (fun _ jv _=>es.length-(intOf jv).toNat)
       case atStart=>exact⟨0,none,0,ql _,rfl,rfl,km _ _ _ _,aK _ _⟩
       case round =>
        rename World=>wq
        obtain⟨m,av,cv,hm,rfl,rfl,hrow,zB⟩:=hrel;obtain⟨c3,a2,fz⟩:=HCW.o wq zB;by_cases hlt:m<es.length
        · have hmi:(m:Int)<(es.length:Int):=by omega
          have We:=ai hlt;obtain⟨gb,go,e1,e2,e3⟩:=(sS.o.below zB) (by omega);have z0:=e3 m hlt 0 (by omega);have z1:=e3 m hlt 1 (by omega);have z2:=e3 m hlt 2 (by omega);rw[gV] at z0;subst e1;have IE:=Yx i o es m hlt;have hll:=aaP i o (es.take m);rw[zL] at hll;obtain⟨E,hE⟩:=ex (aI es m);rw[show es.getD m eD=E from hE.symm] at z0 z1 z2;rw[<- hE] at IE;obtain⟨pe,kd,lc⟩:=E;replace z0:wq.cell? (Ad gb (go+m*3))=some (I pe):=z0;replace z1:wq.cell? (Ad gb (go+m*3+1))=some (I kd):=z1;replace z2:wq.cell? (Ad gb (go+m*3+2))=some (I lc):=z2;have alE:kr i ⟨pe,kd,lc⟩=decide (kd=1/\lc=(i:Int)):=rfl;unfold mU at IE;rw[alE] at IE;obtain⟨LS,hLS⟩:=ex ((es.take m).flatMap (mU i o));have agL:(es.take m).flatMap (mU i o)=LS:=hLS.symm;have IE:(es.take (m+1)).flatMap (mU i o)=LS++(if decide (kd=1/\lc=(i:Int))=true then (match o with | none=>[] | some s=>[⟨pe,2,s⟩]) else [⟨pe,kd,lc⟩]):=by rw[hLS];exact IE
          rw[agL] at hrow hll;rw[agL];obtain⟨LN,hLN⟩:=ex LS.length;obtain⟨XS,ZB⟩:=ex (LS.flatMap bk);rw[<- hLN,<- ZB] at hrow;rw[<- hLN] at hll;rw[<- hLN];have HLN:=ai hLN;have HXS:=ai ZB;have HLS:=ai agL;have Qk:=ai hrow;have A7:=ai zB;obtain⟨EBK,aji⟩:=ex wq.heap.size;have BX:=bG wq #[I pe,I kd,I lc] 45;rw[<- aji] at BX;have HEB:=ai aji;have ajN:=ai zB.size;obtain⟨d0,d1,d2⟩:=og BX;have f0:=aJ BX 0;have f1:=aJ BX 1;have f2:=aJ BX 2;have oo:=ai BX;obtain⟨WE,hWE⟩:=ex (wq.alloc (.cells #[I pe,I kd,I lc] 45));rw[<- hWE] at d0 d1 d2 f0 f1 f2 oo;have HWE:=ai hWE;have TF:Hid (Below wr.heap.size wr WE):=by rw[hWE];exact zB.alloc zB.size _
          have E5:Hid (WE.ownsRow wr.heap.size 45 3 (.slice av LN cv) LN XS):=by rw[hWE];exact hrow.alloc _
          have agF:es.length<=1000:=hel;clear hm hrow zB e2 e3 hE alE hLS agL hLN ZB aji BX hWE;by_cases ci:kd=1/\lc=(i:Int)
          · rw[dh ci,bf rfl] at IE;have kb:(kd==1)=true:=by simpa using ci.1
            have lb2:(lc==(i:Int))=true:=by simpa using ci.2
            cases o with
            | none =>
             have hs0:sz<0:=by rw[HSZ.o];decide
             have abp:=ai IE;clear IE ci hlt;go_upto_region 14 with fail;rw[<- HWE.o,<- HEB.o];clear c3 a2 fz z0 z1 z2;go_wp2;go_roundw
             case rel =>
              have hls:(es.take (m+1)).flatMap (mU i none)=LS:=by rw[abp.o];exact Il _
              refine⟨m+1,av,cv,We.o,by go_num,?_,?_,TF.o⟩
              · rw[hls,<- HLN.o]
              · rw[hls,<- HLN.o,<- HXS.o];exact E5.o
             case measure=>simp[intOf];omega
            | some s =>
             have hs0:¬sz<0:=by rw[HSZ.o];show ¬(s:Int)<0;omega
             have hss:sz=(s:Int):=HSZ.o;have IE:(es.take (m+1)).flatMap (mU i (some s))=LS++[⟨pe,2,sz⟩]:=by rw[hss];omega
             have abp:=ai IE;clear IE ci hlt hss;go_upto_region 14 with fail;rw[<- HWE.o,<- HEB.o];clear c3 a2 fz z0 z1 z2;go_upto_region 17 with fail;obtain⟨WU,hWU⟩:=ex (((WE.setCell (Ad EBK 0) (I pe)).setCell (Ad EBK 1) (I 2)).setCell (Ad EBK 2) (I sz));have hbU:Below wr.heap.size wr WU:=by rw[hWU];exact((TF.o.setCell (p:=(Ad EBK 0)) (by rw[HEB.o];exact ajN.o) _).setCell (p:=(Ad EBK 1)) (by rw[HEB.o];exact ajN.o) _).setCell (p:=(Ad EBK 2)) (by rw[HEB.o];exact ajN.o) _
             have hrU:WU.ownsRow wr.heap.size 45 3 (.slice av LN cv) LN XS:=by rw[hWU];exact(show aH (fun b=>b=EBK) WE _ from vR WE EBK _ _ _ _ _ _ rfl).row E5.o (fun b hb e=>by have:=(Qk.o.lt b hb).2;rw[e,HEB.o] at this;omega)
             have bxU:WU.heap[EBK]?=some (.cells #[I pe,I 2,I sz] 45 (0,0)):=by rw[hWU];exact dG (dG (dG oo.o 0 _) 1 _) 2 _
             rw[<- hWU];obtain⟨t0,t1,t2⟩:=og bxU;have HOU:=ai (hrU.alloc (.cells #[I pe,I 2,I sz] 45));have HBU:=ai hbU;clear hWU hbU hrU bxU d0 d1 d2;go_wp2_with (at_builtin;refine dU (P:=Tryz.prog) rfl _ _ 41 rfl wr.heap.size 45 i0 (.agg #[I 0,I 0,I 0]) 3 24 Tryz.underlying41 tP.o Dg.o Df.o BI.o rfl (by decide) (.slice av LN cv) LN XS rfl HOU.o (some (Ad WU.heap.size 0)) 1 1 (bk ⟨pe,2,sz⟩) rfl rfl (fun _=>⟨_,rfl,vU (bG WU _ _)⟩) (by intro u hu;simp[bk] at hu;rcases hu with rfl | rfl | rfl <;> rfl) (by unfold maxLen;omega) (by omega) (by have:=HBU.o.size;rw[iJ];omega) ?_;intro vG wG zu Ce D5;obtain⟨aG,cG,MT,_,_⟩:=aY zu;subst MT;have HOG:=ai zu;have HBG:=ai ((HBU.o.alloc HBU.o.size (.cells #[I pe,I 2,I sz] 45)).grown Ce (by have:=HBU.o.size;rw[iJ];omega) (fun q hq=>(HOU.o.lt q hq).1));clear zu Ce D5)
             go_roundw
             case rel =>
              refine⟨m+1,aG,cG,We.o,by go_num,?_,?_,HBG.o⟩
              · rw[abp.o,gh,<- HLN.o];rfl
              · rw[abp.o,gh,tG,<- HLN.o,<- HXS.o];exact HOG.o
             case measure=>simp[intOf];omega
          · rw[dE ci,bl (by simp)] at IE;have abp:=ai IE;go_upto_region 14 with fail;rw[<- HWE.o,<- HEB.o];clear c3 a2 fz z0 z1 z2 IE hlt;go_cut [81] (fun c wx=>c=.bool false/\wx=WE)
            case first =>
             by_cases c1:kd=1
             · have kb:(kd==1)=true:=by simpa using c1
               have lb2:(lc==(i:Int))=false:=by simpa using fun g=>ci ⟨c1,g⟩
               clear ci c1;go_wp2;go_meet
               exact⟨rfl,rfl⟩
             · have kb:(kd==1)=false:=by simpa using c1
               clear ci c1;go_wp2;go_meet
               exact⟨rfl,rfl⟩
            case rest =>
            obtain⟨rfl,hwe⟩:=hcut;have hwe:=hwe.symm;subst hwe;clear ci;go_upto_region 17 with fail;obtain⟨WU,hWU⟩:=ex WE;have hbU:Below wr.heap.size wr WU:=by rw[hWU];exact TF.o
            have hrU:WU.ownsRow wr.heap.size 45 3 (.slice av LN cv) LN XS:=by rw[hWU];exact E5.o
            have bxU:WU.heap[EBK]?=some (.cells #[I pe,I kd,I lc] 45 (0,0)):=by rw[hWU];exact oo.o
            rw[<- hWU];obtain⟨t0,t1,t2⟩:=og bxU;have HOU:=ai (hrU.alloc (.cells #[I pe,I kd,I lc] 45));have HBU:=ai hbU;clear hWU hbU hrU bxU d0 d1 d2;go_wp2_with (at_builtin;refine dU (P:=Tryz.prog) rfl _ _ 41 rfl wr.heap.size 45 i0 (.agg #[I 0,I 0,I 0]) 3 24 Tryz.underlying41 tP.o Dg.o Df.o BI.o rfl (by decide) (.slice av LN cv) LN XS rfl HOU.o (some (Ad WU.heap.size 0)) 1 1 (bk ⟨pe,kd,lc⟩) rfl rfl (fun _=>⟨_,rfl,vU (bG WU _ _)⟩) (by intro u hu;simp[bk] at hu;rcases hu with rfl | rfl | rfl <;> rfl) (by unfold maxLen;omega) (by omega) (by have:=HBU.o.size;rw[iJ];omega) ?_;intro vG wG zu Ce D5;obtain⟨aG,cG,MT,_,_⟩:=aY zu;subst MT;have HOG:=ai zu;have HBG:=ai ((HBU.o.alloc HBU.o.size (.cells #[I pe,I kd,I lc] 45)).grown Ce (by have:=HBU.o.size;rw[iJ];omega) (fun q hq=>(HOU.o.lt q hq).1));clear zu Ce D5)
            go_roundw
            case rel =>
             refine⟨m+1,aG,cG,We.o,by go_num,?_,?_,HBG.o⟩
             · rw[abp.o,gh,<- HLN.o];rfl
             · rw[abp.o,gh,tG,<- HLN.o,<- HXS.o];exact HOG.o
            case measure=>simp[intOf];omega
        · obtain rfl:m=es.length:=by omega
          rw[tF] at hrow ⊢;obtain⟨S2,hk2,hc2⟩:=JZ.o wq _ zB hrow;obtain⟨LN,hLN⟩:=ex ((es.flatMap (mU i o)).length);rw[<- hLN] at hk2 hc2 ⊢;have pH:=ai hk2;have vv:=ai hc2;clear hrow zB hk2 hc2 hLN hlt;go_wp2;go_roundw
          case rel=>exact⟨n+1,S2,HNL.o,by go_num,pH.o,vv.o⟩
          case measure=>simp[intOf];omega
     · obtain rfl:n=k.aj.length:=by omega
       have E6:=ai jn;cases o with
       | none =>
        have hs0:¬(0:Int)<=sz:=by rw[HSZ.o];decide
        obtain⟨g1,g2,g3,g4,g5,g6,g7⟩:=aht.o wr S' (oW k i none k.aj.length) rfl jn hch;have f0:=g6 (i*4);have f1:=g6 (i*4+1);have f2:=g6 (i*4+2);have f3:=g6 (i*4+3);have HG7:=ai g7;clear g6 g7 jn hch rz ajW HMC;go_wp2;refine q9 (v:=.tuple #[]) (by simp[results,Tryz.results147,go_sem]) rfl ?_;exact cZ.o _ S' (HG7.o _ rfl).1 (HG7.o _ rfl).2
       | some s =>
        have hs0:(0:Int)<=sz:=by rw[HSZ.o];show(0:Int)<=(s:Int);omega
        have hss:sz=(s:Int):=HSZ.o;subst hss;obtain⟨p1,p2,⟨u0,u1,p3,p4⟩,p5,p6⟩:=aqO.o wr S' s rfl jn hch;obtain⟨g1,g2,g3,g4,g5,_,_⟩:=aht.o wr S' (oW k i (some s) k.aj.length) rfl jn hch;have f0:=p5 (s*2);have f1:=p5 (s*2+1);have HP6:=ai p6;clear p5 p6 jn hch rz ajW HMC;go_upto_region 20 with fail;go_region;obtain⟨U,hU⟩:=ex (((wr.setCell (Ad lb (s*2)) (.string (au k.frames i).data)).setCell (Ad lb (s*2+1)) (I (au k.frames i).refs)).drew);rw[<- hU];obtain⟨hku,hcu⟩:=HP6.o U hU;obtain⟨g1,g2,g3,g4,g5,g6,g7⟩:=aht.o U S' { oW k i (some s) k.aj.length with slots:=k.slots.set s ⟨(au k.frames i).data,(au k.frames i).refs⟩ } rfl hku hcu;have f0:=g6 (i*4);have f1:=g6 (i*4+1);have f2:=g6 (i*4+2);have f3:=g6 (i*4+3);have HG7:=ai g7;clear g6 g7 hku hcu hU p1 p2 p3 p4;go_wp2;refine q9 (v:=.tuple #[]) (by simp[results,Tryz.results147,go_sem]) rfl ?_;exact cZ.o _ S' (HG7.o _ rfl).1 (HG7.o _ rfl).2
theorem Ru (k:aN) (x:Int) (i:Nat):dZ { k with hand:=x } i={ dZ k i with hand:=x }:=by
 unfold dZ;show(if (au k.frames i).fN then _ else _)=_;cases (au k.frames i).fN with
 | false=>rfl
 | true =>
  show(match tq k.slots with | some s=>_ | none=>_)=_;cases tq k.slots <;> rfl
theorem aaH {k:aN} {n:Nat} (hn:n<k.frames.length) (h0:(au k.frames n).refs=0) (hno:∀q,q<n->(au k.frames q).refs≠0):qK k.frames=some n:=by
 have at_:∀q (hq:q<k.frames.length),au k.frames q=k.frames[q]:=fun q hq=>by grind [au]
 grind [qK,List.findIdx?_eq_some_iff_getElem]
theorem aaI {k:aN} (hno:∀q,q<k.frames.length->(au k.frames q).refs≠0):qK k.frames=none:=by
 unfold qK;refine N7.2 fun x hx=>?_
 obtain⟨q,hq,rfl⟩:=jb gD hx
 grind [au]
structure adl (lo mb:Nat) (tt:TypeId) (X:List Value) (V:World) (S:dN) (K:aN) (f fb cF:Nat):Prop where
 c1:V.cell? (Ad mb 1)=some (.slice (some (Ad fb 0)) K.frames.length cF)
 x3:V.cell? (Ad fb (f*4+3))=some (.bool (au K.frames f).seen)
 f3:V.frozen? (Ad fb (f*4+3))=false
 lay:bQ lo mb tt X (V.setCell (Ad fb (f*4+3)) (.bool false)) S { K with frames:=K.frames.set f (vI (au K.frames f)) }/\dI S V S (V.setCell (Ad fb (f*4+3)) (.bool false))
theorem aaE {lo mb:Nat} {tt:TypeId} {X:List Value} {V:World} {S:dN} {K:aN} {f:Nat} (h:bQ lo mb tt X V S K) (hf:f<K.frames.length):∃fb cF,adl lo mb tt X V S K f fb cF:=by
 obtain⟨fb,cF,A⟩:=h.toiZ.fr (by omega);have c1:=h.c1;rw[A.v] at c1;exact⟨fb,cF,c1,A.x3 f hf,A.fz _,h.Ch A.v hf (j:=3) (by omega) rfl,tV h.toiZ A.v⟩
theorem Lq (held:List Int) (x:Int) (m:Nat) (hm:m<held.length):(held.take (m+1)).contains x=((held.take m).contains x || (held.getD m 0==x)):=by
 grind [List.take_add_one]
theorem Py {lo mb:Nat} {tt:TypeId} {X:List Value} (k:aN) (S:dN) (w:World) (held:List Int) (ah:Option Addr) (ch:Nat) (h:bQ lo mb tt X w S k) (hR:bg k) (hl:held.length<=2) (hH:kL w S ah held) :
  Calls Tryz.prog 107 #[.pointer (some (Ad mb 0)),.slice ah held.length ch] w (dK lo mb tt X w S (I ((bH k held).1:Int)) (bH k held).2):=by
 have hcc:=hR.c;obtain⟨fb,cF,A⟩:=h.toiZ.fr (by omega);have c1:=h.c1;rw[A.v] at c1;have Ib:Hid (∀q,q<k.frames.length->w.cell? (Ad fb (q*4+1))=some (I (au k.frames q).refs)):=A.x1;have vh:Hid (∀n,n<k.frames.length->(au k.frames n).refs=0->(∀q,q<n->(au k.frames q).refs≠0)->dK lo mb tt X w S (I ((bH k held).1:Int)) (bH k held).2 (.returned (I (n:Int))) w):=fun n hn h0 hno=>by
  have hg:bH k held=(n,k):=by unfold bH;rw[aaH hn h0 hno]
  rw[hg];exact⟨rfl,S,h,dI.refl _ _⟩
 have pq:Hid ((∀q,q<k.frames.length->(au k.frames q).refs≠0)->∃T,(∀m,m<T->kG held (bJ held m k)=true)/\kG held (bJ held T k)=false/\(∀n,(bJ held n k).frames.length=k.frames.length/\0<=(bJ held n k).hand/\(bJ held n k).hand<(k.frames.length:Int)) /\
   (∀V,bQ lo mb tt X V S { bJ held T k with hand:=gM (bJ held T k) }->dI S w S V->Calls Tryz.prog 147 #[.pointer (some (Ad mb 0)),I (bJ held T k).hand] V fun e w'=>e=.returned (.tuple #[])/\dK lo mb tt X w S (I ((bH k held).1:Int)) (bH k held).2 (.returned (I (bJ held T k).hand)) w')):=fun hall=>by
  have SL:yg k:=hall;obtain⟨T,hT,IG,Gl⟩:=A5 held hl hR SL;have Fz:=A4 held T 69 k (by omega) IG Gl;have TK:=BC held hR SL;have rU:∀n,(bJ held n k).frames.length=k.frames.length:=fun n=>(TK n).kept.nf
  have ZR:∀n,0<=(bJ held n k).hand/\(bJ held n k).hand<(bJ held n k).frames.length:=fun n=>(TK n).right.hand
  refine⟨T,IG,Gl,fun n=>⟨rU n,(ZR n).1,by grind⟩,fun V hV hc=>?_⟩;have hg:bH k held=((bJ held T k).hand.toNat,{ dZ (bJ held T k) (bJ held T k).hand.toNat with hand:=gM (bJ held T k) }):=by
   grind [bH,aaI]
  have e:(((bJ held T k).hand.toNat:Nat):Int)=(bJ held T k).hand:=by grind
  have hnx:=Hm (k:=bJ held T k) (by grind);have:=Vd { bJ held T k with hand:=gM (bJ held T k) } S V (bJ held T k).hand.toNat hV ((TK T).right.turn hnx) (by grind) ((TK T).full _ (by grind));rw[e,Ru] at this;refine this.mono fun r w' ⟨g1,S',g2,g3⟩=>⟨g1,?_⟩
  rw[hg];exact⟨by rw[e],S',g2,hc.trans g3⟩
 have HHE:Hid (∀V,dI S w S V->dz eZ 1 0 V ah held):=fun V hc=>(hH.ch hc).has
 obtain⟨P,hP⟩:=ex (dK lo mb tt X w S (I ((bH k held).1:Int)) (bH k held).2);rw[<- hP] at vh pq ⊢;have rz:=ai h;have asu:k.frames.length<=64:=by omega
 have avr:3<=k.frames.length:=by omega
 clear hP h hR hcc A hH;go_enter Tryz.func107,Tryz.ntmps107;go_wp2;go_loopw [5] (fun iv wr=>∃n:Nat,n<=k.frames.length/\iv=I (n:Int)/\wr=w/\∀q,q<n->(au k.frames q).refs≠0) (fun iv _=>k.frames.length-(intOf iv).toNat)
 case atStart=>grind
 case round =>
  obtain⟨n,hn,rfl,hwr,hno⟩:=hrel;have hwr:=hwr.symm;subst hwr;have HNN:=ai hno;clear hno;by_cases hlt:n<k.frames.length
  · have hni:(n:Int)<(k.frames.length:Int):=by omega
    have x1:=Ib.o n hlt;have We:=ai hlt;obtain⟨R,hRR⟩:=ex ((au k.frames n).refs);rw[<- hRR] at x1;have qj:=ai hRR;clear hRR hlt hn;by_cases hz:R=0
    · have HF:=ai (vh.o n We.o (by rw[<- qj.o];exact hz) HNN.o);have zb:(R==0)=true:=by grind
      clear hz pq vh;go_wp2;exact HF.o
    · have zb:(R==0)=false:=by grind
      have HZ:=ai hz;clear hz;go_wp2;go_roundw
      case rel =>
       refine⟨n+1,We.o,by go_num,by grind,fun q hq=>?_⟩;by_cases c:q=n
       · rw[c,<- qj.o];grind
       · exact HNN.o q (by omega)
      case measure=>simp[intOf];omega
  · obtain rfl:n=k.frames.length:=by omega
    obtain⟨T,IG,Gl,Ox,hlast⟩:=pq.o HNN.o;have HPS:=ai IG;have ZF:=ai Gl;have LL:=ai Ox;have JZ:=ai hlast;clear IG Gl Ox hlast pq vh Ib HNN hlt hn;go_wp2;go_loopg [6,7,8] T (fun g _ _ _ wr=>∃n:Nat,n<=T/\g=T-n/\bQ lo mb tt X wr S (bJ held n k)/\dI S w S wr)
    case atStart=>exact⟨0,ql _,by omega,rz.o,dI.refl _ _⟩
    case round =>
     obtain⟨n,hn,hgk,jn,hch⟩:=hrel;obtain⟨K,hK⟩:=ex (bJ held n k);obtain⟨rU,hd0,hd1⟩:=LL.o n;have HST:Hid (bJ held (n+1) k=iO held K):=by rw[hK];rfl
     have HPN:Hid ((n<T->kG held K=true)/\(n=T->kG held K=false)):=by rw[hK];exact(show _ from⟨HPS.o n,fun e=>by rw[e];exact ZF.o⟩)
     have HLN:Hid (∀V,n=T->bQ lo mb tt X V S { K with hand:=gM K }->dI S w S V->Calls Tryz.prog 147 #[.pointer (some (Ad mb 0)),I K.hand] V fun e w'=>e=.returned (.tuple #[])/\P (.returned (I K.hand)) w'):=fun V e h1 h2=>by
      rw[hK,e] at h1 ⊢;exact JZ.o V h1 h2
     rw[<- hK] at jn rU hd0 hd1;have HNT:=ai hn;have HGK:=ai hgk;have c4:=jn.c4;have f4:=jn.free 4;obtain⟨fb1,cF1,A1⟩:=jn.toiZ.fr (by omega);have c1:=jn.c1;rw[A1.v,rU] at c1;obtain⟨f,hf⟩:∃f:Nat,K.hand=(f:Int):=⟨K.hand.toNat,by omega⟩;rw[hf] at c4 HLN hd1;have hm:((f:Int)+1).tmod (k.frames.length:Int)=gM K:=by
      unfold gM;rw[N8 (by omega),hf,rU]
     obtain⟨NX,hNX⟩:=ex (gM K);rw[<- hNX] at hm;have hw1:IntKind.i64.wrap ((f:Int)+1)=(f:Int)+1:=mP _ (by omega);have hNb:-9223372036854775808<=NX/\NX<=9223372036854775807:=by
      have h1:0<=((f:Int)+1).tmod (k.frames.length:Int):=Int.tmod_nonneg _ (by omega);have h2:((f:Int)+1).tmod (k.frames.length:Int)<(k.frames.length:Int):=Int.tmod_lt_of_pos _ (by omega);omega
     obtain⟨m1,m2⟩:=jn.abO NX;have JY:=ai m1;have Ht:=ai (hch.trans m2);have hff:f<K.frames.length:=by omega
     obtain⟨fb2,cF2,A2⟩:=aaE (f:=f) m1 hff;have yo:=ai A2;have ZK:Hid (∀(b:Bool),held.contains (f:Int)=b->kG held K=(b || (au K.frames f).seen)/\iO held K={ K with hand:=NX,frames:=if b then K.frames else K.frames.set f (vI (au K.frames f)) }):=fun b hb=>by
      unfold kG iO;rw[hf,hb,hNX,iu];exact⟨rfl,rfl⟩
     have rR:=ai hNX;have Wc:=ai rU;clear jn hch A1 rU hd0 m1 m2 A2 hK hn hgk hf hNX hff HPS ZF LL JZ rz;go_upto_region 8 with fail;obtain⟨W1,hW1⟩:=ex (wr.setCell (Ad mb 4) (I NX));rw[<- hW1] at JY Ht yo ⊢;clear hW1 c1 c4 f4 hm hw1 hNb;have Sh:=ai (HHE.o W1 Ht.o);go_wp2;go_loopw [7,8] (fun hv jv wq=>∃m:Nat,m<=held.length/\jv=I (m:Int)/\hv=.bool ((held.take m).contains (f:Int))/\wq=W1) (fun _ jv _=>held.length-(intOf jv).toNat)
     case atStart=>exact⟨0,ql _,rfl,rfl,rfl⟩
     case round =>
      obtain⟨m,hm,rfl,rfl,hwq⟩:=hrel;have hwq:=hwq.symm;subst hwq;by_cases hlt:m<held.length
      · have hmi:(m:Int)<(held.length:Int):=by omega
        have We:=ai hlt;have ZM:=ai (Lq held (f:Int) m hlt);obtain⟨hb,ho,e1,_,e3⟩:=Sh.o (by omega);have z:=e3 m hlt 0 (by omega);rw[NC,gV] at z;obtain⟨q,hq⟩:=ex (held.getD m 0);rw[<- hq] at z ZM;replace z:W1.cell? (Ad hb (ho+m))=some (I q):=z;subst e1;obtain⟨b,hbb⟩:=ex ((held.take m).contains (f:Int));rw[<- hbb] at ZM ⊢;clear hq hbb hlt hm e3;cases b with
        | true =>
         go_wp2;go_roundw
         case rel=>exact⟨m+1,We.o,by go_num,by rw[ZM.o];rfl,by omega⟩
         case measure=>simp[intOf];omega
        | false =>
         go_wp2;go_roundw
         case rel=>exact⟨m+1,We.o,by go_num,by rw[ZM.o];rfl,by omega⟩
         case measure=>simp[intOf];omega
      · obtain rfl:m=held.length:=by omega
        rw[tF];obtain⟨b,hbb⟩:∃b,held.contains (f:Int)=b:=⟨_,rfl⟩;obtain⟨hpb,DX⟩:=ZK.o b hbb;rw[hbb];clear hlt hm hbb Sh;cases b with
        | true =>
         have hlt:n<T:=by
          rcases Ig n T with g | g
          · exact g
          · have:=HPN.o.2 (by have:=HNT.o;omega);rw[hpb] at this;simp at this
         have DF:=ai (HST.o.trans DX);clear hpb DX;go_wp2;go_roundg (T-(n+1))
         case measure=>have:=HGK.o;omega
         case rel=>exact⟨n+1,hlt,by omega,by rw[DF.o];exact JY.o,Ht.o⟩
        | false =>
         obtain⟨b1,b3,a4,a5,a6⟩:=yo.o;have a1:W1.cell? (Ad mb 1)=some (.slice (some (Ad fb2 0)) K.frames.length cF2):=b1;have a3:W1.cell? (Ad fb2 (f*4+3))=some (.bool (au K.frames f).seen):=b3;rw[Wc.o] at a1;obtain⟨sn,hsn⟩:∃sn,(au K.frames f).seen=sn:=⟨_,rfl⟩;rw[hsn] at a3 hpb;have HA5:=ai a5;have HA6:=ai a6;have DF:=ai (HST.o.trans DX);clear DX a5 a6 hsn b1 b3;cases sn with
         | true =>
          have hlt:n<T:=by
           rcases Ig n T with g | g
           · exact g
           · have:=HPN.o.2 (by have:=HNT.o;omega);rw[hpb] at this;simp at this
          clear hpb;go_wp2;go_roundg (T-(n+1))
          case measure=>have:=HGK.o;omega
          case rel=>exact⟨n+1,hlt,by omega,by rw[DF.o];exact HA5.o,Ht.o.trans HA6.o⟩
         | false =>
          have hnT:n=T:=by
           rcases Ig n T with g | g
           · have:=HPN.o.1 g;rw[hpb] at this;simp at this
           · have:=HNT.o;omega
          have HCA:=ai (HLN.o W1 hnT (by rw[<- rR.o];exact JY.o) Ht.o);clear hpb hnT;go_wp2_with (go_at_call 147;refine HCA.o.mono ?_;rintro e w3 ⟨rfl,hp3⟩;have FZ:=ai hp3;clear hp3)
          exact FZ.o
structure Ti (V:World) (j:Nat) (p:Int) (pb:Nat) (lv:Bool) (ax:Option Addr) (nx cx:Nat) (ae:Option Addr) (ne ce:Nat) (r:Int):Prop where
 y0:V.cell? (Ad pb (j*3))=some (.bool lv)
 y1:V.cell? (Ad pb (j*3+1))=some (.slice ax nx cx)
 y2:V.cell? (Ad pb (j*3+2))=some (.slice ae ne ce)
 lt:pb<V.heap.size
 call:∀V',Below V.heap.size V V'->Calls Tryz.prog 67 #[.agg #[.bool lv,.slice ax nx cx,.slice ae ne ce],I p] V' fun e w'=>e=.returned (I r)/\Below V'.heap.size V' w'
theorem Ml {lo mb:Nat} {tt:TypeId} {X:List Value} {V:World} {S:dN} {K:aN} {j:Nat} {pb nP cP:Nat} (h:bQ lo mb tt X V S K) (hen:(ak K.aj j).aW.length<=1000) (hj:j<K.aj.length) (hP:S.vP=.slice (some (Ad pb 0)) nP cP) (p:Int) (i:Nat) (hno:∀m,m<i->(aI (ak K.aj j).aW m).page≠p) (hi:i=(ak K.aj j).aW.length∨(i<(ak K.aj j).aW.length/\(aI (ak K.aj j).aW i).page=p)) :
  ∃ax nx cx ae ce,Ti V j p pb (ak K.aj j).live ax nx cx ae (ak K.aj j).aW.length ce (if i<(ak K.aj j).aW.length then (i:Int) else -1)/\dz bk 3 eD V ae (ak K.aj j).aW/\eU V (.slice ax nx cx) (ak K.aj j).aZ:=by
 obtain⟨GV,ZX,A⟩:=h.toiZ.sp (by omega);obtain rfl:pb=GV:=by have ev:=hP.symm.trans A.v;grind
 obtain⟨ae,ce,Cv,hre⟩:=h.toiZ.aW hj;obtain⟨ax,cx,yt,_,_⟩:=aY (h.each j hj).aZ;have a1:=A.x1 j hj;have a2:=A.x2 j hj;have har:=h.toiZ.aZ hj;rw[yt] at a1 har;rw[Cv] at a2;exact⟨ax,_,cx,ae,ce,⟨A.x0 j hj,a1,a2,A.lt,fun V' hV=>rK _ _ _ ae ce p i V' (hre.below hV) (by omega) hno hi⟩,hre,har⟩
structure EA (V:World) (j:Nat) (p:Int) (pb:Nat) (e:bC) (lv:Bool) (ax:Option Addr) (nx cx gb ne ce i:Nat):Prop extends Ti V j p pb lv ax nx cx (some (Ad gb 0)) ne ce (i:Int) where
 il:(i:Int)<(ne:Int)
 gl:gb<V.heap.size
 z0:V.cell? (Ad gb (i*3))=some (I e.page)
 z1:V.cell? (Ad gb (i*3+1))=some (I e.kind)
 z2:V.cell? (Ad gb (i*3+2))=some (I e.loc)
theorem Lp {lo mb:Nat} {tt:TypeId} {X:List Value} {V:World} {S:dN} {K:aN} {j:Nat} {pb nP cP:Nat} (h:bQ lo mb tt X V S K) (hen:(ak K.aj j).aW.length<=1000) (hj:j<K.aj.length) (hP:S.vP=.slice (some (Ad pb 0)) nP cP) {p:Int} {e:bC} (he:bD (ak K.aj j).aW p=some e):∃lv ax nx cx gb ne ce i,EA V j p pb e lv ax nx cx gb ne ce i:=by
 obtain⟨i,h1,h2,h3,h4⟩:=xd he;obtain⟨ax,nx,cx,ae,ce,L,hre,_⟩:=Ml h hen hj hP p i h4 (.inr ⟨h1,h3⟩);rw[bf h1] at L;have Cv:=L.y2;obtain⟨ao,cap,er,_,hg⟩:=aY (h.each j hj).aR;obtain⟨GV,ZX,A⟩:=h.toiZ.sp (by omega);obtain rfl:pb=GV:=by have ev:=hP.symm.trans A.v;grind
 obtain⟨g,rfl,_,hgl⟩:=hg (by omega);have a2:=A.x2 j hj;rw[er,Cv] at a2;injection a2 with a2;injection a2 with a2 _ _;subst a2;obtain⟨b,off,e1,e2,e3⟩:=hre (by omega);injection e1 with e1;injection e1 with e1 e4 _;subst e1 e4;have z0:=e3 i h1 0 (by omega);have z1:=e3 i h1 1 (by omega);have z2:=e3 i h1 2 (by omega);have eE:(ak K.aj j).aW.getD i eD=e:=h2;rw[eE,iI] at z0 z1 z2;exact⟨_,ax,nx,cx,g,_,ce,i,⟨L,by omega,hgl,z0,z1,z2⟩⟩
structure Jz (lo mb:Nat) (tt:TypeId) (X:List Value) (V:World) (S:dN) (K:aN) (i fb cF:Nat):Prop where
 v:S.vF=.slice (some (Ad fb 0)) K.frames.length cF
 c1:V.cell? (Ad mb 1)=some (.slice (some (Ad fb 0)) K.frames.length cF)
 ne:¬mb=fb
 x0:V.cell? (Ad fb (i*4))=some (.string (au K.frames i).data)
 x1:V.cell? (Ad fb (i*4+1))=some (I (au K.frames i).refs)
 x2:V.cell? (Ad fb (i*4+2))=some (.bool (au K.frames i).fN)
 x3:V.cell? (Ad fb (i*4+3))=some (.bool (au K.frames i).seen)
 fz:∀o,V.frozen? (Ad fb o)=false
 lt:fb<V.heap.size
 at_:∀a,a<K.frames.length->V.cell? (Ad fb (a*4))=some (.string (au K.frames a).data)/\V.cell? (Ad fb (a*4+1))=some (I (au K.frames a).refs)
 lay:∀V',Below V.heap.size V V'->∀D dy,bQ lo mb tt X ((((V'.setCell (Ad fb (i*4)) (.string D)).setCell (Ad fb (i*4+1)) (I 1)).setCell (Ad fb (i*4+2)) (.bool dy)).setCell (Ad fb (i*4+3)) (.bool false)) S (fC K i D dy)/\dI S V S ((((V'.setCell (Ad fb (i*4)) (.string D)).setCell (Ad fb (i*4+1)) (I 1)).setCell (Ad fb (i*4+2)) (.bool dy)).setCell (Ad fb (i*4+3)) (.bool false))
theorem Lm {lo mb:Nat} {tt:TypeId} {X:List Value} {V:World} {S:dN} {K:aN} {i:Nat} (h:bQ lo mb tt X V S K) (hi:i<K.frames.length):∃fb cF,Jz lo mb tt X V S K i fb cF:=by
 obtain⟨fb,cF,A⟩:=h.toiZ.fr (by omega);have c1:=h.c1;rw[A.v] at c1;refine⟨fb,cF,A.v,c1,fun e=>by have:=A.lab;grind [bQ.lH],A.x0 i hi,A.x1 i hi,A.x2 i hi,A.x3 i hi,A.fz,A.lt,fun a ha=>⟨A.x0 a ha,A.x1 a ha⟩,fun V' hV D dy=>?_⟩;have m:=(h.below hV).WW A.v hi ⟨D,1,dy,false⟩;exact⟨m.1,(dI.below hV).trans m.2⟩
structure PI (mb:Nat) (V:World) (K:aN) (p:Int) (z:Bool) (vS:Option Addr) (nS cS fb cF:Nat) (vL:Option Addr) (nL cL pb nP cP:Nat):Prop where
 c0:V.cell? (Ad mb 0)=some (.slice vS nS cS)
 c2:V.cell? (Ad mb 2)=some (.slice vL nL cL)
 c3:V.cell? (Ad mb 3)=some (.slice (some (Ad pb 0)) nP cP)
 c4:V.cell? (Ad mb 4)=some (I K.hand)
 lt:mb<V.heap.size
 call:∀V',Below V.heap.size V V'->∀g1 g2 g3,Calls Tryz.prog 49 #[.agg #[.slice vS nS cS,.slice (some (Ad fb 0)) K.frames.length cF,.slice vL nL cL,.slice (some (Ad pb 0)) nP cP,I K.hand],.agg #[I g1,I g2,I g3,.bool z],I p] V' fun e w'=>e=.returned (.string (eH K.aA p z))/\Below V'.heap.size V' w'
theorem Yt {lo mb:Nat} {tt:TypeId} {X:List Value} {V:World} {S:dN} {K:aN} {p:Int} {z:Bool} {fb cF pb nP cP:Nat} (h:bQ lo mb tt X V S K) (hR:bg K) (hz:z=false->(dJ K.aA p).isSome=true) (hv:S.vF=.slice (some (Ad fb 0)) K.frames.length cF) (hP:S.vP=.slice (some (Ad pb 0)) nP cP):∃vS nS cS vL nL cL,PI mb V K p z vS nS cS fb cF vL nL cL pb nP cP:=by
 obtain⟨a,pl,hk⟩:=h.toiZ.has;have c0:=h.c0;have c2:=h.c2;have c3:=h.c3;rw[pl.eS] at c0;rw[pl.eL] at c2;rw[hP] at c3;have eF:=pl.eF;rw[hv] at eF;injection eF with eF1 _ eF3;have eP:=pl.eP;rw[hP] at eP;injection eP with eP1 eP2 eP3;refine⟨a.aS,_,a.cS,a.aL,_,a.cL,c0,c2,c3,h.c4,h.lt,fun V' hV g1 g2 g3=>?_⟩;have:=yK K a g1 g2 g3 z p V' (hk.aA.below hV) (qB hR).aA hR.lQ hz;unfold aT at this;rw[<- eF1,<- eF3,<- eP1,<- eP2,<- eP3] at this;exact this
theorem aaK {K:aN} (hR:bg K) {j:Nat} (hj:j<K.aj.length):(ak K.aj j).aW.length<=1000:=by grind [jC]
theorem Yi {k:aN} {held:List Int} {g:Nat×aN} (G:pY k held g) {j:Nat} (hj:j<k.aj.length) (p:Int):kq g.2 j p=kq k j p:=by
 unfold kq;rw[G.kept.aZ j hj]
theorem U7 {k:aN} (hR:bg k) {j:Nat} (hj:j<k.aj.length) {p:Int} {held:List Int} (hl:held.length<=2) (he:bD (ak k.aj j).aW p=none) :
  di k j p held=((bH k held).1,dW (fC (bH k held).2 (bH k held).1 (eH (bH k held).2.aA p (kq k j p)) false) j ⟨p,1,(bH k held).1⟩):=by
 grind [mK,di,fe,Yi,pY.FC]
theorem U6 {k:aN} (hR:bg k) {j:Nat} (hj:j<k.aj.length) {p:Int} {held:List Int} (hl:held.length<=2) {e:bC} (he:bD (ak k.aj j).aW p=some e) (hk:e.kind≠1) :
  bD (ak (bH k held).2.aj j).aW p=some e/\di k j p held=((bH k held).1,df (dW (fC (bH k held).2 (bH k held).1 (bw (bH k held).2.slots e.loc.toNat).data true) j ⟨p,1,(bH k held).1⟩) e):=by
 grind [mK,di,fe,pY.FC]
theorem U8 {k:aN} {j:Nat} {p:Int} (held:List Int) {e:bC} (he:bD (ak k.aj j).aW p=some e) (hk:e.kind=1):di k j p held=(e.loc.toNat,k):=by
 grind [di]
theorem aaQ {k:aN} (hR:bg k) {j:Nat} (hj:j<k.aj.length) {p:Int} {a:Nat} {held:List Int} (hl:held.length<=1) (ha:bD (ak k.aj j).aW p=some ⟨p,1,a⟩) (hr:(au k.frames a).refs≠1) :
  jz k j p a held=((bH k (held++[(a:Int)])).1,df (dW (fC (bH k (held++[(a:Int)])).2 (bH k (held++[(a:Int)])).1 (au (bH k (held++[(a:Int)])).2.frames a).data true) j ⟨p,1,(bH k (held++[(a:Int)])).1⟩) ⟨p,1,a⟩):=by
 grind [mK,jz,fe,pY.stay]
end Go.Proofs.YtpgifpeohlllfaaGreat
end Go.Proofs.YtpgifpeohlllfaaGreat
