import Derived.Test.YtpgifpeohlllfaaGreatGV26
import Derived.Test.YtpgifpeohlllfaaGreatGV23
set_option maxHeartbeats 20000000
set_option linter.unusedVariables false
set_option maxRecDepth 100000
set_option linter.unusedSimpArgs false
namespace Go.Proofs.YtpgifpeohlllfaaGreat
namespace Go.Proofs.YtpgifpeohlllfaaGreat
open Go.RowKit
structure ajB (k:aN) (A:Int):Prop where
 lQ:fJ k.aA=false->A=1
 hand:¬(0<=k.hand/\k.hand<=(k.frames.length:Int)-1)->A=1
 sp:∀i,i<k.aj.length->mI k.aA k.frames.length k.slots.length (ak k.aj i)=false->A=1
 room:¬eW k.aj<=(k.slots.length:Int)->A=1
 fr:∀i,i<k.frames.length->pW k.aA (au k.frames i) (gz k.aj 1 i)=false->A=1
 sl:∀i,i<k.slots.length->sU (bw k.slots i) (gz k.aj 2 i)=false->A=1
 yes:fJ k.aA=true->(0<=k.hand/\k.hand<=(k.frames.length:Int)-1)->qy k k.aj.length=true->eW k.aj<=(k.slots.length:Int)->tN k k.frames.length=true->tK k k.slots.length=true->A=0
theorem adk {k:aN} (hc:mi k=true):ajB k (qU k):=by
 have e:qU k=if qL k then 0 else 1:=by
  unfold qU;rw[bl (by rw[hc];decide)]
 have no:qL k=false->qU k=1:=fun h=>by rw[e,h];rfl
 refine⟨fun h=>no ?_,fun h=>no ?_,fun i hi h=>no ?_,fun h=>no ?_,fun i hi h=>no ?_,fun i hi h=>no ?_,fun h1 h2 h3 h4 h5 h6=>?_⟩
 · unfold qL;rw[h,vY]
 · unfold qL;rw[dE h,vY,Bool.and_false]
 · unfold qL;rw[ug (f:=fun n=>mI k.aA k.frames.length k.slots.length (ak k.aj n)) (g:=qy k) (fun _=>rfl) _ i hi h];simp
 · unfold qL;rw[dE h];simp
 · unfold qL;rw[ug (f:=fun n:Nat=>pW k.aA (au k.frames n) (gz k.aj 1 n)) (g:=tN k) (fun _=>rfl) _ i hi h];simp
 · unfold qL;rw[ug (f:=fun n:Nat=>sU (bw k.slots n) (gz k.aj 2 n)) (g:=tK k) (fun _=>rfl) _ i hi h];simp
 · rw[e];unfold qL;rw[h1,dh h2,h3,dh h4,h5,h6];rfl
structure ajA (k:aN):Prop where
 check:∀i,i<k.aj.length->br (ak k.aj i).aZ=0
 few:∀i,i<k.aj.length->(ak k.aj i).aW.length<=65025
 ak4:∀kd i,(gz k.aj kd i).n≠0->(gz k.aj kd i).D6.zero=false->(dJ k.aA (gz k.aj kd i).page).isSome=true
 pos:∀kd i,0<=(gz k.aj kd i).n
theorem Tg {k:aN} (h:qy k k.aj.length=true):ajA k:=by
 have all:∀i,i<k.aj.length->rP k.aA k.frames.length k.slots.length (ak k.aj i):=fun i hi=>Hk.1 ((vJ (f:=fun n=>mI k.aA k.frames.length k.slots.length (ak k.aj n)) (g:=qy k) rfl (fun _=>rfl) _).1 h i hi)
 refine⟨fun i hi=>(all i hi).aZ,fun i hi=>?_,fun kd i hn hz=>?_,fun kd i=>?_⟩
 · have h1:=wJ (all i hi);have h2:=nZ (ak k.aj i).aZ;omega
 · have N:=yx k.aj kd i;have hne:cO k.aj kd i≠[]:=fun e=>hn (by rw[N.n,e];rfl)
   obtain⟨s,hs,e,he,_,_,hx⟩:=o8.1 (N.last hne);obtain⟨j,hj,ej⟩:=jb uP hs;have ej:ak k.aj j=s:=ej;have hS:=all j hj;rw[ej] at hS;injection hx with p1 p2;rw[p1];exact hS.aA e.page (hS.FC e he).1 (by rw[<- p2];exact hz)
 · rw[(yx k.aj kd i).n];omega
theorem Vc (k:aN) (a:fP) (w:World) (hK:fT w a k) (hF:gW k) :
  Calls Tryz.prog 14 #[.agg (aT a k)] w fun e w'=>e=.returned (I (qU k))/\Below w.heap.size w w':=by
 obtain⟨nS,hnS⟩:=ex k.aA.length;obtain⟨nF,hnF⟩:=ex k.frames.length;obtain⟨nL,hnL⟩:=ex k.slots.length;obtain⟨nP,QH⟩:=ex k.aj.length;obtain⟨WA,iK⟩:=ex (w.alloc (.cells #[.slice a.aS nS a.cS,.slice a.aF nF a.cF,.slice a.aL nL a.cL,.slice a.aP nP a.cP,I k.hand] 27));have hb0:Below w.heap.size w WA:=by rw[iK];exact(aK _ _).alloc (aM _) _
 have kb:WA.heap[w.heap.size]?=some (.cells #[.slice a.aS nS a.cS,.slice a.aF nF a.cF,.slice a.aL nL a.cL,.slice a.aP nP a.cP,I k.hand] 27 (0,0)):=by rw[iK];exact bG w _ _
 have KB:Hid (∀V,Below WA.heap.size WA V->V.heap[w.heap.size]?=some (.cells #[.slice a.aS nS a.cS,.slice a.aF nF a.cF,.slice a.aL nL a.cL,.slice a.aP nP a.cP,I k.hand] 27 (0,0))):=fun V hb=>aQ kb hb (aO kb)
 have Fz:aT a k=#[.slice a.aS nS a.cS,.slice a.aF nF a.cF,.slice a.aL nL a.cL,.slice a.aP nP a.cP,I k.hand]:=by unfold aT;rw[<- hnS,<- hnF,<- hnL,<- QH]
 have LG:=ai gP;have iF:∀{V:World},Below WA.heap.size WA V->Below w.heap.size w V:=fun hV=>hb0.trans (hV.mono hb0.size)
 have HSR:Hid (∀V,Below WA.heap.size WA V->Calls Tryz.prog 45 #[.slice a.aS nS a.cS] V fun e w'=>e=.returned (.bool (fJ k.aA))/\Below V.heap.size V w'):=fun V hV=>by rw[hnS];exact I0 k.aA a.aS a.cS V (hK.aA.below (iF hV)) hF.aA
 have iG:=ai iK;have eO:=ai hb0;rw[Fz];have hsS:nS<=140737488351232:=by rw[hnS];exact hF.aA.1
 have hsF:nF<=140737488351232:=by rw[hnF];exact hF.nf
 have hsL:nL<=140737488351232:=by rw[hnL];exact hF.ns
 have hsP:nP<=140737488351232:=by rw[QH];exact hF.np
 by_cases hcn:mi k=true
 · have HAN:=ai (adk hcn);have QQ:(3<=nF/\nF<=64)/\nL<=512/\(1<=nP/\nP<=4)/\nS<=255:=by rw[hnS,hnF,hnL,QH];exact jH hcn
   obtain⟨⟨hF3,awk⟩,hL5,⟨hP1,hP4⟩,hS2⟩:=QQ;obtain⟨A,hA⟩:=ex (qU k);rw[<- hA] at HAN ⊢;have HSF:Hid (∀V i,Below WA.heap.size WA V->i<nP->∃pb po lv aa la ca ap le cp,a.aP=some (Ad pb po)/\(∀U,Below V.heap.size V U->U.cell? (Ad pb (po+i*3))=some (.bool lv)/\U.cell? (Ad pb (po+i*3+1))=some (.slice aa la ca)/\U.cell? (Ad pb (po+i*3+2))=some (.slice ap le cp))/\∀U,Below V.heap.size V U->Calls Tryz.prog 46 #[.agg #[.slice a.aS nS a.cS,.slice a.aF nF a.cF,.slice a.aL nL a.cL,.slice a.aP nP a.cP,I k.hand],.agg #[.bool lv,.slice aa la ca,.slice ap le cp]] U fun e w'=>e=.returned (.bool (mI k.aA k.frames.length k.slots.length (ak k.aj i)))/\Below U.heap.size U w'):=fun V i hV hi=>by
    obtain⟨pb,po,e1,e2,e3⟩:=(hK.aj.below (iF hV)) (by omega);obtain⟨va,ap,cp,c0,c1,c2,c3,c4,_⟩:=e3 i (by omega);have c3':=c3;obtain⟨aa,ca,rfl,_⟩:=c3;refine⟨pb,po,_,aa,_,ca,ap,_,cp,e1,fun U hU=>⟨(hU.cell (p:=(Ad pb (po+i*3))) e2).trans c0,(hU.cell (p:=(Ad pb (po+i*3+1))) e2).trans c1,(hU.cell (p:=(Ad pb (po+i*3+2))) e2).trans c2⟩,fun U hU=>?_⟩;have hf:=hF.sp i (by omega);have:=Lg k a (ak k.aj i) aa ap ca cp U (c3'.below hU) hf.aZ (c4.below hU) hf.aW (hK.aA.below ((iF hV).trans (hU.mono (iF hV).size))) hF.aA (by omega) (by omega);rw[Fz] at this;exact this
   have HRM:qy k k.aj.length=true->Hid (∀V,Below WA.heap.size WA V->Calls Tryz.prog 47 #[.agg #[.slice a.aS nS a.cS,.slice a.aF nF a.cF,.slice a.aL nL a.cL,.slice a.aP nP a.cP,I k.hand]] V fun e w'=>e=.returned (I (eW k.aj))/\Below V.heap.size V w'):=fun hs V hV=>by
    have:=Mj k a V (hK.aj.below (iF hV)) (Tg hs).check (by omega);rw[Fz] at this;exact this
   have Y4:qy k k.aj.length=true->Hid (∀V kd i,Below WA.heap.size WA V->∃nn np nfi q1 q2 q3 q4,gz k.aj kd i=⟨nn,np,nfi,⟨q1,q2,q3,q4⟩⟩/\0<=nn/\(nn≠0->q4=false->(dJ k.aA np).isSome=true)/\Calls Tryz.prog 48 #[.agg #[.slice a.aS nS a.cS,.slice a.aF nF a.cF,.slice a.aL nL a.cL,.slice a.aP nP a.cP,I k.hand],I kd,I i] V fun e w'=>e=.returned (.tuple #[I nn,I np,.bool nfi,.agg #[I q1,I q2,I q3,.bool q4]])/\Below V.heap.size V w'):=fun hs V kd i hV=>by
    have f:=Tg hs;have h1:=Rs k a kd i V (hK.aj.below (iF hV)) f.check (by omega) f.few;have h2:=f.ak4 kd i;have h3:=f.pos kd i;rw[Fz] at h1;exact⟨_,_,_,_,_,_,_,rfl,h3,h2,h1⟩
   have ZL:fJ k.aA=true->Hid (∀V q1 q2 q3 q4 p,Below WA.heap.size WA V->(q4=false->(dJ k.aA p).isSome=true)->Calls Tryz.prog 49 #[.agg #[.slice a.aS nS a.cS,.slice a.aF nF a.cF,.slice a.aL nL a.cL,.slice a.aP nP a.cP,I k.hand],.agg #[I q1,I q2,I q3,.bool q4],I p] V fun e w'=>e=.returned (.string (eH k.aA p q4))/\Below V.heap.size V w'):=fun hr V q1 q2 q3 q4 p hV hz=>by
    have:=yK k a q1 q2 q3 q4 p V (hK.aA.below (iF hV)) hF.aA hr hz;rw[Fz] at this;exact this
   have Wj:Hid (∀V i,Below WA.heap.size WA V->i<nF->∃fb fo,a.aF=some (Ad fb fo)/\V.cell? (Ad fb (fo+i*4))=some (.string (au k.frames i).data)/\V.cell? (Ad fb (fo+i*4+1))=some (I (au k.frames i).refs)/\V.cell? (Ad fb (fo+i*4+2))=some (.bool (au k.frames i).fN)/\V.cell? (Ad fb (fo+i*4+3))=some (.bool (au k.frames i).seen)):=fun V i hV hi=>by
    obtain⟨fb,fo,e1,e2,e3⟩:=(hK.frames.below (iF hV)) (by omega);have z:=e3 i (by omega) 0 (by omega);rw[gV] at z;exact⟨fb,fo,e1,z,e3 i (by omega) 1 (by omega),e3 i (by omega) 2 (by omega),e3 i (by omega) 3 (by omega)⟩
   have Qj:Hid (∀V i,Below WA.heap.size WA V->i<nL->∃fb fo,a.aL=some (Ad fb fo)/\V.cell? (Ad fb (fo+i*2))=some (.string (bw k.slots i).data)/\V.cell? (Ad fb (fo+i*2+1))=some (I (bw k.slots i).refs)):=fun V i hV hi=>by
    obtain⟨fb,fo,e1,e2,e3⟩:=(hK.slots.below (iF hV)) (by omega);have z:=e3 i (by omega) 0 (by omega);rw[gV] at z;exact⟨fb,fo,e1,z,e3 i (by omega) 1 (by omega)⟩
   have HLF:=ai hnF;have HLL:=ai hnL;have WQ:=ai QH;rw[<- hnF,<- hnL] at HSF;obtain⟨k0,k1,k2,k3,k4⟩:=dx (KB.o WA (aK _ _));have E4:Hid (∀V,Calls Tryz.prog 44 #[I (nF:Int),I 3,I 64] V fun e w'=>e=.returned (.bool true)/\V=w'):=fun V=>by
    have:=LG.o (nF:Int) 3 64 V;rw[dh (by omega)] at this;exact this
   have Qi:Hid (∀V,Calls Tryz.prog 44 #[I (nP:Int),I 1,I 4] V fun e w'=>e=.returned (.bool true)/\V=w'):=fun V=>by
    have:=LG.o (nP:Int) 1 4 V;rw[dh (by omega)] at this;exact this
   have HW3:=ai (fun V=>LG.o k.hand 0 ((nF:Int)-1) V);obtain⟨hb,hhb⟩:=ex (decide (0<=k.hand/\k.hand<=(nF:Int)-1));rw[<- hhb] at HW3;have HHB:=ai hhb;obtain⟨rs,hrs⟩:=ex (fJ k.aA);rw[<- hrs] at HSR;have Nr:=ai hrs;clear hK hF hb0 kb iK Fz iF hcn hA hhb hrs LG hnS hnF hnL QH;go_enter Tryz.func14,Tryz.ntmps14;go_upto_region 1 with fail;rw[<- iG.o];go_upto_region 3 with(first
    | (have _:=FIRST;go_at_call 44;refine(Qi.o _).mono ?_;rintro e w2 ⟨rfl,rfl⟩)
    | (go_at_call 44;refine(E4.o _).mono ?_;rintro e w1 ⟨rfl,rfl⟩;have FIRST:=trivial))
   cases rs with
   | false =>
    have e0:A=1:=HAN.o.lQ Nr.o.symm;subst e0;go_wp2_with (go_at_call 45;refine(HSR.o _ (aK _ _)).mono ?_;rintro e w1 ⟨rfl,hb1⟩;have cT:=ai hb1;clear hb1)
    go_ret;exact⟨rfl,eO.o.trans (cT.o.mono eO.o.size)⟩
   | true =>
   have hrs:fJ k.aA=true:=Nr.o.symm;have Sl:=ZL hrs;have Y2:=ai hrs;clear hrs ZL;cases hb with
   | false =>
    have e0:A=1:=HAN.o.hand (by rw[<- HLF.o];exact NU HHB.o.symm);subst e0;go_wp2_with (first | (go_at_call 45;refine(HSR.o _ (aK _ _)).mono ?_;rintro e w1 ⟨rfl,hb1⟩;have cT:=ai hb1;obtain⟨k0,k1,k2,k3,k4⟩:=dx (KB.o _ hb1);clear hb1) | (go_at_call 44;refine(HW3.o _).mono ?_;rintro e w2 ⟨rfl,rfl⟩))
    go_ret;exact⟨rfl,eO.o.trans (cT.o.mono eO.o.size)⟩
   | true =>
   have HHD:Hid (0<=k.hand/\k.hand<=(k.frames.length:Int)-1):=(show 0<=k.hand/\k.hand<=(k.frames.length:Int)-1 by rw[<- HLF.o];exact jH HHB.o.symm);go_upto_region 5 with(first | (go_at_call 45;refine(HSR.o _ (aK _ _)).mono ?_;rintro e w1 ⟨rfl,hb1⟩;have cT:=ai hb1;obtain⟨k0,k1,k2,k3,k4⟩:=dx (KB.o _ hb1);clear hb1) | (go_at_call 44;refine(HW3.o _).mono ?_;rintro e w2 ⟨rfl,rfl⟩))
   have ZF:Hid (∀i,qy k (i+1)=(qy k i&&mI k.aA nF nL (ak k.aj i))):=fun _=>by rw[HLF.o,HLL.o];exact(rfl:_=_)
   have QL:Hid (∀i,i<nP->mI k.aA nF nL (ak k.aj i)=false->A=1):=fun i hi h=>HAN.o.sp i (by have:=WQ.o;omega) (by rw[<- HLF.o,<- HLL.o];exact h)
   clear k0 k1 k2 k3 k4 E4 Qi HW3 HSR HHB Nr;go_wp2;go_loopw [3] (fun iv wq=>∃i:Nat,i<=nP/\iv=I (i:Int)/\qy k i=true/\Below WA.heap.size WA wq) (fun iv _=>nP-(intOf iv).toNat)
   case atStart=>exact⟨0,by omega,rfl,rfl,cT.o⟩
   case round =>
    obtain⟨i,hi,rfl,hsi,zB⟩:=hrel;have ZG:=ai hsi;have A7:=ai zB;obtain⟨k0,k1,k2,k3,k4⟩:=dx (KB.o wr zB);by_cases hlt:i<nP
    · have Gd:(i:Int)<(nP:Int):=by omega
      obtain⟨pb,po,lv,aa,la,ca,ap,le,cp,hao,hcl,hsf⟩:=HSF.o wr i zB hlt;have HST:=ai (ZF.o i);have Sj:=ai (QL.o i hlt);obtain⟨bv,hbv⟩:=ex (mI k.aA nF nL (ak k.aj i));rw[<- hbv] at hsf HST Sj;have rB:=gw wr;rw[hao] at hsf k3 KB;have kk0:∀x:dB wr.heap.size wr,x.world.cell? (Ad w.heap.size 0)=some (.slice a.aS nS a.cS):=fun x=>aB (KB.o _ (A7.o.trans (x.keeps.mono A7.o.size))) 0 rfl
      have kk1:∀x:dB wr.heap.size wr,x.world.cell? (Ad w.heap.size 1)=some (.slice a.aF nF a.cF):=fun x=>aB (KB.o _ (A7.o.trans (x.keeps.mono A7.o.size))) 1 rfl
      have kk2:∀x:dB wr.heap.size wr,x.world.cell? (Ad w.heap.size 2)=some (.slice a.aL nL a.cL):=fun x=>aB (KB.o _ (A7.o.trans (x.keeps.mono A7.o.size))) 2 rfl
      have kk3:∀x:dB wr.heap.size wr,x.world.cell? (Ad w.heap.size 3)=some (.slice (some (Ad pb po)) nP a.cP):=fun x=>aB (KB.o _ (A7.o.trans (x.keeps.mono A7.o.size))) 3 rfl
      have kk4:∀x:dB wr.heap.size wr,x.world.cell? (Ad w.heap.size 4)=some (I k.hand):=fun x=>aB (KB.o _ (A7.o.trans (x.keeps.mono A7.o.size))) 4 rfl
      have s0:∀x:dB wr.heap.size wr,x.world.cell? (Ad pb (po+i*3))=some (.bool lv):=fun x=>(hcl _ x.keeps).1
      have s1:∀x:dB wr.heap.size wr,x.world.cell? (Ad pb (po+i*3+1))=some (.slice aa la ca):=fun x=>(hcl _ x.keeps).2.1
      have s2:∀x:dB wr.heap.size wr,x.world.cell? (Ad pb (po+i*3+2))=some (.slice ap le cp):=fun x=>(hcl _ x.keeps).2.2
      have qd:=ai hsf;clear hcl hsf hbv hsi zB HSF ZF QL HRM Y4 Sl Wj Qj;go_upto_region 8 with fail;refine cD (by kernel_rfl) (by kernel_rfl) ?_
      repeat (first | go_big_quiet_step ((go_at_call 46;exact eV _ qd.o)) | quiet_step ((go_at_call 46;exact eV _ qd.o)))
      refine fR ?_;rintro _ ⟨X,rfl⟩;have oo:=ai (A7.o.trans (X.keeps.mono A7.o.size));clear s0 s1 s2 kk0 kk1 kk2 kk3 kk4 rB;cases bv with
      | false =>
       have e0:A=1:=Sj.o rfl;subst e0;go_wp2;go_ret;exact⟨rfl,eO.o.trans (oo.o.mono eO.o.size)⟩
      | true =>
       have Sm:Hid (qy k (i+1)=true):=(show qy k (i+1)=true by rw[HST.o,ZG.o];rfl);go_wp2;go_roundw
       case rel=>exact⟨i+1,by omega,by go_num,Sm.o,oo.o⟩
       case measure=>simp[intOf];omega
    · obtain rfl:nP=i:=by omega
      have hsp:qy k k.aj.length=true:=by rw[<- WQ.o];exact hsi
      have ajR:=HRM hsp;have ahk:=Y4 hsp;have amW:=ai hsp;have hrb:=tT k.aj k.aj.length;have aea:0<=eW k.aj/\eW k.aj<=65025*1000000:=by
       have:=WQ.o;unfold eW;omega
      have HRO:Hid (¬eW k.aj<=(nL:Int)->A=1):=fun h=>HAN.o.room (by rw[<- HLL.o];exact h)
      have amZ:Hid (eW k.aj<=(nL:Int)->eW k.aj<=(k.slots.length:Int)):=fun h=>by rw[<- HLL.o];exact h
      obtain⟨RM,Oa⟩:=ex (eW k.aj);rw[<- Oa] at ajR aea HRO;have am0:=ai Oa;have rB:=gw wr;have kk0:∀x:dB wr.heap.size wr,x.world.cell? (Ad w.heap.size 0)=some (.slice a.aS nS a.cS):=fun x=>aB (KB.o _ (A7.o.trans (x.keeps.mono A7.o.size))) 0 rfl
      have kk1:∀x:dB wr.heap.size wr,x.world.cell? (Ad w.heap.size 1)=some (.slice a.aF nF a.cF):=fun x=>aB (KB.o _ (A7.o.trans (x.keeps.mono A7.o.size))) 1 rfl
      have kk2:∀x:dB wr.heap.size wr,x.world.cell? (Ad w.heap.size 2)=some (.slice a.aL nL a.cL):=fun x=>aB (KB.o _ (A7.o.trans (x.keeps.mono A7.o.size))) 2 rfl
      have kk3:∀x:dB wr.heap.size wr,x.world.cell? (Ad w.heap.size 3)=some (.slice a.aP nP a.cP):=fun x=>aB (KB.o _ (A7.o.trans (x.keeps.mono A7.o.size))) 3 rfl
      have kk4:∀x:dB wr.heap.size wr,x.world.cell? (Ad w.heap.size 4)=some (I k.hand):=fun x=>aB (KB.o _ (A7.o.trans (x.keeps.mono A7.o.size))) 4 rfl
      have HRK:=ai (fun V (hV:Below wr.heap.size wr V)=>ajR.o V (A7.o.trans (hV.mono A7.o.size)));clear hsp HRM Y4 hrb Oa hsi zB HSF ZF QL ajR hlt;go_upto_region 10 with fail;refine cD (by kernel_rfl) (by kernel_rfl) ?_
      repeat (first | go_big_quiet_step ((go_at_call 47;exact eV _ HRK.o)) | quiet_step ((go_at_call 47;exact eV _ HRK.o)))
      refine fR ?_;rintro _ ⟨X,rfl⟩;have oo:=ai (A7.o.trans (X.keeps.mono A7.o.size));clear kk0 kk1 kk2 kk3 kk4 rB HRK k0 k1 k2 k3 k4;by_cases hr:RM<=(nL:Int)
      · have hr2:¬(nL:Int)<RM:=by omega
        have HRY:Hid (eW k.aj<=(k.slots.length:Int)):=amZ.o (by rw[<- am0.o];exact hr);have HFS:Hid (∀i:Nat,tN k (i+1)=(tN k i&&pW k.aA (au k.frames i) (gz k.aj 1 i))):=fun _=>rfl
        have Qo:Hid (∀i:Nat,i<nF->pW k.aA (au k.frames i) (gz k.aj 1 i)=false->A=1):=fun i hi h=>HAN.o.fr i (by have:=HLF.o;omega) h
        clear HRO amZ hr am0;go_wp2;go_loopw [4] (fun iv wq=>∃i:Nat,i<=nF/\iv=I (i:Int)/\tN k i=true/\Below WA.heap.size WA wq) (fun iv _=>nF-(intOf iv).toNat)
        case atStart=>exact⟨0,by omega,rfl,rfl,oo.o⟩
        case round =>
         obtain⟨i,hi,rfl,hei,zB⟩:=hrel;have HEI:=ai hei;have A7:=ai zB;obtain⟨k0,k1,k2,k3,k4⟩:=dx (KB.o wr zB);by_cases hlt:i<nF
         · have Gd:(i:Int)<(nF:Int):=by omega
           obtain⟨fb,fo,hfo,z0,z1,z2,z3⟩:=Wj.o wr i zB hlt;have ZG:=ai (HFS.o i);have Sj:=ai (Qo.o i hlt);obtain⟨f,hf⟩:=ex (au k.frames i);rw[<- hf] at z0 z1 z2 z3 ZG Sj;obtain⟨d,rf,dy,sn⟩:=f;simp only at z0 z1 z2 z3;obtain⟨W1,hW1⟩:=ex (wr.alloc (.cells #[.string d,I rf,.bool dy,.bool sn] 40));have hb1:Below wr.heap.size wr W1:=by rw[hW1];exact(aK _ _).alloc (aM _) _
           have xb1:W1.heap[wr.heap.size]?=some (.cells #[.string d,I rf,.bool dy,.bool sn] 40 (0,0)):=by rw[hW1];exact bG _ _ _
           have D4:=zB.trans (hb1.mono zB.size);have gK:=ai D4;have HXB:=ai xb1;have E4:=ai hW1;obtain⟨nn,np,nfi,q1,q2,q3,q4,wh,hn0,hsh,hcl⟩:=ahk.o W1 1 (i:Int) D4;rw[wh] at ZG Sj;have HNC:=ai hcl;have WN:=ai hsh;rw[hfo] at k1;go_upto_region 16 with fail;rw[<- E4.o];obtain⟨xb,KS⟩:=ex wr.heap.size;rw[<- KS] at HXB ⊢;clear hW1 hb1 xb1 D4 hei zB hf wh hsh hcl KS k0 k1 k2 k3 k4 z0 z1 z2 z3 hfo;obtain⟨k0,k1,k2,k3,k4⟩:=dx (KB.o W1 gK.o);go_upto_region 17 with(go_at_call 48;refine HNC.o.mono ?_;rintro e w2 ⟨rfl,hb2⟩;have fq:=ai hb2;clear hb2)
           have hb3:Below W1.heap.size W1 (w2.alloc (.cells #[I q1,I q2,I q3,.bool q4] 47)):=fq.o.alloc fq.o.size _;have HYB:=ai (bG w2 #[I q1,I q2,I q3,.bool q4] 47);obtain⟨W3,hW3⟩:=ex (w2.alloc (.cells #[I q1,I q2,I q3,.bool q4] 47));obtain⟨yb,hyb⟩:=ex w2.heap.size;rw[<- hW3] at hb3 HYB ⊢;rw[<- hyb] at HYB ⊢;have jo:=ai (gK.o.trans (hb3.mono gK.o.size));have LF:=ai (aQ HXB.o hb3 (aO HXB.o));clear hW3 hyb hb3 k0 k1 k2 k3 k4;obtain⟨BD,hBD⟩:=ex (!(pW k.aA ⟨d,rf,dy,sn⟩ ⟨nn,np,nfi,⟨q1,q2,q3,q4⟩⟩));have LL:=ai hBD;have HBN:Hid (pW k.aA ⟨d,rf,dy,sn⟩ ⟨nn,np,nfi,⟨q1,q2,q3,q4⟩⟩=!BD):=(show pW k.aA ⟨d,rf,dy,sn⟩ ⟨nn,np,nfi,⟨q1,q2,q3,q4⟩⟩=!BD by rw[hBD,Bool.not_not]);rw[HBN.o] at ZG Sj;clear hBD HBN;go_cut [135] (fun c wx=>c=.bool BD/\Below W3.heap.size W3 wx)
           case first =>
            have rB:=gw W3;have kk0:∀x:dB W3.heap.size W3,x.world.cell? (Ad w.heap.size 0)=some (.slice a.aS nS a.cS):=fun x=>aB (KB.o _ (jo.o.trans (x.keeps.mono jo.o.size))) 0 rfl
            have kk1:∀x:dB W3.heap.size W3,x.world.cell? (Ad w.heap.size 1)=some (.slice a.aF nF a.cF):=fun x=>aB (KB.o _ (jo.o.trans (x.keeps.mono jo.o.size))) 1 rfl
            have kk2:∀x:dB W3.heap.size W3,x.world.cell? (Ad w.heap.size 2)=some (.slice a.aL nL a.cL):=fun x=>aB (KB.o _ (jo.o.trans (x.keeps.mono jo.o.size))) 2 rfl
            have kk3:∀x:dB W3.heap.size W3,x.world.cell? (Ad w.heap.size 3)=some (.slice a.aP nP a.cP):=fun x=>aB (KB.o _ (jo.o.trans (x.keeps.mono jo.o.size))) 3 rfl
            have kk4:∀x:dB W3.heap.size W3,x.world.cell? (Ad w.heap.size 4)=some (I k.hand):=fun x=>aB (KB.o _ (jo.o.trans (x.keeps.mono jo.o.size))) 4 rfl
            have x0:∀x:dB W3.heap.size W3,x.world.cell? (Ad xb 0)=some (.string d):=fun x=>aB (aQ LF.o x.keeps (aO LF.o)) 0 rfl
            have x1:∀x:dB W3.heap.size W3,x.world.cell? (Ad xb 1)=some (I rf):=fun x=>aB (aQ LF.o x.keeps (aO LF.o)) 1 rfl
            have x2:∀x:dB W3.heap.size W3,x.world.cell? (Ad xb 2)=some (.bool dy):=fun x=>aB (aQ LF.o x.keeps (aO LF.o)) 2 rfl
            have x3:∀x:dB W3.heap.size W3,x.world.cell? (Ad xb 3)=some (.bool sn):=fun x=>aB (aQ LF.o x.keeps (aO LF.o)) 3 rfl
            have y0:∀x:dB W3.heap.size W3,x.world.cell? (Ad yb 0)=some (I q1):=fun x=>aB (aQ HYB.o x.keeps (aO HYB.o)) 0 rfl
            have y1:∀x:dB W3.heap.size W3,x.world.cell? (Ad yb 1)=some (I q2):=fun x=>aB (aQ HYB.o x.keeps (aO HYB.o)) 1 rfl
            have y2:∀x:dB W3.heap.size W3,x.world.cell? (Ad yb 2)=some (I q3):=fun x=>aB (aQ HYB.o x.keeps (aO HYB.o)) 2 rfl
            have y3:∀x:dB W3.heap.size W3,x.world.cell? (Ad yb 3)=some (.bool q4):=fun x=>aB (aQ HYB.o x.keeps (aO HYB.o)) 3 rfl
            have arR:Hid (∀V,Below W3.heap.size W3 V->nn≠0->Calls Tryz.prog 49 #[.agg #[.slice a.aS nS a.cS,.slice a.aF nF a.cF,.slice a.aL nL a.cL,.slice a.aP nP a.cP,I k.hand],.agg #[I q1,I q2,I q3,.bool q4],I np] V fun e w'=>e=.returned (.string (eH k.aA np q4))/\Below V.heap.size V w'):=fun V hV hne=>Sl.o V q1 q2 q3 q4 np (jo.o.trans (hV.mono jo.o.size)) (WN.o hne)
            clear ZG Sj HEI ahk Sl Wj Qj HFS Qo HAN amW HRY HHD Y2 HLF HLL WQ;by_cases h1:rf=nn
            · have H1:=ai h1;subst h1;by_cases h2:rf=0
              · subst h2;by_cases h3:d.size=0
                · have h3':d=⟨#[]⟩:=by
                   obtain⟨⟨l⟩⟩:=d;have:l.length=0:=h3;have e:=List.length_eq_zero_iff.1 this;subst e;rfl
                  subst h3';cases dy with
                  | true =>
                   as_aux_lemma =>
                    refine cD (by kernel_rfl) (by kernel_rfl) ?_
                    repeat (first | go_big_quiet_step (fail) | quiet_step (fail))
                    refine fR ?_;intro _ hw';obtain⟨x,hw''⟩:=hw';subst hw'';go_wp2;go_meet
                    exact⟨by rw[LL.o];simp[pW,mJ] <;> rfl,x.keeps⟩
                  | false =>
                   cases sn with
                   | true =>
                    as_aux_lemma =>
                     refine cD (by kernel_rfl) (by kernel_rfl) ?_
                     repeat (first | go_big_quiet_step (fail) | quiet_step (fail))
                     refine fR ?_;intro _ hw';obtain⟨x,hw''⟩:=hw';subst hw'';go_wp2;go_meet
                     exact⟨by rw[LL.o];simp[pW,mJ] <;> rfl,x.keeps⟩
                   | false =>
                    as_aux_lemma =>
                     refine cD (by kernel_rfl) (by kernel_rfl) ?_
                     repeat (first | go_big_quiet_step (fail) | quiet_step (fail))
                     refine fR ?_;intro _ hw';obtain⟨x,hw''⟩:=hw';subst hw'';go_wp2;go_meet
                     exact⟨by rw[LL.o];simp[pW,mJ] <;> rfl,x.keeps⟩
                · have hd:d.toList.isEmpty=false:=by
                   rw[Ct];obtain⟨⟨l⟩⟩:=d;cases l with
                   | nil=>exact absurd rfl h3
                   | cons x r=>rfl
                  have hd2:(d.toList==[])=false:=by
                   cases hq:d.toList with
                   | nil=>rw[hq] at hd;cases hd
                   | cons x r=>rfl
                  as_aux_lemma =>
                   refine cD (by kernel_rfl) (by kernel_rfl) ?_
                   repeat (first | go_big_quiet_step (fail) | quiet_step (fail))
                   refine fR ?_;intro _ hw';obtain⟨x,hw''⟩:=hw';subst hw'';go_wp2;go_meet
                   exact⟨by rw[LL.o];simp[pW,mJ,h3],x.keeps⟩
              · have b2:(rf==0)=false:=by simpa using h2
                have LY:0<rf:=by omega
                cases nfi with
                | false =>
                 as_aux_lemma =>
                  refine cD (by kernel_rfl) (by kernel_rfl) ?_
                  repeat (first | go_big_quiet_step (fail) | quiet_step (fail))
                  refine fR ?_;intro _ hw';obtain⟨x,hw''⟩:=hw';subst hw'';go_wp2;go_meet
                  exact⟨by rw[LL.o];simp[pW,mJ,LY],x.keeps⟩
                | true =>
                 by_cases h4:d.size=16
                 · have h4i:((d.size:Int) != 16)=false:=by rw[h4];rfl
                   cases dy with
                   | true =>
                    as_aux_lemma =>
                     refine cD (by kernel_rfl) (by kernel_rfl) ?_
                     repeat (first | go_big_quiet_step (fail) | quiet_step (fail))
                     refine fR ?_;intro _ hw';obtain⟨x,hw''⟩:=hw';subst hw'';go_wp2;go_meet
                     exact⟨by rw[LL.o];simp[pW,mJ,LY,h2,h4],x.keeps⟩
                   | false =>
                    have E7:=ai (fun V hV=>arR.o V hV h2)
                    as_aux_lemma =>
                     refine cD (by kernel_rfl) (by kernel_rfl) ?_
                     repeat (first | go_big_quiet_step ((go_at_call 49;exact eV _ E7.o)) | quiet_step ((go_at_call 49;exact eV _ E7.o)))
                     refine fR ?_;intro _ hw';obtain⟨x,hw''⟩:=hw';subst hw'';go_wp2;go_meet
                     exact⟨by rw[LL.o];simp[pW,mJ,LY,h2,h4,Yg,bne],x.keeps⟩
                 · have h4i:((d.size:Int) != 16)=true:=by rw[bne_iff_ne];omega
                   as_aux_lemma =>
                    refine cD (by kernel_rfl) (by kernel_rfl) ?_
                    repeat (first | go_big_quiet_step (fail) | quiet_step (fail))
                    refine fR ?_;intro _ hw';obtain⟨x,hw''⟩:=hw';subst hw'';go_wp2;go_meet
                    exact⟨by rw[LL.o];simp[pW,mJ,LY,h2,h4],x.keeps⟩
            · have b1:(rf != nn)=true:=by simpa using h1
              as_aux_lemma =>
               refine cD (by kernel_rfl) (by kernel_rfl) ?_
               repeat (first | go_big_quiet_step (fail) | quiet_step (fail))
               refine fR ?_;intro _ hw';obtain⟨x,hw''⟩:=hw';subst hw'';go_wp2;go_meet
               exact⟨by rw[LL.o];simp[pW,mJ,h1],x.keeps⟩
           case rest =>
            obtain⟨rfl,hbc⟩:=hcut;have Gj:=ai (jo.o.trans (hbc.mono jo.o.size));cases BD with
            | true =>
             have e0:A=1:=Sj.o rfl;subst e0;go_wp2;go_ret;exact⟨rfl,eO.o.trans (Gj.o.mono eO.o.size)⟩
            | false =>
             have Sm:Hid (tN k (i+1)=true):=(show tN k (i+1)=true by rw[ZG.o,HEI.o];rfl);go_wp2;go_roundw
             case rel=>exact⟨i+1,by omega,by go_num,Sm.o,Gj.o⟩
             case measure=>simp[intOf];omega
         · obtain rfl:nF=i:=by omega
           have arJ:Hid (tN k k.frames.length=true):=(show tN k k.frames.length=true by rw[<- HLF.o];exact hei);have ann:Hid (∀i:Nat,tK k (i+1)=(tK k i&&sU (bw k.slots i) (gz k.aj 2 i))):=fun _=>rfl
           have Wk:Hid (∀i:Nat,i<nL->sU (bw k.slots i) (gz k.aj 2 i)=false->A=1):=fun i hi h=>HAN.o.sl i (by have:=HLL.o;omega) h
           clear HFS Qo Wj Sl hei zB hlt;go_wp2;go_loopw [10] (fun iv wq=>∃i:Nat,i<=nL/\iv=I (i:Int)/\tK k i=true/\Below WA.heap.size WA wq) (fun iv _=>nL-(intOf iv).toNat)
           case atStart=>exact⟨0,by omega,rfl,rfl,A7.o⟩
           case round =>
            obtain⟨i,hi,rfl,hei,zB⟩:=hrel;have HEI:=ai hei;have arY:=ai zB;obtain⟨k0,k1,k2,k3,k4⟩:=dx (KB.o wr zB);by_cases hlt:i<nL
            · have Gd:(i:Int)<(nL:Int):=by omega
              obtain⟨fb,fo,hfo,z0,z1⟩:=Qj.o wr i zB hlt;have ZG:=ai (ann.o i);have Sj:=ai (Wk.o i hlt);obtain⟨f,hf⟩:=ex (bw k.slots i);rw[<- hf] at z0 z1 ZG Sj;obtain⟨d,rf⟩:=f;simp only at z0 z1;obtain⟨W1,hW1⟩:=ex (wr.alloc (.cells #[.string d,I rf] 86));have hb1:Below wr.heap.size wr W1:=by rw[hW1];exact(aK _ _).alloc (aM _) _
              have xb1:W1.heap[wr.heap.size]?=some (.cells #[.string d,I rf] 86 (0,0)):=by rw[hW1];exact bG _ _ _
              have D4:=zB.trans (hb1.mono zB.size);have gK:=ai D4;have HXB:=ai xb1;have E4:=ai hW1;obtain⟨nn,np,nfi,q1,q2,q3,q4,wh,hn0,_,hcl⟩:=ahk.o W1 2 (i:Int) D4;rw[wh] at ZG Sj;have HNC:=ai hcl;rw[hfo] at k2;go_upto_region 23 with fail;rw[<- E4.o];obtain⟨xb,KS⟩:=ex wr.heap.size;rw[<- KS] at HXB ⊢;clear hW1 hb1 xb1 D4 hei zB hf wh hcl KS k0 k1 k2 k3 k4 z0 z1 hfo;obtain⟨k0,k1,k2,k3,k4⟩:=dx (KB.o W1 gK.o);go_upto_region 24 with(go_at_call 48;refine HNC.o.mono ?_;rintro e w2 ⟨rfl,hb2⟩;have fq:=ai hb2;clear hb2)
              have hb3:Below W1.heap.size W1 (w2.alloc (.cells #[I q1,I q2,I q3,.bool q4] 47)):=fq.o.alloc fq.o.size _;obtain⟨W3,hW3⟩:=ex (w2.alloc (.cells #[I q1,I q2,I q3,.bool q4] 47));rw[<- hW3] at hb3 ⊢;have jo:=ai (gK.o.trans (hb3.mono gK.o.size));obtain⟨x0,x1⟩:=kI (aQ HXB.o hb3 (aO HXB.o));have sS:Hid (sU ⟨d,rf⟩ ⟨nn,np,nfi,⟨q1,q2,q3,q4⟩⟩=sU ⟨d,rf⟩ ⟨nn,np,nfi,⟨q1,q2,q3,q4⟩⟩):=rfl;clear hW3 hb3 k0 k1 k2 k3 k4 ahk Qj ann Wk HNC HXB fq;by_cases h1:rf=nn
              · subst h1;by_cases h2:rf=0
                · subst h2;by_cases h3:d.size=0
                  · have h3':d=⟨#[]⟩:=by
                     obtain⟨⟨l⟩⟩:=d;have:l.length=0:=h3;have e:=List.length_eq_zero_iff.1 this;subst e;rfl
                    subst h3';have Sm:Hid (tK k (i+1)=true):=(show tK k (i+1)=true by rw[ZG.o,HEI.o,sS.o];simp[sU,nz] <;> rfl);go_wp2;go_roundw
                    case rel=>exact⟨i+1,by omega,by go_num,Sm.o,jo.o⟩
                    case measure=>simp[intOf];omega
                  · have hd:d.toList.isEmpty=false:=by
                     rw[Ct];obtain⟨⟨l⟩⟩:=d;cases l with
                     | nil=>exact absurd rfl h3
                     | cons x r=>rfl
                    have hd2:(d.toList==[])=false:=by
                     cases hq:d.toList with
                     | nil=>rw[hq] at hd;cases hd
                     | cons x r=>rfl
                    have e0:=Sj.o (by rw[sS.o];simp[sU,nz,h3]);subst e0;go_wp2;go_ret;exact⟨rfl,eO.o.trans (jo.o.mono eO.o.size)⟩
                · have b2:(rf==0)=false:=by simpa using h2
                  have LY:0<rf:=by omega
                  cases nfi with
                  | false =>
                   have e0:=Sj.o (by rw[sS.o];simp[sU,nz,LY]);subst e0;go_wp2;go_ret;exact⟨rfl,eO.o.trans (jo.o.mono eO.o.size)⟩
                  | true =>
                   by_cases h4:d.size=16
                   · have h4i:((d.size:Int) != 16)=false:=by rw[h4];rfl
                     have Sm:Hid (tK k (i+1)=true):=(show tK k (i+1)=true by rw[ZG.o,HEI.o,sS.o];simp[sU,nz,LY,h2,h4]);go_wp2;go_roundw
                     case rel=>exact⟨i+1,by omega,by go_num,Sm.o,jo.o⟩
                     case measure=>simp[intOf];omega
                   · have h4i:((d.size:Int) != 16)=true:=by rw[bne_iff_ne];omega
                     have e0:=Sj.o (by rw[sS.o];simp[sU,nz,LY,h2,h4]);subst e0;go_wp2;go_ret;exact⟨rfl,eO.o.trans (jo.o.mono eO.o.size)⟩
              · have b1:(rf != nn)=true:=by simpa using h1
                have e0:=Sj.o (by rw[sS.o];simp[sU,nz,h1]);subst e0;go_wp2;go_ret;exact⟨rfl,eO.o.trans (jo.o.mono eO.o.size)⟩
            · obtain rfl:nL=i:=by omega
              have e0:A=0:=HAN.o.yes Y2.o HHD.o amW.o HRY.o arJ.o (by rw[<- HLL.o];exact hei);subst e0;go_wp2;go_ret;exact⟨rfl,eO.o.trans (arY.o.mono eO.o.size)⟩
      · have hr2:(nL:Int)<RM:=by omega
        have e0:A=1:=HRO.o hr;subst e0;go_wp2;go_ret;exact⟨rfl,eO.o.trans (oo.o.mono eO.o.size)⟩
 · have WI:qU k=2:=by
    unfold qU;rw[bf (by simpa using hcn)]
   rw[WI];have QQ:¬((3<=nF/\nF<=64)/\nL<=512/\(1<=nP/\nP<=4)/\nS<=255):=by rw[hnS,hnF,hnL,QH];exact fun g=>hcn (dh g)
   obtain⟨k0,k1,k2,k3,k4⟩:=dx (KB.o WA (aK _ _));have E4:=ai (fun V=>LG.o (nF:Int) 3 64 V);have Qi:=ai (fun V=>LG.o (nP:Int) 1 4 V);rcases(show ¬(3<=(nF:Int)/\(nF:Int)<=64)∨((3<=(nF:Int)/\(nF:Int)<=64)/\512<(nL:Int))∨((3<=(nF:Int)/\(nF:Int)<=64)/\¬512<(nL:Int)/\¬(1<=(nP:Int)/\(nP:Int)<=4))∨((3<=(nF:Int)/\(nF:Int)<=64)/\¬512<(nL:Int)/\(1<=(nP:Int)/\(nP:Int)<=4)/\255<(nS:Int)) by omega) with g | ⟨g,g1⟩ | ⟨g,g1,g2⟩ | ⟨g,g1,g2,g3⟩
   · rw[dE g] at E4;clear hK hF hb0 kb iK Fz iF hcn WI QQ LG hnS hnF hnL QH HSR;go_enter Tryz.func14,Tryz.ntmps14;go_upto_region 1 with fail;rw[<- iG.o];go_wp2_with (first
      | (have _:=FIRST;go_at_call 44;refine(Qi.o _).mono ?_;rintro e w2 ⟨rfl,rfl⟩)
      | (go_at_call 44;refine(E4.o _).mono ?_;rintro e w1 ⟨rfl,rfl⟩;have FIRST:=trivial))
     go_ret;exact⟨rfl,eO.o⟩
   · rw[dh g] at E4;clear hK hF hb0 kb iK Fz iF hcn WI QQ LG hnS hnF hnL QH HSR;go_enter Tryz.func14,Tryz.ntmps14;go_upto_region 1 with fail;rw[<- iG.o];go_wp2_with (first
      | (have _:=FIRST;go_at_call 44;refine(Qi.o _).mono ?_;rintro e w2 ⟨rfl,rfl⟩)
      | (go_at_call 44;refine(E4.o _).mono ?_;rintro e w1 ⟨rfl,rfl⟩;have FIRST:=trivial))
     go_ret;exact⟨rfl,eO.o⟩
   · rw[dh g] at E4;rw[dE g2] at Qi;clear hK hF hb0 kb iK Fz iF hcn WI QQ LG hnS hnF hnL QH HSR;go_enter Tryz.func14,Tryz.ntmps14;go_upto_region 1 with fail;rw[<- iG.o];go_wp2_with (first
      | (have _:=FIRST;go_at_call 44;refine(Qi.o _).mono ?_;rintro e w2 ⟨rfl,rfl⟩)
      | (go_at_call 44;refine(E4.o _).mono ?_;rintro e w1 ⟨rfl,rfl⟩;have FIRST:=trivial))
     go_ret;exact⟨rfl,eO.o⟩
   · rw[dh g] at E4;rw[dh g2] at Qi;clear hK hF hb0 kb iK Fz iF hcn WI QQ LG hnS hnF hnL QH HSR;go_enter Tryz.func14,Tryz.ntmps14;go_upto_region 1 with fail;rw[<- iG.o];go_wp2_with (first
      | (have _:=FIRST;go_at_call 44;refine(Qi.o _).mono ?_;rintro e w2 ⟨rfl,rfl⟩)
      | (go_at_call 44;refine(E4.o _).mono ?_;rintro e w1 ⟨rfl,rfl⟩;have FIRST:=trivial))
     go_ret;exact⟨rfl,eO.o⟩
theorem Af (k:aN) (a:fP) (sp:Int) (w:World) (hK:fT w a k) (hF:gW k) (hsp:dY sp) :
  Calls Tryz.prog 56 #[.agg (aT a k),I sp] w fun e w'=>e=.returned (I (dM k sp))/\Below w.heap.size w w':=by
 obtain⟨WA,iK⟩:=ex (w.alloc (.cells (aT a k) 27));have hb0:Below w.heap.size w WA:=by grind [Below.refl,Below.alloc]
 have kb:WA.heap[w.heap.size]?=some (.cells (aT a k) 27 (0,0)):=by grind [bG]
 have KB:Hid (∀V,Below WA.heap.size WA V->V.heap[w.heap.size]?=some (.cells #[.slice a.aS k.aA.length a.cS,.slice a.aF k.frames.length a.cF,.slice a.aL k.slots.length a.cL,.slice a.aP k.aj.length a.cP,I k.hand] 27 (0,0))):=fun V hb=>aQ kb hb (aO kb)
 obtain⟨k0,k1,k2,k3,k4⟩:=dx (KB.o WA (aK _ _));have iG:=ai iK;have eO:=ai hb0;have LK:Hid (Calls Tryz.prog 14 #[.agg (aT a k)] WA fun e w'=>e=.returned (I (gG k))/\Below WA.heap.size WA w'):=by
  have:=Vc k a WA (hK.below hb0) hF;rw[RX] at this;exact this
 have G0:k.aj.length<=140737488351232:=hF.np;have LG:=ai (fun V=>gP sp 0 ((k.aj.length:Int)-1) V);have Ku:Hid (∀V i,Below WA.heap.size WA V->i<k.aj.length->∃pb po,a.aP=some (Ad pb po)/\V.cell? (Ad pb (po+i*3))=some (.bool (ak k.aj i).live)):=fun V i hV hi=>by
  obtain⟨pb,po,e1,e2,e3⟩:=(hK.aj.below (hb0.trans (hV.mono hb0.size))) (by omega);obtain⟨va,ap,cp,c0,_⟩:=e3 i hi
  grind
 unfold dM;obtain⟨C,hC⟩:=ex (gG k);rw[<- hC] at LK ⊢;unfold aT at LK iG ⊢;clear hK hF hb0 kb iK hC;by_cases c:C=0
 · rw[bf c];subst c;by_cases d:0<=sp/\sp<=(k.aj.length:Int)-1
   · rw[dh d] at LG;obtain⟨j,rfl⟩:∃j:Nat,sp=(j:Int):=⟨sp.toNat,by omega⟩;rw[iu];have hj:j<k.aj.length:=by omega
     have KT:(j:Int)<(k.aj.length:Int):=by omega
     obtain⟨lv,hlv⟩:=ex ((ak k.aj j).live);have HSJ:Hid (∀V,Below WA.heap.size WA V->∃pb po,a.aP=some (Ad pb po)/\V.cell? (Ad pb (po+j*3))=some (.bool lv)):=fun V hV=>by grind [Hid.o]
     rw[<- hlv];have HJJ:=ai hj;have HLI:=ai KT;clear hlv Ku d hj hsp;have hif:(if 0<=(j:Int)/\(j:Int)<(k.aj.length:Int)/\lv=true then (0:Int) else 6)=if lv then 0 else 6:=by
      grind
     rw[hif];clear hif KT;go_enter Tryz.func56,Tryz.ntmps56;go_upto_region 1 with fail;rw[<- iG.o];go_upto_region 2 with(go_at_call 14;refine LK.o.mono ?_;rintro e w1 ⟨rfl,hb1⟩;have cT:=ai hb1;obtain⟨pb,po,hao,c0⟩:=HSJ.o _ hb1;have hq:=KB.o _ hb1;rw[hao] at hq;obtain⟨k0,k1,k2,k3,k4⟩:=dx hq;clear hb1 hq)
     have KT:=HLI.o;clear hao;cases lv with
     | true =>
      go_wp2_with (go_at_call 44;refine(LG.o _).mono ?_;rintro e w2 ⟨rfl,rfl⟩)
      go_ret;exact⟨rfl,eO.o.trans (cT.o.mono eO.o.size)⟩
     | false =>
      go_wp2_with (go_at_call 44;refine(LG.o _).mono ?_;rintro e w2 ⟨rfl,rfl⟩)
      go_ret;exact⟨rfl,eO.o.trans (cT.o.mono eO.o.size)⟩
   · rw[dE d] at LG;rw[bl (fun g=>d ⟨g.1,by omega⟩)];clear Ku d;go_enter Tryz.func56,Tryz.ntmps56;go_upto_region 1 with fail;rw[<- iG.o];go_wp2_with (first | (go_at_call 14;refine LK.o.mono ?_;rintro e w1 ⟨rfl,hb1⟩;have cT:=ai hb1;obtain⟨k0,k1,k2,k3,k4⟩:=dx (KB.o _ hb1);clear hb1) | (go_at_call 44;refine(LG.o _).mono ?_;rintro e w2 ⟨rfl,rfl⟩))
     go_ret;exact⟨rfl,eO.o.trans (cT.o.mono eO.o.size)⟩
 · rw[bl c];have cb:(C==0)=false:=by grind
   clear Ku LG;go_enter Tryz.func56,Tryz.ntmps56;go_upto_region 1 with fail;rw[<- iG.o];go_wp2_with (go_at_call 14;refine LK.o.mono ?_;rintro e w1 ⟨rfl,hb1⟩;have cT:=ai hb1;clear hb1)
   go_ret;exact⟨rfl,eO.o.trans (cT.o.mono eO.o.size)⟩
theorem Ae (k:aN) (a:fP) (sp n way:Int) (w:World) (hK:fT w a k) (hF:gW k) (hsp:dY sp) :
  Calls Tryz.prog 19 #[.agg (aT a k),I sp,I n,I way] w fun e w'=>e=.returned (I (eI k sp n way [0,1,2]))/\Below w.heap.size w w':=by
 obtain⟨WA,iK⟩:=ex (w.alloc (.cells (aT a k) 27));have hb0:Below w.heap.size w WA:=by grind [Below.refl,Below.alloc]
 have kb:WA.heap[w.heap.size]?=some (.cells (aT a k) 27 (0,0)):=by grind [bG]
 have KB:Hid (∀V,Below WA.heap.size WA V->V.heap[w.heap.size]?=some (.cells #[.slice a.aS k.aA.length a.cS,.slice a.aF k.frames.length a.cF,.slice a.aL k.slots.length a.cL,.slice a.aP k.aj.length a.cP,I k.hand] 27 (0,0))):=fun V hb=>aQ kb hb (aO kb)
 obtain⟨k0,k1,k2,k3,k4⟩:=dx (KB.o WA (aK _ _));have iG:=ai iK;have eO:=ai hb0;have zE:=ai (Af k a sp WA (hK.below hb0) hF hsp);have E4:=ai (fun V=>gP n 1 8 V);have Qi:=ai (fun V=>gP way 0 2 V);unfold eI;obtain⟨C,hC⟩:=ex (dM k sp);rw[<- hC] at zE ⊢;unfold aT at zE iG ⊢;clear hK hF hb0 kb iK hC hsp;by_cases c:C=0
 · rw[bl (fun g=>g c)];subst c;by_cases d:1<=n/\n<=8
   · rw[bl (fun g=>g d)];rw[dh d] at E4;by_cases e:0<=way/\way<=2
     · rw[dh e] at Qi;rw[bf (by grind)];go_enter Tryz.func19,Tryz.ntmps19;go_upto_region 1 with fail;rw[<- iG.o];go_wp2_with (first
        | (go_at_call 56;refine zE.o.mono ?_;rintro e w1 ⟨rfl,hb1⟩;have cT:=ai hb1;clear hb1)
        | (have _:=FIRST;go_at_call 44;refine(Qi.o _).mono ?_;rintro e w3 ⟨rfl,rfl⟩)
        | (go_at_call 44;refine(E4.o _).mono ?_;rintro e w2 ⟨rfl,rfl⟩;have FIRST:=trivial))
       go_ret;exact⟨rfl,eO.o.trans (cT.o.mono eO.o.size)⟩
     · rw[dE e] at Qi;rw[bl (by grind)];go_enter Tryz.func19,Tryz.ntmps19;go_upto_region 1 with fail;rw[<- iG.o];go_wp2_with (first
        | (go_at_call 56;refine zE.o.mono ?_;rintro e w1 ⟨rfl,hb1⟩;have cT:=ai hb1;clear hb1)
        | (have _:=FIRST;go_at_call 44;refine(Qi.o _).mono ?_;rintro e w3 ⟨rfl,rfl⟩)
        | (go_at_call 44;refine(E4.o _).mono ?_;rintro e w2 ⟨rfl,rfl⟩;have FIRST:=trivial))
       go_ret;exact⟨rfl,eO.o.trans (cT.o.mono eO.o.size)⟩
   · rw[bf d];rw[dE d] at E4;go_enter Tryz.func19,Tryz.ntmps19;go_upto_region 1 with fail;rw[<- iG.o];go_wp2_with (first
      | (go_at_call 56;refine zE.o.mono ?_;rintro e w1 ⟨rfl,hb1⟩;have cT:=ai hb1;clear hb1)
      | (have _:=FIRST;go_at_call 44;refine(Qi.o _).mono ?_;rintro e w3 ⟨rfl,rfl⟩)
      | (go_at_call 44;refine(E4.o _).mono ?_;rintro e w2 ⟨rfl,rfl⟩;have FIRST:=trivial))
     go_ret;exact⟨rfl,eO.o.trans (cT.o.mono eO.o.size)⟩
 · rw[bf c];have cb:(C != 0)=true:=by grind
   go_enter Tryz.func19,Tryz.ntmps19;go_upto_region 1 with fail;rw[<- iG.o];go_wp2_with (first
    | (go_at_call 56;refine zE.o.mono ?_;rintro e w1 ⟨rfl,hb1⟩;have cT:=ai hb1;clear hb1)
    | (have _:=FIRST;go_at_call 44;refine(Qi.o _).mono ?_;rintro e w3 ⟨rfl,rfl⟩)
    | (go_at_call 44;refine(E4.o _).mono ?_;rintro e w2 ⟨rfl,rfl⟩;have FIRST:=trivial))
   go_ret;exact⟨rfl,eO.o.trans (cT.o.mono eO.o.size)⟩
end Go.Proofs.YtpgifpeohlllfaaGreat
end Go.Proofs.YtpgifpeohlllfaaGreat
