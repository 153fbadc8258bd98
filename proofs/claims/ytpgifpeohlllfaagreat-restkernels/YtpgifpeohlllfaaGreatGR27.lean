import Derived.Test.YtpgifpeohlllfaaGreatGR26
import Derived.Test.YtpgifpeohlllfaaGreatGR23
set_option maxHeartbeats 20000000
set_option linter.unusedVariables false
set_option maxRecDepth 100000
set_option linter.unusedSimpArgs false
namespace Go.Proofs.YtpgifpeohlllfaaGreat
open Go.RowKit
structure afv (k:aN) (A:Int):Prop where
 kP:ed k.aD=false->A=1
 hand:¬(0<=k.hand/\k.hand<=(k.frames.length:Int)-1)->A=1
 sp:∀i,i<k.aj.length->lh k.aD k.frames.length k.slots.length (ak k.aj i)=false->A=1
 room:¬fL k.aj<=(k.slots.length:Int)->A=1
 fr:∀i,i<k.frames.length->ow k.aD (au k.frames i) (fE k.aj 1 i)=false->A=1
 sl:∀i,i<k.slots.length->qG (br k.slots i) (fE k.aj 2 i)=false->A=1
 yes:ed k.aD=true->(0<=k.hand/\k.hand<=(k.frames.length:Int)-1)->oZ k k.aj.length=true->fL k.aj<=(k.slots.length:Int)->rA k k.frames.length=true->ru k k.slots.length=true->A=0
theorem Zm {k:aN} (hc:lu k=true):afv k (pB k):=by
 have e:pB k=if pq k then 0 else 1:=by
  unfold pB;rw[bf (by rw[hc];decide)]
 have no:pq k=false->pB k=1:=fun h=>by rw[e,h];rfl
 refine⟨fun h=>no ?_,fun h=>no ?_,fun i hi h=>no ?_,fun h=>no ?_,fun i hi h=>no ?_,fun i hi h=>no ?_,fun h1 h2 h3 h4 h5 h6=>?_⟩
 · unfold pq;rw[h,tX]
 · unfold pq;rw[dJ h,tX,Bool.and_false]
 · unfold pq;rw[rQ (f:=fun n=>lh k.aD k.frames.length k.slots.length (ak k.aj n)) (g:=oZ k) (fun _=>rfl) _ i hi h];simp
 · unfold pq;rw[dJ h];simp
 · unfold pq;rw[rQ (f:=fun n:Nat=>ow k.aD (au k.frames n) (fE k.aj 1 n)) (g:=rA k) (fun _=>rfl) _ i hi h];simp
 · unfold pq;rw[rQ (f:=fun n:Nat=>qG (br k.slots n) (fE k.aj 2 n)) (g:=ru k) (fun _=>rfl) _ i hi h];simp
 · rw[e];unfold pq;rw[h1,dI h2,h3,dI h4,h5,h6];rfl
structure afu (k:aN):Prop where
 check:∀i,i<k.aj.length->bB (ak k.aj i).bk=0
 few:∀i,i<k.aj.length->(ak k.aj i).aU.length<=65025
 agS:∀kd i,(fE k.aj kd i).n≠0->(fE k.aj kd i).Bp.zero=false->(cY k.aD (fE k.aj kd i).page).isSome=true
 pos:∀kd i,0<=(fE k.aj kd i).n
theorem O7 {k:aN} (h:oZ k k.aj.length=true):afu k:=by
 have all:∀i,i<k.aj.length->rH k.aD k.frames.length k.slots.length (ak k.aj i):=fun i hi=>Ex.1 ((tL (f:=fun n=>lh k.aD k.frames.length k.slots.length (ak k.aj n)) (g:=oZ k) rfl (fun _=>rfl) _).1 h i hi)
 refine⟨fun i hi=>(all i hi).bk,fun i hi=>?_,fun kd i hn hz=>?_,fun kd i=>?_⟩
 · have h1:=uv (all i hi);have h2:=nr (ak k.aj i).bk;omega
 · have N:=wh k.aj kd i;have hne:ck k.aj kd i≠[]:=fun e=>hn (by rw[N.n,e];rfl)
   obtain⟨s,hs,e,he,_,_,hx⟩:=nA.1 (N.last hne);obtain⟨j,hj,ej⟩:=gU sM hs;have ej:ak k.aj j=s:=ej;have hS:=all j hj;rw[ej] at hS;injection hx with p1 p2;rw[p1];exact hS.aD e.page (hS.Hf e he).1 (by rw[<- p2];exact hz)
 · rw[(wh k.aj kd i).n];omega
theorem Gs (k:aN) (a:fR) (w:World) (hK:gD w a k) (hF:iI k) :
  Calls Tryz.prog 14 #[.agg (bg a k)] w fun e w'=>e=.returned (I (pB k))/\Below w.heap.size w w':=by
 obtain⟨nS,hnS⟩:=ex k.aD.length;obtain⟨nF,hnF⟩:=ex k.frames.length;obtain⟨nL,hnL⟩:=ex k.slots.length;obtain⟨nP,YQ⟩:=ex k.aj.length;obtain⟨WA,jG⟩:=ex (w.alloc (.cells #[.slice a.aS nS a.cS,.slice a.aF nF a.cF,.slice a.aL nL a.cL,.slice a.aP nP a.cP,I k.hand] 27));have hb0:Below w.heap.size w WA:=by rw[jG];exact(aK _ _).alloc (aI _) _
 have kb:WA.heap[w.heap.size]?=some (.cells #[.slice a.aS nS a.cS,.slice a.aF nF a.cF,.slice a.aL nL a.cL,.slice a.aP nP a.cP,I k.hand] 27 (0,0)):=by rw[jG];exact bO w _ _
 have KB:Hid (∀V,Below WA.heap.size WA V->V.heap[w.heap.size]?=some (.cells #[.slice a.aS nS a.cS,.slice a.aF nF a.cF,.slice a.aL nL a.cL,.slice a.aP nP a.cP,I k.hand] 27 (0,0))):=fun V hb=>aQ kb hb (aT kb)
 have C6:bg a k=#[.slice a.aS nS a.cS,.slice a.aF nF a.cF,.slice a.aL nL a.cL,.slice a.aP nP a.cP,I k.hand]:=by unfold bg;rw[<- hnS,<- hnF,<- hnL,<- YQ]
 have Oi:=ai gv;have jQ:∀{V:World},Below WA.heap.size WA V->Below w.heap.size w V:=fun hV=>hb0.trans (hV.mono hb0.size)
 have Vk:Hid (∀V,Below WA.heap.size WA V->Calls Tryz.prog 45 #[.slice a.aS nS a.cS] V fun e w'=>e=.returned (.bool (ed k.aD))/\Below V.heap.size V w'):=fun V hV=>by rw[hnS];exact Fw k.aD a.aS a.cS V (hK.aD.below (jQ hV)) hF.aD
 have lI:=ai jG;have eU:=ai hb0;rw[C6];have hsS:nS<=140737488351232:=by rw[hnS];exact hF.aD.1
 have hsF:nF<=140737488351232:=by rw[hnF];exact hF.nf
 have hsL:nL<=140737488351232:=by rw[hnL];exact hF.ns
 have hsP:nP<=140737488351232:=by rw[YQ];exact hF.np
 by_cases hcn:lu k=true
 · have Z5:=ai (Zm hcn);have Nc:(3<=nF/\nF<=64)/\nL<=512/\(1<=nP/\nP<=4)/\nS<=255:=by rw[hnS,hnF,hnL,YQ];exact kr hcn
   obtain⟨⟨hF3,asW⟩,hL5,⟨hP1,hP4⟩,hS2⟩:=Nc;obtain⟨A,hA⟩:=ex (pB k);rw[<- hA] at Z5 ⊢;have HSF:Hid (∀V i,Below WA.heap.size WA V->i<nP->∃pb po lv aa la ca ap le cp,a.aP=some (Ad pb po)/\(∀U,Below V.heap.size V U->U.cell? (Ad pb (po+i*3))=some (.bool lv)/\U.cell? (Ad pb (po+i*3+1))=some (.slice aa la ca)/\U.cell? (Ad pb (po+i*3+2))=some (.slice ap le cp))/\∀U,Below V.heap.size V U->Calls Tryz.prog 46 #[.agg #[.slice a.aS nS a.cS,.slice a.aF nF a.cF,.slice a.aL nL a.cL,.slice a.aP nP a.cP,I k.hand],.agg #[.bool lv,.slice aa la ca,.slice ap le cp]] U fun e w'=>e=.returned (.bool (lh k.aD k.frames.length k.slots.length (ak k.aj i)))/\Below U.heap.size U w'):=fun V i hV hi=>by
    obtain⟨pb,po,e1,e2,e3⟩:=(hK.aj.below (jQ hV)) (by omega);obtain⟨va,ap,cp,c0,c1,c2,c3,c4,_⟩:=e3 i (by omega);have c3':=c3;obtain⟨aa,ca,rfl,_⟩:=c3;refine⟨pb,po,_,aa,_,ca,ap,_,cp,e1,fun U hU=>⟨(hU.cell (p:=(Ad pb (po+i*3))) e2).trans c0,(hU.cell (p:=(Ad pb (po+i*3+1))) e2).trans c1,(hU.cell (p:=(Ad pb (po+i*3+2))) e2).trans c2⟩,fun U hU=>?_⟩;have hf:=hF.sp i (by omega);have:=H0 k a (ak k.aj i) aa ap ca cp U (c3'.below hU) hf.bk (c4.below hU) hf.aU (hK.aD.below ((jQ hV).trans (hU.mono (jQ hV).size))) hF.aD (by omega) (by omega);rw[C6] at this;exact this
   have HRM:oZ k k.aj.length=true->Hid (∀V,Below WA.heap.size WA V->Calls Tryz.prog 47 #[.agg #[.slice a.aS nS a.cS,.slice a.aF nF a.cF,.slice a.aL nL a.cL,.slice a.aP nP a.cP,I k.hand]] V fun e w'=>e=.returned (I (fL k.aj))/\Below V.heap.size V w'):=fun hs V hV=>by
    have:=TZ k a V (hK.aj.below (jQ hV)) (O7 hs).check (by omega);rw[C6] at this;exact this
   have HNM:oZ k k.aj.length=true->Hid (∀V kd i,Below WA.heap.size WA V->∃nn np Z9 q1 q2 q3 q4,fE k.aj kd i=⟨nn,np,Z9,⟨q1,q2,q3,q4⟩⟩/\0<=nn/\(nn≠0->q4=false->(cY k.aD np).isSome=true)/\Calls Tryz.prog 48 #[.agg #[.slice a.aS nS a.cS,.slice a.aF nF a.cF,.slice a.aL nL a.cL,.slice a.aP nP a.cP,I k.hand],I kd,I i] V fun e w'=>e=.returned (.tuple #[I nn,I np,.bool Z9,.agg #[I q1,I q2,I q3,.bool q4]])/\Below V.heap.size V w'):=fun hs V kd i hV=>by
    have f:=O7 hs;have h1:=NM k a kd i V (hK.aj.below (jQ hV)) f.check (by omega) f.few;have h2:=f.agS kd i;have h3:=f.pos kd i;rw[C6] at h1;exact⟨_,_,_,_,_,_,_,rfl,h3,h2,h1⟩
   have Vp:ed k.aD=true->Hid (∀V q1 q2 q3 q4 p,Below WA.heap.size WA V->(q4=false->(cY k.aD p).isSome=true)->Calls Tryz.prog 49 #[.agg #[.slice a.aS nS a.cS,.slice a.aF nF a.cF,.slice a.aL nL a.cL,.slice a.aP nP a.cP,I k.hand],.agg #[I q1,I q2,I q3,.bool q4],I p] V fun e w'=>e=.returned (.string (dY k.aD p q4))/\Below V.heap.size V w'):=fun hr V q1 q2 q3 q4 p hV hz=>by
    have:=Cb k a q1 q2 q3 q4 p V (hK.aD.below (jQ hV)) hF.aD hr hz;rw[C6] at this;exact this
   have ZF:Hid (∀V i,Below WA.heap.size WA V->i<nF->∃fb fo,a.aF=some (Ad fb fo)/\V.cell? (Ad fb (fo+i*4))=some (.string (au k.frames i).data)/\V.cell? (Ad fb (fo+i*4+1))=some (I (au k.frames i).refs)/\V.cell? (Ad fb (fo+i*4+2))=some (.bool (au k.frames i).eX)/\V.cell? (Ad fb (fo+i*4+3))=some (.bool (au k.frames i).seen)):=fun V i hV hi=>by
    obtain⟨fb,fo,e1,e2,e3⟩:=(hK.frames.below (jQ hV)) (by omega);have z:=e3 i (by omega) 0 (by omega);rw[fW] at z;exact⟨fb,fo,e1,z,e3 i (by omega) 1 (by omega),e3 i (by omega) 2 (by omega),e3 i (by omega) 3 (by omega)⟩
   have Mu:Hid (∀V i,Below WA.heap.size WA V->i<nL->∃fb fo,a.aL=some (Ad fb fo)/\V.cell? (Ad fb (fo+i*2))=some (.string (br k.slots i).data)/\V.cell? (Ad fb (fo+i*2+1))=some (I (br k.slots i).refs)):=fun V i hV hi=>by
    obtain⟨fb,fo,e1,e2,e3⟩:=(hK.slots.below (jQ hV)) (by omega);have z:=e3 i (by omega) 0 (by omega);rw[fW] at z;exact⟨fb,fo,e1,z,e3 i (by omega) 1 (by omega)⟩
   have HLF:=ai hnF;have HLL:=ai hnL;have SH:=ai YQ;rw[<- hnF,<- hnL] at HSF;obtain⟨k0,k1,k2,k3,k4⟩:=fy (KB.o WA (aK _ _));have CG:Hid (∀V,Calls Tryz.prog 44 #[I (nF:Int),I 3,I 64] V fun e w'=>e=.returned (.bool true)/\V=w'):=fun V=>by
    have:=Oi.o (nF:Int) 3 64 V;rw[dI (by omega)] at this;exact this
   have Mt:Hid (∀V,Calls Tryz.prog 44 #[I (nP:Int),I 1,I 4] V fun e w'=>e=.returned (.bool true)/\V=w'):=fun V=>by
    have:=Oi.o (nP:Int) 1 4 V;rw[dI (by omega)] at this;exact this
   have HW3:=ai (fun V=>Oi.o k.hand 0 ((nF:Int)-1) V);obtain⟨hb,hhb⟩:=ex (decide (0<=k.hand/\k.hand<=(nF:Int)-1));rw[<- hhb] at HW3;have Xr:=ai hhb;obtain⟨rs,hrs⟩:=ex (ed k.aD);rw[<- hrs] at Vk;have JW:=ai hrs;clear hK hF hb0 kb jG C6 jQ hcn hA hhb hrs Oi hnS hnF hnL YQ;go_enter Tryz.func14,Tryz.ntmps14;go_upto_region 1 with fail;rw[<- lI.o];go_upto_region 3 with(first
    | (have _:=FIRST;go_at_call 44;refine(Mt.o _).mono ?_;rintro e w2 ⟨rfl,rfl⟩)
    | (go_at_call 44;refine(CG.o _).mono ?_;rintro e w1 ⟨rfl,rfl⟩;have FIRST:=trivial))
   cases rs with
   | false =>
    have e0:A=1:=Z5.o.kP JW.o.symm;subst e0;go_wp2_with (go_at_call 45;refine(Vk.o _ (aK _ _)).mono ?_;rintro e w1 ⟨rfl,hb1⟩;have dz:=ai hb1;clear hb1)
    go_ret;exact⟨rfl,eU.o.trans (dz.o.mono eU.o.size)⟩
   | true =>
   have hrs:ed k.aD=true:=JW.o.symm;have Om:=Vp hrs;have UG:=ai hrs;clear hrs Vp;cases hb with
   | false =>
    have e0:A=1:=Z5.o.hand (by rw[<- HLF.o];exact of_decide_eq_false Xr.o.symm);subst e0;go_wp2_with (first | (go_at_call 45;refine(Vk.o _ (aK _ _)).mono ?_;rintro e w1 ⟨rfl,hb1⟩;have dz:=ai hb1;obtain⟨k0,k1,k2,k3,k4⟩:=fy (KB.o _ hb1);clear hb1) | (go_at_call 44;refine(HW3.o _).mono ?_;rintro e w2 ⟨rfl,rfl⟩))
    go_ret;exact⟨rfl,eU.o.trans (dz.o.mono eU.o.size)⟩
   | true =>
   have HHD:Hid (0<=k.hand/\k.hand<=(k.frames.length:Int)-1):=(show 0<=k.hand/\k.hand<=(k.frames.length:Int)-1 by rw[<- HLF.o];exact kr Xr.o.symm);go_upto_region 5 with(first | (go_at_call 45;refine(Vk.o _ (aK _ _)).mono ?_;rintro e w1 ⟨rfl,hb1⟩;have dz:=ai hb1;obtain⟨k0,k1,k2,k3,k4⟩:=fy (KB.o _ hb1);clear hb1) | (go_at_call 44;refine(HW3.o _).mono ?_;rintro e w2 ⟨rfl,rfl⟩))
   have Vj:Hid (∀i,oZ k (i+1)=(oZ k i&&lh k.aD nF nL (ak k.aj i))):=fun _=>by rw[HLF.o,HLL.o];exact(rfl:_=_)
   have M0:Hid (∀i,i<nP->lh k.aD nF nL (ak k.aj i)=false->A=1):=fun i hi h=>Z5.o.sp i (by have:=SH.o;omega) (by rw[<- HLF.o,<- HLL.o];exact h)
   clear k0 k1 k2 k3 k4 CG Mt HW3 Vk Xr JW;go_wp2;go_loopw [3] (fun iv wq=>∃i:Nat,i<=nP/\iv=I (i:Int)/\oZ k i=true/\Below WA.heap.size WA wq) (fun iv _=>nP-(intOf iv).toNat)
   case atStart=>exact⟨0,by omega,rfl,rfl,dz.o⟩
   case round =>
    obtain⟨i,hi,rfl,hsi,Az⟩:=hrel;have Vm:=ai hsi;have GU:=ai Az;obtain⟨k0,k1,k2,k3,k4⟩:=fy (KB.o wr Az);by_cases hlt:i<nP
    · have Dw:(i:Int)<(nP:Int):=by omega
      obtain⟨pb,po,lv,aa,la,ca,ap,le,cp,hao,hcl,hsf⟩:=HSF.o wr i Az hlt;have HST:=ai (Vj.o i);have Ol:=ai (M0.o i hlt);obtain⟨bv,hbv⟩:=ex (lh k.aD nF nL (ak k.aj i));rw[<- hbv] at hsf HST Ol;have uP:=gG wr;rw[hao] at hsf k3 KB;have kk0:∀x:dm wr.heap.size wr,x.world.cell? (Ad w.heap.size 0)=some (.slice a.aS nS a.cS):=fun x=>aB (KB.o _ (GU.o.trans (x.keeps.mono GU.o.size))) 0 rfl
      have kk1:∀x:dm wr.heap.size wr,x.world.cell? (Ad w.heap.size 1)=some (.slice a.aF nF a.cF):=fun x=>aB (KB.o _ (GU.o.trans (x.keeps.mono GU.o.size))) 1 rfl
      have kk2:∀x:dm wr.heap.size wr,x.world.cell? (Ad w.heap.size 2)=some (.slice a.aL nL a.cL):=fun x=>aB (KB.o _ (GU.o.trans (x.keeps.mono GU.o.size))) 2 rfl
      have kk3:∀x:dm wr.heap.size wr,x.world.cell? (Ad w.heap.size 3)=some (.slice (some (Ad pb po)) nP a.cP):=fun x=>aB (KB.o _ (GU.o.trans (x.keeps.mono GU.o.size))) 3 rfl
      have kk4:∀x:dm wr.heap.size wr,x.world.cell? (Ad w.heap.size 4)=some (I k.hand):=fun x=>aB (KB.o _ (GU.o.trans (x.keeps.mono GU.o.size))) 4 rfl
      have s0:∀x:dm wr.heap.size wr,x.world.cell? (Ad pb (po+i*3))=some (.bool lv):=fun x=>(hcl _ x.keeps).1
      have s1:∀x:dm wr.heap.size wr,x.world.cell? (Ad pb (po+i*3+1))=some (.slice aa la ca):=fun x=>(hcl _ x.keeps).2.1
      have s2:∀x:dm wr.heap.size wr,x.world.cell? (Ad pb (po+i*3+2))=some (.slice ap le cp):=fun x=>(hcl _ x.keeps).2.2
      have lR:=ai hsf;clear hcl hsf hbv hsi Az HSF Vj M0 HRM HNM Om ZF Mu;go_upto_region 8 with fail;refine cA (by kernel_rfl) (by kernel_rfl) ?_
      repeat (first | go_big_quiet_step ((go_at_call 46;exact fJ _ lR.o)) | quiet_step ((go_at_call 46;exact fJ _ lR.o)))
      refine fK ?_;rintro _ ⟨X,rfl⟩;have uO:=ai (GU.o.trans (X.keeps.mono GU.o.size));clear s0 s1 s2 kk0 kk1 kk2 kk3 kk4 uP;cases bv with
      | false =>
       have e0:A=1:=Ol.o rfl;subst e0;go_wp2;go_ret;exact⟨rfl,eU.o.trans (uO.o.mono eU.o.size)⟩
      | true =>
       have ZH:Hid (oZ k (i+1)=true):=(show oZ k (i+1)=true by rw[HST.o,Vm.o];rfl);go_wp2;go_roundw
       case rel=>exact⟨i+1,by omega,by go_num,ZH.o,uO.o⟩
       case measure=>simp[intOf];omega
    · obtain rfl:nP=i:=by omega
      have hsp:oZ k k.aj.length=true:=by rw[<- SH.o];exact hsi
      have afE:=HRM hsp;have ada:=HNM hsp;have aiz:=ai hsp;have Ya:=wN k.aj k.aj.length;have aeD:0<=fL k.aj/\fL k.aj<=65025*1000000:=by
       have:=SH.o;unfold fL;omega
      have HRO:Hid (¬fL k.aj<=(nL:Int)->A=1):=fun h=>Z5.o.room (by rw[<- HLL.o];exact h)
      have aiD:Hid (fL k.aj<=(nL:Int)->fL k.aj<=(k.slots.length:Int)):=fun h=>by rw[<- HLL.o];exact h
      obtain⟨RM,Yh⟩:=ex (fL k.aj);rw[<- Yh] at afE aeD HRO;have aiE:=ai Yh;have uP:=gG wr;have kk0:∀x:dm wr.heap.size wr,x.world.cell? (Ad w.heap.size 0)=some (.slice a.aS nS a.cS):=fun x=>aB (KB.o _ (GU.o.trans (x.keeps.mono GU.o.size))) 0 rfl
      have kk1:∀x:dm wr.heap.size wr,x.world.cell? (Ad w.heap.size 1)=some (.slice a.aF nF a.cF):=fun x=>aB (KB.o _ (GU.o.trans (x.keeps.mono GU.o.size))) 1 rfl
      have kk2:∀x:dm wr.heap.size wr,x.world.cell? (Ad w.heap.size 2)=some (.slice a.aL nL a.cL):=fun x=>aB (KB.o _ (GU.o.trans (x.keeps.mono GU.o.size))) 2 rfl
      have kk3:∀x:dm wr.heap.size wr,x.world.cell? (Ad w.heap.size 3)=some (.slice a.aP nP a.cP):=fun x=>aB (KB.o _ (GU.o.trans (x.keeps.mono GU.o.size))) 3 rfl
      have kk4:∀x:dm wr.heap.size wr,x.world.cell? (Ad w.heap.size 4)=some (I k.hand):=fun x=>aB (KB.o _ (GU.o.trans (x.keeps.mono GU.o.size))) 4 rfl
      have HRK:=ai (fun V (hV:Below wr.heap.size wr V)=>afE.o V (GU.o.trans (hV.mono GU.o.size)));clear hsp HRM HNM Ya Yh hsi Az HSF Vj M0 afE hlt;go_upto_region 10 with fail;refine cA (by kernel_rfl) (by kernel_rfl) ?_
      repeat (first | go_big_quiet_step ((go_at_call 47;exact fJ _ HRK.o)) | quiet_step ((go_at_call 47;exact fJ _ HRK.o)))
      refine fK ?_;rintro _ ⟨X,rfl⟩;have uO:=ai (GU.o.trans (X.keeps.mono GU.o.size));clear kk0 kk1 kk2 kk3 kk4 uP HRK k0 k1 k2 k3 k4;by_cases hr:RM<=(nL:Int)
      · have hr2:¬(nL:Int)<RM:=by omega
        have HRY:Hid (fL k.aj<=(k.slots.length:Int)):=aiD.o (by rw[<- aiE.o];exact hr);have ZE:Hid (∀i:Nat,rA k (i+1)=(rA k i&&ow k.aD (au k.frames i) (fE k.aj 1 i))):=fun _=>rfl
        have KM:Hid (∀i:Nat,i<nF->ow k.aD (au k.frames i) (fE k.aj 1 i)=false->A=1):=fun i hi h=>Z5.o.fr i (by have:=HLF.o;omega) h
        clear HRO aiD hr aiE;go_wp2;go_loopw [4] (fun iv wq=>∃i:Nat,i<=nF/\iv=I (i:Int)/\rA k i=true/\Below WA.heap.size WA wq) (fun iv _=>nF-(intOf iv).toNat)
        case atStart=>exact⟨0,by omega,rfl,rfl,uO.o⟩
        case round =>
         obtain⟨i,hi,rfl,hei,Az⟩:=hrel;have HEI:=ai hei;have GU:=ai Az;obtain⟨k0,k1,k2,k3,k4⟩:=fy (KB.o wr Az);by_cases hlt:i<nF
         · have Dw:(i:Int)<(nF:Int):=by omega
           obtain⟨fb,fo,hfo,z0,z1,z2,z3⟩:=ZF.o wr i Az hlt;have Vm:=ai (ZE.o i);have Ol:=ai (KM.o i hlt);obtain⟨f,hf⟩:=ex (au k.frames i);rw[<- hf] at z0 z1 z2 z3 Vm Ol;obtain⟨d,rf,dy,sn⟩:=f;simp only at z0 z1 z2 z3;obtain⟨W1,hW1⟩:=ex (wr.alloc (.cells #[.string d,I rf,.bool dy,.bool sn] 40));have hb1:Below wr.heap.size wr W1:=by rw[hW1];exact(aK _ _).alloc (aI _) _
           have YI:W1.heap[wr.heap.size]?=some (.cells #[.string d,I rf,.bool dy,.bool sn] 40 (0,0)):=by rw[hW1];exact bO _ _ _
           have JF:=Az.trans (hb1.mono Az.size);have fV:=ai JF;have Yz:=ai YI;have CG:=ai hW1;obtain⟨nn,np,Z9,q1,q2,q3,q4,Ax,hn0,hsh,hcl⟩:=ada.o W1 1 (i:Int) JF;rw[Ax] at Vm Ol;have JZ:=ai hcl;have SF:=ai hsh;rw[hfo] at k1;go_upto_region 16 with fail;rw[<- CG.o];obtain⟨xb,Su⟩:=ex wr.heap.size;rw[<- Su] at Yz ⊢;clear hW1 hb1 YI JF hei Az hf Ax hsh hcl Su k0 k1 k2 k3 k4 z0 z1 z2 z3 hfo;obtain⟨k0,k1,k2,k3,k4⟩:=fy (KB.o W1 fV.o);go_upto_region 17 with(go_at_call 48;refine JZ.o.mono ?_;rintro e w2 ⟨rfl,hb2⟩;have gj:=ai hb2;clear hb2)
           have hb3:Below W1.heap.size W1 (w2.alloc (.cells #[I q1,I q2,I q3,.bool q4] 47)):=gj.o.alloc gj.o.size _;have HYB:=ai (bO w2 #[I q1,I q2,I q3,.bool q4] 47);obtain⟨W3,hW3⟩:=ex (w2.alloc (.cells #[I q1,I q2,I q3,.bool q4] 47));obtain⟨yb,hyb⟩:=ex w2.heap.size;rw[<- hW3] at hb3 HYB ⊢;rw[<- hyb] at HYB ⊢;have kJ:=ai (fV.o.trans (hb3.mono fV.o.size));have Oh:=ai (aQ Yz.o hb3 (aT Yz.o));clear hW3 hyb hb3 k0 k1 k2 k3 k4;obtain⟨BD,hBD⟩:=ex (!(ow k.aD ⟨d,rf,dy,sn⟩ ⟨nn,np,Z9,⟨q1,q2,q3,q4⟩⟩));have ET:=ai hBD;have HBN:Hid (ow k.aD ⟨d,rf,dy,sn⟩ ⟨nn,np,Z9,⟨q1,q2,q3,q4⟩⟩=!BD):=(show ow k.aD ⟨d,rf,dy,sn⟩ ⟨nn,np,Z9,⟨q1,q2,q3,q4⟩⟩=!BD by rw[hBD,Bool.not_not]);rw[HBN.o] at Vm Ol;clear hBD HBN;go_cut [135] (fun c wx=>c=.bool BD/\Below W3.heap.size W3 wx)
           case first =>
            have uP:=gG W3;have kk0:∀x:dm W3.heap.size W3,x.world.cell? (Ad w.heap.size 0)=some (.slice a.aS nS a.cS):=fun x=>aB (KB.o _ (kJ.o.trans (x.keeps.mono kJ.o.size))) 0 rfl
            have kk1:∀x:dm W3.heap.size W3,x.world.cell? (Ad w.heap.size 1)=some (.slice a.aF nF a.cF):=fun x=>aB (KB.o _ (kJ.o.trans (x.keeps.mono kJ.o.size))) 1 rfl
            have kk2:∀x:dm W3.heap.size W3,x.world.cell? (Ad w.heap.size 2)=some (.slice a.aL nL a.cL):=fun x=>aB (KB.o _ (kJ.o.trans (x.keeps.mono kJ.o.size))) 2 rfl
            have kk3:∀x:dm W3.heap.size W3,x.world.cell? (Ad w.heap.size 3)=some (.slice a.aP nP a.cP):=fun x=>aB (KB.o _ (kJ.o.trans (x.keeps.mono kJ.o.size))) 3 rfl
            have kk4:∀x:dm W3.heap.size W3,x.world.cell? (Ad w.heap.size 4)=some (I k.hand):=fun x=>aB (KB.o _ (kJ.o.trans (x.keeps.mono kJ.o.size))) 4 rfl
            have x0:∀x:dm W3.heap.size W3,x.world.cell? (Ad xb 0)=some (.string d):=fun x=>aB (aQ Oh.o x.keeps (aT Oh.o)) 0 rfl
            have x1:∀x:dm W3.heap.size W3,x.world.cell? (Ad xb 1)=some (I rf):=fun x=>aB (aQ Oh.o x.keeps (aT Oh.o)) 1 rfl
            have x2:∀x:dm W3.heap.size W3,x.world.cell? (Ad xb 2)=some (.bool dy):=fun x=>aB (aQ Oh.o x.keeps (aT Oh.o)) 2 rfl
            have x3:∀x:dm W3.heap.size W3,x.world.cell? (Ad xb 3)=some (.bool sn):=fun x=>aB (aQ Oh.o x.keeps (aT Oh.o)) 3 rfl
            have y0:∀x:dm W3.heap.size W3,x.world.cell? (Ad yb 0)=some (I q1):=fun x=>aB (aQ HYB.o x.keeps (aT HYB.o)) 0 rfl
            have y1:∀x:dm W3.heap.size W3,x.world.cell? (Ad yb 1)=some (I q2):=fun x=>aB (aQ HYB.o x.keeps (aT HYB.o)) 1 rfl
            have y2:∀x:dm W3.heap.size W3,x.world.cell? (Ad yb 2)=some (I q3):=fun x=>aB (aQ HYB.o x.keeps (aT HYB.o)) 2 rfl
            have y3:∀x:dm W3.heap.size W3,x.world.cell? (Ad yb 3)=some (.bool q4):=fun x=>aB (aQ HYB.o x.keeps (aT HYB.o)) 3 rfl
            have anP:Hid (∀V,Below W3.heap.size W3 V->nn≠0->Calls Tryz.prog 49 #[.agg #[.slice a.aS nS a.cS,.slice a.aF nF a.cF,.slice a.aL nL a.cL,.slice a.aP nP a.cP,I k.hand],.agg #[I q1,I q2,I q3,.bool q4],I np] V fun e w'=>e=.returned (.string (dY k.aD np q4))/\Below V.heap.size V w'):=fun V hV hne=>Om.o V q1 q2 q3 q4 np (kJ.o.trans (hV.mono kJ.o.size)) (SF.o hne)
            clear Vm Ol HEI ada Om ZF Mu ZE KM Z5 aiz HRY HHD UG HLF HLL SH;by_cases h1:rf=nn
            · have H1:=ai h1;subst h1;by_cases h2:rf=0
              · subst h2;by_cases h3:d.size=0
                · have h3':d=⟨#[]⟩:=by
                   obtain⟨⟨l⟩⟩:=d;have:l.length=0:=h3;have e:=List.length_eq_zero_iff.1 this;subst e;rfl
                  subst h3';cases dy with
                  | true =>
                   as_aux_lemma =>
                    refine cA (by kernel_rfl) (by kernel_rfl) ?_
                    repeat (first | go_big_quiet_step (fail) | quiet_step (fail))
                    refine fK ?_;intro _ hw';obtain⟨x,hw''⟩:=hw';subst hw'';go_wp2;go_meet
                    exact⟨by rw[ET.o];simp[ow,lj] <;> rfl,x.keeps⟩
                  | false =>
                   cases sn with
                   | true =>
                    as_aux_lemma =>
                     refine cA (by kernel_rfl) (by kernel_rfl) ?_
                     repeat (first | go_big_quiet_step (fail) | quiet_step (fail))
                     refine fK ?_;intro _ hw';obtain⟨x,hw''⟩:=hw';subst hw'';go_wp2;go_meet
                     exact⟨by rw[ET.o];simp[ow,lj] <;> rfl,x.keeps⟩
                   | false =>
                    as_aux_lemma =>
                     refine cA (by kernel_rfl) (by kernel_rfl) ?_
                     repeat (first | go_big_quiet_step (fail) | quiet_step (fail))
                     refine fK ?_;intro _ hw';obtain⟨x,hw''⟩:=hw';subst hw'';go_wp2;go_meet
                     exact⟨by rw[ET.o];simp[ow,lj] <;> rfl,x.keeps⟩
                · have hd:d.toList.isEmpty=false:=by
                   rw[zC];obtain⟨⟨l⟩⟩:=d;cases l with
                   | nil=>exact absurd rfl h3
                   | cons x r=>rfl
                  have hd2:(d.toList==[])=false:=by
                   cases hq:d.toList with
                   | nil=>rw[hq] at hd;cases hd
                   | cons x r=>rfl
                  as_aux_lemma =>
                   refine cA (by kernel_rfl) (by kernel_rfl) ?_
                   repeat (first | go_big_quiet_step (fail) | quiet_step (fail))
                   refine fK ?_;intro _ hw';obtain⟨x,hw''⟩:=hw';subst hw'';go_wp2;go_meet
                   exact⟨by rw[ET.o];simp[ow,lj,h3],x.keeps⟩
              · have b2:(rf==0)=false:=by simpa using h2
                have IG:0<rf:=by omega
                cases Z9 with
                | false =>
                 as_aux_lemma =>
                  refine cA (by kernel_rfl) (by kernel_rfl) ?_
                  repeat (first | go_big_quiet_step (fail) | quiet_step (fail))
                  refine fK ?_;intro _ hw';obtain⟨x,hw''⟩:=hw';subst hw'';go_wp2;go_meet
                  exact⟨by rw[ET.o];simp[ow,lj,IG],x.keeps⟩
                | true =>
                 by_cases h4:d.size=16
                 · have h4i:((d.size:Int) != 16)=false:=by rw[h4];rfl
                   cases dy with
                   | true =>
                    as_aux_lemma =>
                     refine cA (by kernel_rfl) (by kernel_rfl) ?_
                     repeat (first | go_big_quiet_step (fail) | quiet_step (fail))
                     refine fK ?_;intro _ hw';obtain⟨x,hw''⟩:=hw';subst hw'';go_wp2;go_meet
                     exact⟨by rw[ET.o];simp[ow,lj,IG,h2,h4],x.keeps⟩
                   | false =>
                    have UK:=ai (fun V hV=>anP.o V hV h2)
                    as_aux_lemma =>
                     refine cA (by kernel_rfl) (by kernel_rfl) ?_
                     repeat (first | go_big_quiet_step ((go_at_call 49;exact fJ _ UK.o)) | quiet_step ((go_at_call 49;exact fJ _ UK.o)))
                     refine fK ?_;intro _ hw';obtain⟨x,hw''⟩:=hw';subst hw'';go_wp2;go_meet
                     exact⟨by rw[ET.o];simp[ow,lj,IG,h2,h4,TT,bne],x.keeps⟩
                 · have h4i:((d.size:Int) != 16)=true:=by rw[bne_iff_ne];omega
                   as_aux_lemma =>
                    refine cA (by kernel_rfl) (by kernel_rfl) ?_
                    repeat (first | go_big_quiet_step (fail) | quiet_step (fail))
                    refine fK ?_;intro _ hw';obtain⟨x,hw''⟩:=hw';subst hw'';go_wp2;go_meet
                    exact⟨by rw[ET.o];simp[ow,lj,IG,h2,h4],x.keeps⟩
            · have b1:(rf != nn)=true:=by simpa using h1
              as_aux_lemma =>
               refine cA (by kernel_rfl) (by kernel_rfl) ?_
               repeat (first | go_big_quiet_step (fail) | quiet_step (fail))
               refine fK ?_;intro _ hw';obtain⟨x,hw''⟩:=hw';subst hw'';go_wp2;go_meet
               exact⟨by rw[ET.o];simp[ow,lj,h1],x.keeps⟩
           case rest =>
            obtain⟨rfl,hbc⟩:=hcut;have Dm:=ai (kJ.o.trans (hbc.mono kJ.o.size));cases BD with
            | true =>
             have e0:A=1:=Ol.o rfl;subst e0;go_wp2;go_ret;exact⟨rfl,eU.o.trans (Dm.o.mono eU.o.size)⟩
            | false =>
             have ZH:Hid (rA k (i+1)=true):=(show rA k (i+1)=true by rw[Vm.o,HEI.o];rfl);go_wp2;go_roundw
             case rel=>exact⟨i+1,by omega,by go_num,ZH.o,Dm.o⟩
             case measure=>simp[intOf];omega
         · obtain rfl:nF=i:=by omega
           have anJ:Hid (rA k k.frames.length=true):=(show rA k k.frames.length=true by rw[<- HLF.o];exact hei);have ai4:Hid (∀i:Nat,ru k (i+1)=(ru k i&&qG (br k.slots i) (fE k.aj 2 i))):=fun _=>rfl
           have R7:Hid (∀i:Nat,i<nL->qG (br k.slots i) (fE k.aj 2 i)=false->A=1):=fun i hi h=>Z5.o.sl i (by have:=HLL.o;omega) h
           clear ZE KM ZF Om hei Az hlt;go_wp2;go_loopw [10] (fun iv wq=>∃i:Nat,i<=nL/\iv=I (i:Int)/\ru k i=true/\Below WA.heap.size WA wq) (fun iv _=>nL-(intOf iv).toNat)
           case atStart=>exact⟨0,by omega,rfl,rfl,GU.o⟩
           case round =>
            obtain⟨i,hi,rfl,hei,Az⟩:=hrel;have HEI:=ai hei;have anW:=ai Az;obtain⟨k0,k1,k2,k3,k4⟩:=fy (KB.o wr Az);by_cases hlt:i<nL
            · have Dw:(i:Int)<(nL:Int):=by omega
              obtain⟨fb,fo,hfo,z0,z1⟩:=Mu.o wr i Az hlt;have Vm:=ai (ai4.o i);have Ol:=ai (R7.o i hlt);obtain⟨f,hf⟩:=ex (br k.slots i);rw[<- hf] at z0 z1 Vm Ol;obtain⟨d,rf⟩:=f;simp only at z0 z1;obtain⟨W1,hW1⟩:=ex (wr.alloc (.cells #[.string d,I rf] 86));have hb1:Below wr.heap.size wr W1:=by rw[hW1];exact(aK _ _).alloc (aI _) _
              have YI:W1.heap[wr.heap.size]?=some (.cells #[.string d,I rf] 86 (0,0)):=by rw[hW1];exact bO _ _ _
              have JF:=Az.trans (hb1.mono Az.size);have fV:=ai JF;have Yz:=ai YI;have CG:=ai hW1;obtain⟨nn,np,Z9,q1,q2,q3,q4,Ax,hn0,_,hcl⟩:=ada.o W1 2 (i:Int) JF;rw[Ax] at Vm Ol;have JZ:=ai hcl;rw[hfo] at k2;go_upto_region 23 with fail;rw[<- CG.o];obtain⟨xb,Su⟩:=ex wr.heap.size;rw[<- Su] at Yz ⊢;clear hW1 hb1 YI JF hei Az hf Ax hcl Su k0 k1 k2 k3 k4 z0 z1 hfo;obtain⟨k0,k1,k2,k3,k4⟩:=fy (KB.o W1 fV.o);go_upto_region 24 with(go_at_call 48;refine JZ.o.mono ?_;rintro e w2 ⟨rfl,hb2⟩;have gj:=ai hb2;clear hb2)
              have hb3:Below W1.heap.size W1 (w2.alloc (.cells #[I q1,I q2,I q3,.bool q4] 47)):=gj.o.alloc gj.o.size _;obtain⟨W3,hW3⟩:=ex (w2.alloc (.cells #[I q1,I q2,I q3,.bool q4] 47));rw[<- hW3] at hb3 ⊢;have kJ:=ai (fV.o.trans (hb3.mono fV.o.size));obtain⟨x0,x1⟩:=nM (aQ Yz.o hb3 (aT Yz.o));have rD:Hid (qG ⟨d,rf⟩ ⟨nn,np,Z9,⟨q1,q2,q3,q4⟩⟩=qG ⟨d,rf⟩ ⟨nn,np,Z9,⟨q1,q2,q3,q4⟩⟩):=rfl;clear hW3 hb3 k0 k1 k2 k3 k4 ada Mu ai4 R7 JZ Yz gj;by_cases h1:rf=nn
              · subst h1;by_cases h2:rf=0
                · subst h2;by_cases h3:d.size=0
                  · have h3':d=⟨#[]⟩:=by
                     obtain⟨⟨l⟩⟩:=d;have:l.length=0:=h3;have e:=List.length_eq_zero_iff.1 this;subst e;rfl
                    subst h3';have ZH:Hid (ru k (i+1)=true):=(show ru k (i+1)=true by rw[Vm.o,HEI.o,rD.o];simp[qG,lW] <;> rfl);go_wp2;go_roundw
                    case rel=>exact⟨i+1,by omega,by go_num,ZH.o,kJ.o⟩
                    case measure=>simp[intOf];omega
                  · have hd:d.toList.isEmpty=false:=by
                     rw[zC];obtain⟨⟨l⟩⟩:=d;cases l with
                     | nil=>exact absurd rfl h3
                     | cons x r=>rfl
                    have hd2:(d.toList==[])=false:=by
                     cases hq:d.toList with
                     | nil=>rw[hq] at hd;cases hd
                     | cons x r=>rfl
                    have e0:=Ol.o (by rw[rD.o];simp[qG,lW,h3]);subst e0;go_wp2;go_ret;exact⟨rfl,eU.o.trans (kJ.o.mono eU.o.size)⟩
                · have b2:(rf==0)=false:=by simpa using h2
                  have IG:0<rf:=by omega
                  cases Z9 with
                  | false =>
                   have e0:=Ol.o (by rw[rD.o];simp[qG,lW,IG]);subst e0;go_wp2;go_ret;exact⟨rfl,eU.o.trans (kJ.o.mono eU.o.size)⟩
                  | true =>
                   by_cases h4:d.size=16
                   · have h4i:((d.size:Int) != 16)=false:=by rw[h4];rfl
                     have ZH:Hid (ru k (i+1)=true):=(show ru k (i+1)=true by rw[Vm.o,HEI.o,rD.o];simp[qG,lW,IG,h2,h4]);go_wp2;go_roundw
                     case rel=>exact⟨i+1,by omega,by go_num,ZH.o,kJ.o⟩
                     case measure=>simp[intOf];omega
                   · have h4i:((d.size:Int) != 16)=true:=by rw[bne_iff_ne];omega
                     have e0:=Ol.o (by rw[rD.o];simp[qG,lW,IG,h2,h4]);subst e0;go_wp2;go_ret;exact⟨rfl,eU.o.trans (kJ.o.mono eU.o.size)⟩
              · have b1:(rf != nn)=true:=by simpa using h1
                have e0:=Ol.o (by rw[rD.o];simp[qG,lW,h1]);subst e0;go_wp2;go_ret;exact⟨rfl,eU.o.trans (kJ.o.mono eU.o.size)⟩
            · obtain rfl:nL=i:=by omega
              have e0:A=0:=Z5.o.yes UG.o HHD.o aiz.o HRY.o anJ.o (by rw[<- HLL.o];exact hei);subst e0;go_wp2;go_ret;exact⟨rfl,eU.o.trans (anW.o.mono eU.o.size)⟩
      · have hr2:(nL:Int)<RM:=by omega
        have e0:A=1:=HRO.o hr;subst e0;go_wp2;go_ret;exact⟨rfl,eU.o.trans (uO.o.mono eU.o.size)⟩
 · have SC:pB k=2:=by
    unfold pB;rw[aR (by simpa using hcn)]
   rw[SC];have Nc:¬((3<=nF/\nF<=64)/\nL<=512/\(1<=nP/\nP<=4)/\nS<=255):=by rw[hnS,hnF,hnL,YQ];exact fun g=>hcn (dI g)
   obtain⟨k0,k1,k2,k3,k4⟩:=fy (KB.o WA (aK _ _));have CG:=ai (fun V=>Oi.o (nF:Int) 3 64 V);have Mt:=ai (fun V=>Oi.o (nP:Int) 1 4 V);rcases(show ¬(3<=(nF:Int)/\(nF:Int)<=64)∨((3<=(nF:Int)/\(nF:Int)<=64)/\512<(nL:Int))∨((3<=(nF:Int)/\(nF:Int)<=64)/\¬512<(nL:Int)/\¬(1<=(nP:Int)/\(nP:Int)<=4))∨((3<=(nF:Int)/\(nF:Int)<=64)/\¬512<(nL:Int)/\(1<=(nP:Int)/\(nP:Int)<=4)/\255<(nS:Int)) by omega) with g | ⟨g,g1⟩ | ⟨g,g1,g2⟩ | ⟨g,g1,g2,g3⟩
   · rw[dJ g] at CG;clear hK hF hb0 kb jG C6 jQ hcn SC Nc Oi hnS hnF hnL YQ Vk;go_enter Tryz.func14,Tryz.ntmps14;go_upto_region 1 with fail;rw[<- lI.o];go_wp2_with (first
      | (have _:=FIRST;go_at_call 44;refine(Mt.o _).mono ?_;rintro e w2 ⟨rfl,rfl⟩)
      | (go_at_call 44;refine(CG.o _).mono ?_;rintro e w1 ⟨rfl,rfl⟩;have FIRST:=trivial))
     go_ret;exact⟨rfl,eU.o⟩
   · rw[dI g] at CG;clear hK hF hb0 kb jG C6 jQ hcn SC Nc Oi hnS hnF hnL YQ Vk;go_enter Tryz.func14,Tryz.ntmps14;go_upto_region 1 with fail;rw[<- lI.o];go_wp2_with (first
      | (have _:=FIRST;go_at_call 44;refine(Mt.o _).mono ?_;rintro e w2 ⟨rfl,rfl⟩)
      | (go_at_call 44;refine(CG.o _).mono ?_;rintro e w1 ⟨rfl,rfl⟩;have FIRST:=trivial))
     go_ret;exact⟨rfl,eU.o⟩
   · rw[dI g] at CG;rw[dJ g2] at Mt;clear hK hF hb0 kb jG C6 jQ hcn SC Nc Oi hnS hnF hnL YQ Vk;go_enter Tryz.func14,Tryz.ntmps14;go_upto_region 1 with fail;rw[<- lI.o];go_wp2_with (first
      | (have _:=FIRST;go_at_call 44;refine(Mt.o _).mono ?_;rintro e w2 ⟨rfl,rfl⟩)
      | (go_at_call 44;refine(CG.o _).mono ?_;rintro e w1 ⟨rfl,rfl⟩;have FIRST:=trivial))
     go_ret;exact⟨rfl,eU.o⟩
   · rw[dI g] at CG;rw[dI g2] at Mt;clear hK hF hb0 kb jG C6 jQ hcn SC Nc Oi hnS hnF hnL YQ Vk;go_enter Tryz.func14,Tryz.ntmps14;go_upto_region 1 with fail;rw[<- lI.o];go_wp2_with (first
      | (have _:=FIRST;go_at_call 44;refine(Mt.o _).mono ?_;rintro e w2 ⟨rfl,rfl⟩)
      | (go_at_call 44;refine(CG.o _).mono ?_;rintro e w1 ⟨rfl,rfl⟩;have FIRST:=trivial))
     go_ret;exact⟨rfl,eU.o⟩
open Go.RowKit
theorem T5 (k:aN) (a:fR) (sp:Int) (w:World) (hK:gD w a k) (hF:iI k) (hsp:eY sp) :
  Calls Tryz.prog 56 #[.agg (bg a k),I sp] w fun e w'=>e=.returned (I (dV k sp))/\Below w.heap.size w w':=by
 obtain⟨WA,jG⟩:=ex (w.alloc (.cells (bg a k) 27));have hb0:Below w.heap.size w WA:=by rw[jG];exact(aK _ _).alloc (aI _) _
 have kb:WA.heap[w.heap.size]?=some (.cells (bg a k) 27 (0,0)):=by rw[jG];exact bO w _ _
 have KB:Hid (∀V,Below WA.heap.size WA V->V.heap[w.heap.size]?=some (.cells #[.slice a.aS k.aD.length a.cS,.slice a.aF k.frames.length a.cF,.slice a.aL k.slots.length a.cL,.slice a.aP k.aj.length a.cP,I k.hand] 27 (0,0))):=fun V hb=>aQ kb hb (aT kb)
 obtain⟨k0,k1,k2,k3,k4⟩:=fy (KB.o WA (aK _ _));have lI:=ai jG;have eU:=ai hb0;have Ir:Hid (Calls Tryz.prog 14 #[.agg (bg a k)] WA fun e w'=>e=.returned (I (eZ k))/\Below WA.heap.size WA w'):=by
  have:=Gs k a WA (hK.below hb0) hF;rw[DW] at this;exact this
 have Ee:k.aj.length<=140737488351232:=hF.np;have Oi:=ai (fun V=>gv sp 0 ((k.aj.length:Int)-1) V);have uT:Hid (∀V i,Below WA.heap.size WA V->i<k.aj.length->∃pb po,a.aP=some (Ad pb po)/\V.cell? (Ad pb (po+i*3))=some (.bool (ak k.aj i).live)):=fun V i hV hi=>by
  obtain⟨pb,po,e1,e2,e3⟩:=(hK.aj.below (hb0.trans (hV.mono hb0.size))) (by omega);obtain⟨va,ap,cp,c0,_⟩:=e3 i hi;exact⟨pb,po,e1,c0⟩
 unfold dV;obtain⟨C,hC⟩:=ex (eZ k);rw[<- hC] at Ir ⊢;unfold bg at Ir lI ⊢;clear hK hF hb0 kb jG hC;by_cases c:C=0
 · rw[aR c];subst c;by_cases d:0<=sp/\sp<=(k.aj.length:Int)-1
   · rw[dI d] at Oi;obtain⟨j,rfl⟩:∃j:Nat,sp=(j:Int):=⟨sp.toNat,by omega⟩;rw[jn];have hj:j<k.aj.length:=by omega
     have Sw:(j:Int)<(k.aj.length:Int):=by omega
     obtain⟨lv,hlv⟩:=ex ((ak k.aj j).live);have HSJ:Hid (∀V,Below WA.heap.size WA V->∃pb po,a.aP=some (Ad pb po)/\V.cell? (Ad pb (po+j*3))=some (.bool lv)):=fun V hV=>by rw[hlv];exact uT.o V j hV hj
     rw[<- hlv];have HJJ:=ai hj;have HLI:=ai Sw;clear hlv uT d hj hsp;have hif:(if 0<=(j:Int)/\(j:Int)<(k.aj.length:Int)/\lv=true then (0:Int) else 6)=if lv then 0 else 6:=by
      cases lv <;> simp;omega
     rw[hif];clear hif Sw;go_enter Tryz.func56,Tryz.ntmps56;go_upto_region 1 with fail;rw[<- lI.o];go_upto_region 2 with(go_at_call 14;refine Ir.o.mono ?_;rintro e w1 ⟨rfl,hb1⟩;have dz:=ai hb1;obtain⟨pb,po,hao,c0⟩:=HSJ.o _ hb1;have hq:=KB.o _ hb1;rw[hao] at hq;obtain⟨k0,k1,k2,k3,k4⟩:=fy hq;clear hb1 hq)
     have Sw:=HLI.o;have hjj:=HJJ.o;clear hao;cases lv with
     | true =>
      go_wp2_with (go_at_call 44;refine(Oi.o _).mono ?_;rintro e w2 ⟨rfl,rfl⟩)
      go_ret;exact⟨rfl,eU.o.trans (dz.o.mono eU.o.size)⟩
     | false =>
      go_wp2_with (go_at_call 44;refine(Oi.o _).mono ?_;rintro e w2 ⟨rfl,rfl⟩)
      go_ret;exact⟨rfl,eU.o.trans (dz.o.mono eU.o.size)⟩
   · rw[dJ d] at Oi;rw[bf (fun g=>d ⟨g.1,by omega⟩)];clear uT d;go_enter Tryz.func56,Tryz.ntmps56;go_upto_region 1 with fail;rw[<- lI.o];go_wp2_with (first | (go_at_call 14;refine Ir.o.mono ?_;rintro e w1 ⟨rfl,hb1⟩;have dz:=ai hb1;obtain⟨k0,k1,k2,k3,k4⟩:=fy (KB.o _ hb1);clear hb1) | (go_at_call 44;refine(Oi.o _).mono ?_;rintro e w2 ⟨rfl,rfl⟩))
     go_ret;exact⟨rfl,eU.o.trans (dz.o.mono eU.o.size)⟩
 · rw[bf c];have cb:(C==0)=false:=by simpa using c
   clear uT Oi;go_enter Tryz.func56,Tryz.ntmps56;go_upto_region 1 with fail;rw[<- lI.o];go_wp2_with (go_at_call 14;refine Ir.o.mono ?_;rintro e w1 ⟨rfl,hb1⟩;have dz:=ai hb1;clear hb1)
   go_ret;exact⟨rfl,eU.o.trans (dz.o.mono eU.o.size)⟩
open Go.RowKit
theorem Gq (k:aN) (a:fR) (sp n way:Int) (w:World) (hK:gD w a k) (hF:iI k) (hsp:eY sp) :
  Calls Tryz.prog 19 #[.agg (bg a k),I sp,I n,I way] w fun e w'=>e=.returned (I (eB k sp n way [0,1,2]))/\Below w.heap.size w w':=by
 obtain⟨WA,jG⟩:=ex (w.alloc (.cells (bg a k) 27));have hb0:Below w.heap.size w WA:=by rw[jG];exact(aK _ _).alloc (aI _) _
 have kb:WA.heap[w.heap.size]?=some (.cells (bg a k) 27 (0,0)):=by rw[jG];exact bO w _ _
 have KB:Hid (∀V,Below WA.heap.size WA V->V.heap[w.heap.size]?=some (.cells #[.slice a.aS k.aD.length a.cS,.slice a.aF k.frames.length a.cF,.slice a.aL k.slots.length a.cL,.slice a.aP k.aj.length a.cP,I k.hand] 27 (0,0))):=fun V hb=>aQ kb hb (aT kb)
 obtain⟨k0,k1,k2,k3,k4⟩:=fy (KB.o WA (aK _ _));have lI:=ai jG;have eU:=ai hb0;have HLV:=ai (T5 k a sp WA (hK.below hb0) hF hsp);have CG:=ai (fun V=>gv n 1 8 V);have Mt:=ai (fun V=>gv way 0 2 V);unfold eB;obtain⟨C,hC⟩:=ex (dV k sp);rw[<- hC] at HLV ⊢;unfold bg at HLV lI ⊢;clear hK hF hb0 kb jG hC hsp;by_cases c:C=0
 · rw[bf (fun g=>g c)];subst c;by_cases d:1<=n/\n<=8
   · rw[bf (fun g=>g d)];rw[dI d] at CG;by_cases e:0<=way/\way<=2
     · rw[dI e] at Mt;rw[aR (by simp;omega)];go_enter Tryz.func19,Tryz.ntmps19;go_upto_region 1 with fail;rw[<- lI.o];go_wp2_with (first
        | (go_at_call 56;refine HLV.o.mono ?_;rintro e w1 ⟨rfl,hb1⟩;have dz:=ai hb1;clear hb1)
        | (have _:=FIRST;go_at_call 44;refine(Mt.o _).mono ?_;rintro e w3 ⟨rfl,rfl⟩)
        | (go_at_call 44;refine(CG.o _).mono ?_;rintro e w2 ⟨rfl,rfl⟩;have FIRST:=trivial))
       go_ret;exact⟨rfl,eU.o.trans (dz.o.mono eU.o.size)⟩
     · rw[dJ e] at Mt;rw[bf (by simp;omega)];go_enter Tryz.func19,Tryz.ntmps19;go_upto_region 1 with fail;rw[<- lI.o];go_wp2_with (first
        | (go_at_call 56;refine HLV.o.mono ?_;rintro e w1 ⟨rfl,hb1⟩;have dz:=ai hb1;clear hb1)
        | (have _:=FIRST;go_at_call 44;refine(Mt.o _).mono ?_;rintro e w3 ⟨rfl,rfl⟩)
        | (go_at_call 44;refine(CG.o _).mono ?_;rintro e w2 ⟨rfl,rfl⟩;have FIRST:=trivial))
       go_ret;exact⟨rfl,eU.o.trans (dz.o.mono eU.o.size)⟩
   · rw[aR d];rw[dJ d] at CG;go_enter Tryz.func19,Tryz.ntmps19;go_upto_region 1 with fail;rw[<- lI.o];go_wp2_with (first
      | (go_at_call 56;refine HLV.o.mono ?_;rintro e w1 ⟨rfl,hb1⟩;have dz:=ai hb1;clear hb1)
      | (have _:=FIRST;go_at_call 44;refine(Mt.o _).mono ?_;rintro e w3 ⟨rfl,rfl⟩)
      | (go_at_call 44;refine(CG.o _).mono ?_;rintro e w2 ⟨rfl,rfl⟩;have FIRST:=trivial))
     go_ret;exact⟨rfl,eU.o.trans (dz.o.mono eU.o.size)⟩
 · rw[aR c];have cb:(C != 0)=true:=by simpa using c
   go_enter Tryz.func19,Tryz.ntmps19;go_upto_region 1 with fail;rw[<- lI.o];go_wp2_with (first
    | (go_at_call 56;refine HLV.o.mono ?_;rintro e w1 ⟨rfl,hb1⟩;have dz:=ai hb1;clear hb1)
    | (have _:=FIRST;go_at_call 44;refine(Mt.o _).mono ?_;rintro e w3 ⟨rfl,rfl⟩)
    | (go_at_call 44;refine(CG.o _).mono ?_;rintro e w2 ⟨rfl,rfl⟩;have FIRST:=trivial))
   go_ret;exact⟨rfl,eU.o.trans (dz.o.mono eU.o.size)⟩
end Go.Proofs.YtpgifpeohlllfaaGreat
