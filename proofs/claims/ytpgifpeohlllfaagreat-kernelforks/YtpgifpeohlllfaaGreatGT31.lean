import Derived.Test.YtpgifpeohlllfaaGreatGT30
import Derived.Test.YtpgifpeohlllfaaGreatGT23
set_option maxHeartbeats 20000000
set_option linter.unusedVariables false
set_option maxRecDepth 100000
set_option linter.unusedSimpArgs false
namespace Go.Proofs.YtpgifpeohlllfaaGreat
namespace KR
open Go.RowKit GK
open FW (ai aD)
open KW (aZ fh cK aI eB l8 kj aK eY bJ bI)
structure Ans (k:KM.Kn) (A:Int):Prop where
 eJ:LM.dC k.ak=false->A=1
 hand:¬(0<=k.hand/\k.hand<=(k.frames.length:Int)-1)->A=1
 sp:∀i,i<k.aj.length->KM.iP k.ak k.frames.length k.slots.length (KM.au k.aj i)=false->A=1
 room:¬KM.room k.aj<=(k.slots.length:Int)->A=1
 fr:∀i,i<k.frames.length->KM.B6 k.ak (KM.aH k.frames i) (KM.dJ k.aj 1 i)=false->A=1
 sl:∀i,i<k.slots.length->KM.Ge (KM.bj k.slots i) (KM.dJ k.aj 2 i)=false->A=1
 yes:LM.dC k.ak=true->(0<=k.hand/\k.hand<=(k.frames.length:Int)-1)->KM.rV k k.aj.length=true->KM.room k.aj<=(k.slots.length:Int)->KM.xy k k.frames.length=true->KM.xd k k.slots.length=true->A=0
theorem Xh {k:KM.Kn} (hc:KM.counts k=true):Ans k (KM.ki k):=by
 have e:KM.ki k=if KM.nN k then 0 else 1:=by
  unfold KM.ki;rw[if_neg (by rw[hc];decide)]
 have no:KM.nN k=false->KM.ki k=1:=fun h=>by rw[e,h];rfl
 refine⟨fun h=>no ?_,fun h=>no ?_,fun i hi h=>no ?_,fun h=>no ?_,fun i hi h=>no ?_,fun i hi h=>no ?_,fun h1 h2 h3 h4 h5 h6=>?_⟩
 · unfold KM.nN;rw[h,Bool.false_and]
 · unfold KM.nN;rw[decide_eq_false h,Bool.false_and,Bool.and_false]
 · unfold KM.nN;rw[oo (f:=fun n=>KM.iP k.ak k.frames.length k.slots.length (KM.au k.aj n)) (g:=KM.rV k) (fun _=>rfl) _ i hi h];simp
 · unfold KM.nN;rw[decide_eq_false h];simp
 · unfold KM.nN;rw[oo (f:=fun n:Nat=>KM.B6 k.ak (KM.aH k.frames n) (KM.dJ k.aj 1 n)) (g:=KM.xy k) (fun _=>rfl) _ i hi h];simp
 · unfold KM.nN;rw[oo (f:=fun n:Nat=>KM.Ge (KM.bj k.slots n) (KM.dJ k.aj 2 n)) (g:=KM.xd k) (fun _=>rfl) _ i hi h];simp
 · rw[e];unfold KM.nN;rw[h1,decide_eq_true h2,h3,decide_eq_true h4,h5,h6];rfl
structure Fnd (k:KM.Kn):Prop where
 check:∀i,i<k.aj.length->AM.aW (KM.au k.aj i).aB=0
 few:∀i,i<k.aj.length->(KM.au k.aj i).aA.length<=65025
 YZ:∀kd i,(KM.dJ k.aj kd i).n≠0->(KM.dJ k.aj kd i).qz.zero=false->(KM.bW k.ak (KM.dJ k.aj kd i).page).isSome=true
 pos:∀kd i,0<=(KM.dJ k.aj kd i).n
theorem PZ {k:KM.Kn} (h:KM.rV k k.aj.length=true):Fnd k:=by
 have all:∀i,i<k.aj.length->KM.J8 k.ak k.frames.length k.slots.length (KM.au k.aj i):=fun i hi=>KM.CG.1 ((KM.rU (f:=fun n=>KM.iP k.ak k.frames.length k.slots.length (KM.au k.aj n)) (g:=KM.rV k) rfl (fun _=>rfl) _).1 h i hi)
 refine⟨fun i hi=>(all i hi).aB,fun i hi=>?_,fun kd i hn hz=>?_,fun kd i=>?_⟩
 · have h1:=KM.kP (all i hi);have h2:=KW.jS (KM.au k.aj i).aB;omega
 · have N:=KM.uQ k.aj kd i;have hne:KM.names k.aj kd i≠[]:=fun e=>hn (by rw[N.n,e];rfl)
   obtain⟨s,hs,e,he,_,_,hx⟩:=KM.gT.1 (N.last hne);obtain⟨j,hj,ej⟩:=KM.fu KM.uu hs;have ej:KM.au k.aj j=s:=ej;have hS:=all j hj;rw[ej] at hS;injection hx with p1 p2;rw[p1];exact hS.ak e.page (hS.u9 e he).1 (by rw[<- p2];exact hz)
 · rw[(KM.uQ k.aj kd i).n];omega
theorem gV (k:KM.Kn) (a:fh) (w:World) (hK:cK w a k) (hF:eB k) :
  Calls Tryz.prog 14 #[.agg (aI a k)] w fun e w'=>e=.returned (I (KM.ki k))/\Below w.heap.size w w':=by
 obtain⟨nS,RI⟩:=ex k.ak.length;obtain⟨nF,hnF⟩:=ex k.frames.length;obtain⟨nL,Ph⟩:=ex k.slots.length;obtain⟨nP,AJ⟩:=ex k.aj.length;obtain⟨WA,di⟩:=ex (w.alloc (.cells #[.slice a.aS nS a.cS,.slice a.aF nF a.cF,.slice a.aL nL a.cL,.slice a.aP nP a.cP,I k.hand] 27));have hb0:Below w.heap.size w WA:=by rw[di];exact(Below.refl _ _).alloc (Nat.le_refl _) _
 have kb:WA.heap[w.heap.size]?=some (.cells #[.slice a.aS nS a.cS,.slice a.aF nF a.cF,.slice a.aL nL a.cL,.slice a.aP nP a.cP,I k.hand] 27 (0,0)):=by rw[di];exact B.new w _ _
 have KB:Hid (∀V,Below WA.heap.size WA V->V.heap[w.heap.size]?=some (.cells #[.slice a.aS nS a.cS,.slice a.aF nF a.cF,.slice a.aL nL a.cL,.slice a.aP nP a.cP,I k.hand] 27 (0,0))):=fun V hb=>B.below kb hb (B.isLt kb)
 have qT:aI a k=#[.slice a.aS nS a.cS,.slice a.aF nF a.cF,.slice a.aL nL a.cL,.slice a.aP nP a.cP,I k.hand]:=by unfold aI;rw[<- RI,<- hnF,<- Ph,<- AJ]
 have AY:=ai AW.eI;have ek:∀{V:World},Below WA.heap.size WA V->Below w.heap.size w V:=fun hV=>hb0.trans (hV.mono hb0.size)
 have M8:Hid (∀V,Below WA.heap.size WA V->Calls Tryz.prog 45 #[.slice a.aS nS a.cS] V fun e w'=>e=.returned (.bool (LM.dC k.ak))/\Below V.heap.size V w'):=fun V hV=>by rw[RI];exact LW.yc k.ak a.aS a.cS V (hK.ak.below (ek hV)) hF.ak
 have eZ:=ai di;have bR:=ai hb0;rw[qT];have hsS:nS<=140737488351232:=by rw[RI];exact hF.ak.1
 have hsF:nF<=140737488351232:=by rw[hnF];exact hF.nf
 have hsL:nL<=140737488351232:=by rw[Ph];exact hF.ns
 have hsP:nP<=140737488351232:=by rw[AJ];exact hF.np
 by_cases hcn:KM.counts k=true
 · have Nj:=ai (Xh hcn);have H9:(3<=nF/\nF<=64)/\nL<=512/\(1<=nP/\nP<=4)/\nS<=255:=by rw[RI,hnF,Ph,AJ];exact of_decide_eq_true hcn
   obtain⟨⟨hF3,akL⟩,hL5,⟨hP1,hP4⟩,hS2⟩:=H9;obtain⟨A,hA⟩:=ex (KM.ki k);rw[<- hA] at Nj ⊢;have Uw:Hid (∀V i,Below WA.heap.size WA V->i<nP->∃pb po lv aa la ca ap le cp,a.aP=some (Ad pb po)/\(∀U,Below V.heap.size V U->U.cell? (Ad pb (po+i*3))=some (.bool lv)/\U.cell? (Ad pb (po+i*3+1))=some (.slice aa la ca)/\U.cell? (Ad pb (po+i*3+2))=some (.slice ap le cp))/\∀U,Below V.heap.size V U->Calls Tryz.prog 46 #[.agg #[.slice a.aS nS a.cS,.slice a.aF nF a.cF,.slice a.aL nL a.cL,.slice a.aP nP a.cP,I k.hand],.agg #[.bool lv,.slice aa la ca,.slice ap le cp]] U fun e w'=>e=.returned (.bool (KM.iP k.ak k.frames.length k.slots.length (KM.au k.aj i)))/\Below U.heap.size U w'):=fun V i hV hi=>by
    obtain⟨pb,po,e1,e2,e3⟩:=(hK.aj.below (ek hV)) (by omega);obtain⟨va,ap,cp,c0,c1,c2,c3,c4,_⟩:=e3 i (by omega);have c3':=c3;obtain⟨aa,ca,rfl,_⟩:=c3;refine⟨pb,po,_,aa,_,ca,ap,_,cp,e1,fun U hU=>⟨(hU.cell (p:=(Ad pb (po+i*3))) e2).trans c0,(hU.cell (p:=(Ad pb (po+i*3+1))) e2).trans c1,(hU.cell (p:=(Ad pb (po+i*3+2))) e2).trans c2⟩,fun U hU=>?_⟩;have hf:=hF.sp i (by omega);have:=Ap k a (KM.au k.aj i) aa ap ca cp U (c3'.below hU) hf.aB (c4.below hU) hf.aA (hK.ak.below ((ek hV).trans (hU.mono (ek hV).size))) hF.ak (by omega) (by omega);rw[qT] at this;exact this
   have Ux:KM.rV k k.aj.length=true->Hid (∀V,Below WA.heap.size WA V->Calls Tryz.prog 47 #[.agg #[.slice a.aS nS a.cS,.slice a.aF nF a.cF,.slice a.aL nL a.cL,.slice a.aP nP a.cP,I k.hand]] V fun e w'=>e=.returned (I (KM.room k.aj))/\Below V.heap.size V w'):=fun hs V hV=>by
    have:=Ex k a V (hK.aj.below (ek hV)) (PZ hs).check (by omega);rw[qT] at this;exact this
   have RZ:KM.rV k k.aj.length=true->Hid (∀V kd i,Below WA.heap.size WA V->∃nn np Oj q1 q2 q3 q4,KM.dJ k.aj kd i=⟨nn,np,Oj,⟨q1,q2,q3,q4⟩⟩/\0<=nn/\(nn≠0->q4=false->(KM.bW k.ak np).isSome=true)/\Calls Tryz.prog 48 #[.agg #[.slice a.aS nS a.cS,.slice a.aF nF a.cF,.slice a.aL nL a.cL,.slice a.aP nP a.cP,I k.hand],I kd,I i] V fun e w'=>e=.returned (.tuple #[I nn,I np,.bool Oj,.agg #[I q1,I q2,I q3,.bool q4]])/\Below V.heap.size V w'):=fun hs V kd i hV=>by
    have f:=PZ hs;have h1:=Hf k a kd i V (hK.aj.below (ek hV)) f.check (by omega) f.few;have h2:=f.YZ kd i;have h3:=f.pos kd i;rw[qT] at h1;exact⟨_,_,_,_,_,_,_,rfl,h3,h2,h1⟩
   have Nh:LM.dC k.ak=true->Hid (∀V q1 q2 q3 q4 p,Below WA.heap.size WA V->(q4=false->(KM.bW k.ak p).isSome=true)->Calls Tryz.prog 49 #[.agg #[.slice a.aS nS a.cS,.slice a.aF nF a.cF,.slice a.aL nL a.cL,.slice a.aP nP a.cP,I k.hand],.agg #[I q1,I q2,I q3,.bool q4],I p] V fun e w'=>e=.returned (.string (KM.dY k.ak p q4))/\Below V.heap.size V w'):=fun hr V q1 q2 q3 q4 p hV hz=>by
    have:=Fu k a q1 q2 q3 q4 p V (hK.ak.below (ek hV)) hF.ak hr hz;rw[qT] at this;exact this
   have MJ:Hid (∀V i,Below WA.heap.size WA V->i<nF->∃fb fo,a.aF=some (Ad fb fo)/\V.cell? (Ad fb (fo+i*4))=some (.string (KM.aH k.frames i).data)/\V.cell? (Ad fb (fo+i*4+1))=some (I (KM.aH k.frames i).refs)/\V.cell? (Ad fb (fo+i*4+2))=some (.bool (KM.aH k.frames i).cj)/\V.cell? (Ad fb (fo+i*4+3))=some (.bool (KM.aH k.frames i).seen)):=fun V i hV hi=>by
    obtain⟨fb,fo,e1,e2,e3⟩:=(hK.frames.below (ek hV)) (by omega);have z:=e3 i (by omega) 0 (by omega);rw[Nat.add_zero] at z;exact⟨fb,fo,e1,z,e3 i (by omega) 1 (by omega),e3 i (by omega) 2 (by omega),e3 i (by omega) 3 (by omega)⟩
   have Cu:Hid (∀V i,Below WA.heap.size WA V->i<nL->∃fb fo,a.aL=some (Ad fb fo)/\V.cell? (Ad fb (fo+i*2))=some (.string (KM.bj k.slots i).data)/\V.cell? (Ad fb (fo+i*2+1))=some (I (KM.bj k.slots i).refs)):=fun V i hV hi=>by
    obtain⟨fb,fo,e1,e2,e3⟩:=(hK.slots.below (ek hV)) (by omega);have z:=e3 i (by omega) 0 (by omega);rw[Nat.add_zero] at z;exact⟨fb,fo,e1,z,e3 i (by omega) 1 (by omega)⟩
   have UI:=ai hnF;have UG:=ai Ph;have xH:=ai AJ;rw[<- hnF,<- Ph] at Uw;obtain⟨k0,k1,k2,k3,k4⟩:=B.c5 (KB.o WA (Below.refl _ _));have uA:Hid (∀V,Calls Tryz.prog 44 #[I (nF:Int),I 3,I 64] V fun e w'=>e=.returned (.bool true)/\V=w'):=fun V=>by
    have:=AY.o (nF:Int) 3 64 V;rw[decide_eq_true (by omega)] at this;exact this
   have Gn:Hid (∀V,Calls Tryz.prog 44 #[I (nP:Int),I 1,I 4] V fun e w'=>e=.returned (.bool true)/\V=w'):=fun V=>by
    have:=AY.o (nP:Int) 1 4 V;rw[decide_eq_true (by omega)] at this;exact this
   have VB:=ai (fun V=>AY.o k.hand 0 ((nF:Int)-1) V);obtain⟨hb,hhb⟩:=ex (decide (0<=k.hand/\k.hand<=(nF:Int)-1));rw[<- hhb] at VB;have R9:=ai hhb;obtain⟨rs,hrs⟩:=ex (LM.dC k.ak);rw[<- hrs] at M8;have xE:=ai hrs;clear hK hF hb0 kb di qT ek hcn hA hhb hrs AY RI hnF Ph AJ;go_enter Tryz.func14,Tryz.ntmps14;go_upto_region 1 with fail;rw[<- eZ.o];go_upto_region 3 with(first
    | (have _:=FIRST;go_at_call 44;refine(Gn.o _).mono ?_;rintro e w2 ⟨rfl,rfl⟩)
    | (go_at_call 44;refine(uA.o _).mono ?_;rintro e w1 ⟨rfl,rfl⟩;have FIRST:=trivial))
   cases rs with
   | false =>
    have e0:A=1:=Nj.o.eJ xE.o.symm;subst e0;go_wp2_with (go_at_call 45;refine(M8.o _ (Below.refl _ _)).mono ?_;rintro e w1 ⟨rfl,hb1⟩;have bE:=ai hb1;clear hb1)
    go_ret;exact⟨rfl,bR.o.trans (bE.o.mono bR.o.size)⟩
   | true =>
   have hrs:LM.dC k.ak=true:=xE.o.symm;have Jc:=Nh hrs;have FU:=ai hrs;clear hrs Nh;cases hb with
   | false =>
    have e0:A=1:=Nj.o.hand (by rw[<- UI.o];exact of_decide_eq_false R9.o.symm);subst e0;go_wp2_with (first | (go_at_call 45;refine(M8.o _ (Below.refl _ _)).mono ?_;rintro e w1 ⟨rfl,hb1⟩;have bE:=ai hb1;obtain⟨k0,k1,k2,k3,k4⟩:=B.c5 (KB.o _ hb1);clear hb1) | (go_at_call 44;refine(VB.o _).mono ?_;rintro e w2 ⟨rfl,rfl⟩))
    go_ret;exact⟨rfl,bR.o.trans (bE.o.mono bR.o.size)⟩
   | true =>
   have Ng:Hid (0<=k.hand/\k.hand<=(k.frames.length:Int)-1):=(show 0<=k.hand/\k.hand<=(k.frames.length:Int)-1 by rw[<- UI.o];exact of_decide_eq_true R9.o.symm);go_upto_region 5 with(first | (go_at_call 45;refine(M8.o _ (Below.refl _ _)).mono ?_;rintro e w1 ⟨rfl,hb1⟩;have bE:=ai hb1;obtain⟨k0,k1,k2,k3,k4⟩:=B.c5 (KB.o _ hb1);clear hb1) | (go_at_call 44;refine(VB.o _).mono ?_;rintro e w2 ⟨rfl,rfl⟩))
   have MC:Hid (∀i,KM.rV k (i+1)=(KM.rV k i&&KM.iP k.ak nF nL (KM.au k.aj i))):=fun _=>by rw[UI.o,UG.o];exact(rfl:_=_)
   have vq:Hid (∀i,i<nP->KM.iP k.ak nF nL (KM.au k.aj i)=false->A=1):=fun i hi h=>Nj.o.sp i (by have:=xH.o;omega) (by rw[<- UI.o,<- UG.o];exact h)
   clear k0 k1 k2 k3 k4 uA Gn VB M8 R9 xE;go_wp2;go_loopw [3] (fun iv wq=>∃i:Nat,i<=nP/\iv=I (i:Int)/\KM.rV k i=true/\Below WA.heap.size WA wq) (fun iv _=>nP-(intOf iv).toNat)
   case atStart=>exact⟨0,by omega,rfl,rfl,bE.o⟩
   case round =>
    obtain⟨i,hi,rfl,Zu,qU⟩:=hrel;have Gp:=ai Zu;have tj:=ai qU;obtain⟨k0,k1,k2,k3,k4⟩:=B.c5 (KB.o wr qU);by_cases hlt:i<nP
    · have H6:(i:Int)<(nP:Int):=by omega
      obtain⟨pb,po,lv,aa,la,ca,ap,le,cp,hao,hcl,hsf⟩:=Uw.o wr i qU hlt;have HST:=ai (MC.o i);have A3:=ai (vq.o i hlt);obtain⟨bv,Vo⟩:=ex (KM.iP k.ak nF nL (KM.au k.aj i));rw[<- Vo] at hsf HST A3;have j3:=Q.dE wr;rw[hao] at hsf k3 KB;have JH:∀x:Q.ez wr.heap.size wr,x.world.cell? (Ad w.heap.size 0)=some (.slice a.aS nS a.cS):=fun x=>B.cell (KB.o _ (tj.o.trans (x.keeps.mono tj.o.size))) 0 rfl
      have JG:∀x:Q.ez wr.heap.size wr,x.world.cell? (Ad w.heap.size 1)=some (.slice a.aF nF a.cF):=fun x=>B.cell (KB.o _ (tj.o.trans (x.keeps.mono tj.o.size))) 1 rfl
      have MQ:∀x:Q.ez wr.heap.size wr,x.world.cell? (Ad w.heap.size 2)=some (.slice a.aL nL a.cL):=fun x=>B.cell (KB.o _ (tj.o.trans (x.keeps.mono tj.o.size))) 2 rfl
      have JF:∀x:Q.ez wr.heap.size wr,x.world.cell? (Ad w.heap.size 3)=some (.slice (some (Ad pb po)) nP a.cP):=fun x=>B.cell (KB.o _ (tj.o.trans (x.keeps.mono tj.o.size))) 3 rfl
      have kk4:∀x:Q.ez wr.heap.size wr,x.world.cell? (Ad w.heap.size 4)=some (I k.hand):=fun x=>B.cell (KB.o _ (tj.o.trans (x.keeps.mono tj.o.size))) 4 rfl
      have s0:∀x:Q.ez wr.heap.size wr,x.world.cell? (Ad pb (po+i*3))=some (.bool lv):=fun x=>(hcl _ x.keeps).1
      have s1:∀x:Q.ez wr.heap.size wr,x.world.cell? (Ad pb (po+i*3+1))=some (.slice aa la ca):=fun x=>(hcl _ x.keeps).2.1
      have s2:∀x:Q.ez wr.heap.size wr,x.world.cell? (Ad pb (po+i*3+2))=some (.slice ap le cp):=fun x=>(hcl _ x.keeps).2.2
      have iM:=ai hsf;clear hcl hsf Vo Zu qU Uw MC vq Ux RZ Jc MJ Cu;go_upto_region 8 with fail;refine Q.bu (by kernel_rfl) (by kernel_rfl) ?_
      repeat (first | go_big_quiet_step ((go_at_call 46;exact eY _ iM.o)) | quiet_step ((go_at_call 46;exact eY _ iM.o)))
      refine wpQuiet_nil ?_;rintro _ ⟨X,rfl⟩;have lB:=ai (tj.o.trans (X.keeps.mono tj.o.size));clear s0 s1 s2 JH JG MQ JF kk4 j3;cases bv with
      | false =>
       have e0:A=1:=A3.o rfl;subst e0;go_wp2;go_ret;exact⟨rfl,bR.o.trans (lB.o.mono bR.o.size)⟩
      | true =>
       have Jd:Hid (KM.rV k (i+1)=true):=(show KM.rV k (i+1)=true by rw[HST.o,Gp.o];rfl);go_wp2;go_roundw
       case rel=>exact⟨i+1,by omega,by go_num,Jd.o,lB.o⟩
       case measure=>simp[intOf];omega
    · obtain rfl:nP=i:=by omega
      have hsp:KM.rV k k.aj.length=true:=by rw[<- xH.o];exact Zu
      have Xx:=Ux hsp;have UE:=RZ hsp;have aaV:=ai hsp;have Gg:=KW.qE k.aj k.aj.length;have Tt:0<=KM.room k.aj/\KM.room k.aj<=65025*1000000:=by
       have:=xH.o;unfold KM.room;omega
      have HRO:Hid (¬KM.room k.aj<=(nL:Int)->A=1):=fun h=>Nj.o.room (by rw[<- UG.o];exact h)
      have aa1:Hid (KM.room k.aj<=(nL:Int)->KM.room k.aj<=(k.slots.length:Int)):=fun h=>by rw[<- UG.o];exact h
      obtain⟨RM,De⟩:=ex (KM.room k.aj);rw[<- De] at Xx Tt HRO;have aa2:=ai De;have j3:=Q.dE wr;have JH:∀x:Q.ez wr.heap.size wr,x.world.cell? (Ad w.heap.size 0)=some (.slice a.aS nS a.cS):=fun x=>B.cell (KB.o _ (tj.o.trans (x.keeps.mono tj.o.size))) 0 rfl
      have JG:∀x:Q.ez wr.heap.size wr,x.world.cell? (Ad w.heap.size 1)=some (.slice a.aF nF a.cF):=fun x=>B.cell (KB.o _ (tj.o.trans (x.keeps.mono tj.o.size))) 1 rfl
      have MQ:∀x:Q.ez wr.heap.size wr,x.world.cell? (Ad w.heap.size 2)=some (.slice a.aL nL a.cL):=fun x=>B.cell (KB.o _ (tj.o.trans (x.keeps.mono tj.o.size))) 2 rfl
      have JF:∀x:Q.ez wr.heap.size wr,x.world.cell? (Ad w.heap.size 3)=some (.slice a.aP nP a.cP):=fun x=>B.cell (KB.o _ (tj.o.trans (x.keeps.mono tj.o.size))) 3 rfl
      have kk4:∀x:Q.ez wr.heap.size wr,x.world.cell? (Ad w.heap.size 4)=some (I k.hand):=fun x=>B.cell (KB.o _ (tj.o.trans (x.keeps.mono tj.o.size))) 4 rfl
      have HRK:=ai (fun V (hV:Below wr.heap.size wr V)=>Xx.o V (tj.o.trans (hV.mono tj.o.size)));clear hsp Ux RZ Gg De Zu qU Uw MC vq Xx hlt;go_upto_region 10 with fail;refine Q.bu (by kernel_rfl) (by kernel_rfl) ?_
      repeat (first | go_big_quiet_step ((go_at_call 47;exact eY _ HRK.o)) | quiet_step ((go_at_call 47;exact eY _ HRK.o)))
      refine wpQuiet_nil ?_;rintro _ ⟨X,rfl⟩;have lB:=ai (tj.o.trans (X.keeps.mono tj.o.size));clear JH JG MQ JF kk4 j3 HRK k0 k1 k2 k3 k4;by_cases hr:RM<=(nL:Int)
      · have hr2:¬(nL:Int)<RM:=by omega
        have HRY:Hid (KM.room k.aj<=(k.slots.length:Int)):=aa1.o (by rw[<- aa2.o];exact hr);have MI:Hid (∀i:Nat,KM.xy k (i+1)=(KM.xy k i&&KM.B6 k.ak (KM.aH k.frames i) (KM.dJ k.aj 1 i))):=fun _=>rfl
        have FY:Hid (∀i:Nat,i<nF->KM.B6 k.ak (KM.aH k.frames i) (KM.dJ k.aj 1 i)=false->A=1):=fun i hi h=>Nj.o.fr i (by have:=UI.o;omega) h
        clear HRO aa1 hr aa2;go_wp2;go_loopw [4] (fun iv wq=>∃i:Nat,i<=nF/\iv=I (i:Int)/\KM.xy k i=true/\Below WA.heap.size WA wq) (fun iv _=>nF-(intOf iv).toNat)
        case atStart=>exact⟨0,by omega,rfl,rfl,lB.o⟩
        case round =>
         obtain⟨i,hi,rfl,Pv,qU⟩:=hrel;have QM:=ai Pv;have tj:=ai qU;obtain⟨k0,k1,k2,k3,k4⟩:=B.c5 (KB.o wr qU);by_cases hlt:i<nF
         · have H6:(i:Int)<(nF:Int):=by omega
           obtain⟨fb,fo,hfo,z0,z1,z2,z3⟩:=MJ.o wr i qU hlt;have Gp:=ai (MI.o i);have A3:=ai (FY.o i hlt);obtain⟨f,hf⟩:=ex (KM.aH k.frames i);rw[<- hf] at z0 z1 z2 z3 Gp A3;obtain⟨d,rf,dy,sn⟩:=f;simp only at z0 z1 z2 z3;obtain⟨W1,hW1⟩:=ex (wr.alloc (.cells #[.string d,I rf,.bool dy,.bool sn] 40));have hb1:Below wr.heap.size wr W1:=by rw[hW1];exact(Below.refl _ _).alloc (Nat.le_refl _) _
           have Kl:W1.heap[wr.heap.size]?=some (.cells #[.string d,I rf,.bool dy,.bool sn] 40 (0,0)):=by rw[hW1];exact B.new _ _ _
           have Aj:=qU.trans (hb1.mono qU.size);have cQ:=ai Aj;have Kb:=ai Kl;have uA:=ai hW1;obtain⟨nn,np,Oj,q1,q2,q3,q4,nZ,hn0,hsh,hcl⟩:=UE.o W1 1 (i:Int) Aj;rw[nZ] at Gp A3;have I7:=ai hcl;have DV:=ai hsh;rw[hfo] at k1;go_upto_region 16 with fail;rw[<- uA.o];obtain⟨xb,DG⟩:=ex wr.heap.size;rw[<- DG] at Kb ⊢;clear hW1 hb1 Kl Aj Pv qU hf nZ hsh hcl DG k0 k1 k2 k3 k4 z0 z1 z2 z3 hfo;obtain⟨k0,k1,k2,k3,k4⟩:=B.c5 (KB.o W1 cQ.o);go_upto_region 17 with(go_at_call 48;refine I7.o.mono ?_;rintro e w2 ⟨rfl,hb2⟩;have cM:=ai hb2;clear hb2)
           have hb3:Below W1.heap.size W1 (w2.alloc (.cells #[I q1,I q2,I q3,.bool q4] 47)):=cM.o.alloc cM.o.size _;have RV:=ai (B.new w2 #[I q1,I q2,I q3,.bool q4] 47);obtain⟨W3,hW3⟩:=ex (w2.alloc (.cells #[I q1,I q2,I q3,.bool q4] 47));obtain⟨yb,hyb⟩:=ex w2.heap.size;rw[<- hW3] at hb3 RV ⊢;rw[<- hyb] at RV ⊢;have ed:=ai (cQ.o.trans (hb3.mono cQ.o.size));have xC:=ai (B.below Kb.o hb3 (B.isLt Kb.o));clear hW3 hyb hb3 k0 k1 k2 k3 k4;obtain⟨BD,hBD⟩:=ex (!(KM.B6 k.ak ⟨d,rf,dy,sn⟩ ⟨nn,np,Oj,⟨q1,q2,q3,q4⟩⟩));have xV:=ai hBD;have HBN:Hid (KM.B6 k.ak ⟨d,rf,dy,sn⟩ ⟨nn,np,Oj,⟨q1,q2,q3,q4⟩⟩=!BD):=(show KM.B6 k.ak ⟨d,rf,dy,sn⟩ ⟨nn,np,Oj,⟨q1,q2,q3,q4⟩⟩=!BD by rw[hBD,Bool.not_not]);rw[HBN.o] at Gp A3;clear hBD HBN;go_cut [135] (fun c wx=>c=.bool BD/\Below W3.heap.size W3 wx)
           case first =>
            have j3:=Q.dE W3;have JH:∀x:Q.ez W3.heap.size W3,x.world.cell? (Ad w.heap.size 0)=some (.slice a.aS nS a.cS):=fun x=>B.cell (KB.o _ (ed.o.trans (x.keeps.mono ed.o.size))) 0 rfl
            have JG:∀x:Q.ez W3.heap.size W3,x.world.cell? (Ad w.heap.size 1)=some (.slice a.aF nF a.cF):=fun x=>B.cell (KB.o _ (ed.o.trans (x.keeps.mono ed.o.size))) 1 rfl
            have MQ:∀x:Q.ez W3.heap.size W3,x.world.cell? (Ad w.heap.size 2)=some (.slice a.aL nL a.cL):=fun x=>B.cell (KB.o _ (ed.o.trans (x.keeps.mono ed.o.size))) 2 rfl
            have JF:∀x:Q.ez W3.heap.size W3,x.world.cell? (Ad w.heap.size 3)=some (.slice a.aP nP a.cP):=fun x=>B.cell (KB.o _ (ed.o.trans (x.keeps.mono ed.o.size))) 3 rfl
            have kk4:∀x:Q.ez W3.heap.size W3,x.world.cell? (Ad w.heap.size 4)=some (I k.hand):=fun x=>B.cell (KB.o _ (ed.o.trans (x.keeps.mono ed.o.size))) 4 rfl
            have x0:∀x:Q.ez W3.heap.size W3,x.world.cell? (Ad xb 0)=some (.string d):=fun x=>B.cell (B.below xC.o x.keeps (B.isLt xC.o)) 0 rfl
            have x1:∀x:Q.ez W3.heap.size W3,x.world.cell? (Ad xb 1)=some (I rf):=fun x=>B.cell (B.below xC.o x.keeps (B.isLt xC.o)) 1 rfl
            have x2:∀x:Q.ez W3.heap.size W3,x.world.cell? (Ad xb 2)=some (.bool dy):=fun x=>B.cell (B.below xC.o x.keeps (B.isLt xC.o)) 2 rfl
            have x3:∀x:Q.ez W3.heap.size W3,x.world.cell? (Ad xb 3)=some (.bool sn):=fun x=>B.cell (B.below xC.o x.keeps (B.isLt xC.o)) 3 rfl
            have y0:∀x:Q.ez W3.heap.size W3,x.world.cell? (Ad yb 0)=some (I q1):=fun x=>B.cell (B.below RV.o x.keeps (B.isLt RV.o)) 0 rfl
            have y1:∀x:Q.ez W3.heap.size W3,x.world.cell? (Ad yb 1)=some (I q2):=fun x=>B.cell (B.below RV.o x.keeps (B.isLt RV.o)) 1 rfl
            have y2:∀x:Q.ez W3.heap.size W3,x.world.cell? (Ad yb 2)=some (I q3):=fun x=>B.cell (B.below RV.o x.keeps (B.isLt RV.o)) 2 rfl
            have y3:∀x:Q.ez W3.heap.size W3,x.world.cell? (Ad yb 3)=some (.bool q4):=fun x=>B.cell (B.below RV.o x.keeps (B.isLt RV.o)) 3 rfl
            have af8:Hid (∀V,Below W3.heap.size W3 V->nn≠0->Calls Tryz.prog 49 #[.agg #[.slice a.aS nS a.cS,.slice a.aF nF a.cF,.slice a.aL nL a.cL,.slice a.aP nP a.cP,I k.hand],.agg #[I q1,I q2,I q3,.bool q4],I np] V fun e w'=>e=.returned (.string (KM.dY k.ak np q4))/\Below V.heap.size V w'):=fun V hV hne=>Jc.o V q1 q2 q3 q4 np (ed.o.trans (hV.mono ed.o.size)) (DV.o hne)
            clear Gp A3 QM UE Jc MJ Cu MI FY Nj aaV HRY Ng FU UI UG xH;by_cases h1:rf=nn
            · have H1:=ai h1;subst h1;by_cases h2:rf=0
              · subst h2;by_cases h3:d.size=0
                · have h3':d=⟨#[]⟩:=by
                   obtain⟨⟨l⟩⟩:=d;have:l.length=0:=h3;have e:=List.length_eq_zero_iff.1 this;subst e;rfl
                  subst h3';cases dy with
                  | true =>
                   as_aux_lemma =>
                    refine Q.bu (by kernel_rfl) (by kernel_rfl) ?_
                    repeat (first | go_big_quiet_step (fail) | quiet_step (fail))
                    refine wpQuiet_nil ?_;intro _ hw';obtain⟨x,hw''⟩:=hw';subst hw'';go_wp2;go_meet
                    exact⟨by rw[xV.o];simp[KM.B6,KM.uv] <;> rfl,x.keeps⟩
                  | false =>
                   cases sn with
                   | true =>
                    as_aux_lemma =>
                     refine Q.bu (by kernel_rfl) (by kernel_rfl) ?_
                     repeat (first | go_big_quiet_step (fail) | quiet_step (fail))
                     refine wpQuiet_nil ?_;intro _ hw';obtain⟨x,hw''⟩:=hw';subst hw'';go_wp2;go_meet
                     exact⟨by rw[xV.o];simp[KM.B6,KM.uv] <;> rfl,x.keeps⟩
                   | false =>
                    as_aux_lemma =>
                     refine Q.bu (by kernel_rfl) (by kernel_rfl) ?_
                     repeat (first | go_big_quiet_step (fail) | quiet_step (fail))
                     refine wpQuiet_nil ?_;intro _ hw';obtain⟨x,hw''⟩:=hw';subst hw'';go_wp2;go_meet
                     exact⟨by rw[xV.o];simp[KM.B6,KM.uv] <;> rfl,x.keeps⟩
                · have hd:d.toList.isEmpty=false:=by
                   rw[Go.ByteArray.toList_eq];obtain⟨⟨l⟩⟩:=d;cases l with
                   | nil=>exact absurd rfl h3
                   | cons x r=>rfl
                  have hd2:(d.toList==[])=false:=by
                   cases hq:d.toList with
                   | nil=>rw[hq] at hd;cases hd
                   | cons x r=>rfl
                  as_aux_lemma =>
                   refine Q.bu (by kernel_rfl) (by kernel_rfl) ?_
                   repeat (first | go_big_quiet_step (fail) | quiet_step (fail))
                   refine wpQuiet_nil ?_;intro _ hw';obtain⟨x,hw''⟩:=hw';subst hw'';go_wp2;go_meet
                   exact⟨by rw[xV.o];simp[KM.B6,KM.uv,h3],x.keeps⟩
              · have b2:(rf==0)=false:=by simpa using h2
                have wh:0<rf:=by omega
                cases Oj with
                | false =>
                 as_aux_lemma =>
                  refine Q.bu (by kernel_rfl) (by kernel_rfl) ?_
                  repeat (first | go_big_quiet_step (fail) | quiet_step (fail))
                  refine wpQuiet_nil ?_;intro _ hw';obtain⟨x,hw''⟩:=hw';subst hw'';go_wp2;go_meet
                  exact⟨by rw[xV.o];simp[KM.B6,KM.uv,wh],x.keeps⟩
                | true =>
                 by_cases h4:d.size=16
                 · have h4i:((d.size:Int) != 16)=false:=by rw[h4];rfl
                   cases dy with
                   | true =>
                    as_aux_lemma =>
                     refine Q.bu (by kernel_rfl) (by kernel_rfl) ?_
                     repeat (first | go_big_quiet_step (fail) | quiet_step (fail))
                     refine wpQuiet_nil ?_;intro _ hw';obtain⟨x,hw''⟩:=hw';subst hw'';go_wp2;go_meet
                     exact⟨by rw[xV.o];simp[KM.B6,KM.uv,wh,h2,h4],x.keeps⟩
                   | false =>
                    have D3:=ai (fun V hV=>af8.o V hV h2)
                    as_aux_lemma =>
                     refine Q.bu (by kernel_rfl) (by kernel_rfl) ?_
                     repeat (first | go_big_quiet_step ((go_at_call 49;exact eY _ D3.o)) | quiet_step ((go_at_call 49;exact eY _ D3.o)))
                     refine wpQuiet_nil ?_;intro _ hw';obtain⟨x,hw''⟩:=hw';subst hw'';go_wp2;go_meet
                     exact⟨by rw[xV.o];simp[KM.B6,KM.uv,wh,h2,h4,KW.Vv,bne],x.keeps⟩
                 · have h4i:((d.size:Int) != 16)=true:=by rw[bne_iff_ne];omega
                   as_aux_lemma =>
                    refine Q.bu (by kernel_rfl) (by kernel_rfl) ?_
                    repeat (first | go_big_quiet_step (fail) | quiet_step (fail))
                    refine wpQuiet_nil ?_;intro _ hw';obtain⟨x,hw''⟩:=hw';subst hw'';go_wp2;go_meet
                    exact⟨by rw[xV.o];simp[KM.B6,KM.uv,wh,h2,h4],x.keeps⟩
            · have b1:(rf != nn)=true:=by simpa using h1
              as_aux_lemma =>
               refine Q.bu (by kernel_rfl) (by kernel_rfl) ?_
               repeat (first | go_big_quiet_step (fail) | quiet_step (fail))
               refine wpQuiet_nil ?_;intro _ hw';obtain⟨x,hw''⟩:=hw';subst hw'';go_wp2;go_meet
               exact⟨by rw[xV.o];simp[KM.B6,KM.uv,h1],x.keeps⟩
           case rest =>
            obtain⟨rfl,hbc⟩:=hcut;have D6:=ai (ed.o.trans (hbc.mono ed.o.size));cases BD with
            | true =>
             have e0:A=1:=A3.o rfl;subst e0;go_wp2;go_ret;exact⟨rfl,bR.o.trans (D6.o.mono bR.o.size)⟩
            | false =>
             have Jd:Hid (KM.xy k (i+1)=true):=(show KM.xy k (i+1)=true by rw[Gp.o,QM.o];rfl);go_wp2;go_roundw
             case rel=>exact⟨i+1,by omega,by go_num,Jd.o,D6.o⟩
             case measure=>simp[intOf];omega
         · obtain rfl:nF=i:=by omega
           have af4:Hid (KM.xy k k.frames.length=true):=(show KM.xy k k.frames.length=true by rw[<- UI.o];exact Pv);have abo:Hid (∀i:Nat,KM.xd k (i+1)=(KM.xd k i&&KM.Ge (KM.bj k.slots i) (KM.dJ k.aj 2 i))):=fun _=>rfl
           have DA:Hid (∀i:Nat,i<nL->KM.Ge (KM.bj k.slots i) (KM.dJ k.aj 2 i)=false->A=1):=fun i hi h=>Nj.o.sl i (by have:=UG.o;omega) h
           clear MI FY MJ Jc Pv qU hlt;go_wp2;go_loopw [10] (fun iv wq=>∃i:Nat,i<=nL/\iv=I (i:Int)/\KM.xd k i=true/\Below WA.heap.size WA wq) (fun iv _=>nL-(intOf iv).toNat)
           case atStart=>exact⟨0,by omega,rfl,rfl,tj.o⟩
           case round =>
            obtain⟨i,hi,rfl,Pv,qU⟩:=hrel;have QM:=ai Pv;have agj:=ai qU;obtain⟨k0,k1,k2,k3,k4⟩:=B.c5 (KB.o wr qU);by_cases hlt:i<nL
            · have H6:(i:Int)<(nL:Int):=by omega
              obtain⟨fb,fo,hfo,z0,z1⟩:=Cu.o wr i qU hlt;have Gp:=ai (abo.o i);have A3:=ai (DA.o i hlt);obtain⟨f,hf⟩:=ex (KM.bj k.slots i);rw[<- hf] at z0 z1 Gp A3;obtain⟨d,rf⟩:=f;simp only at z0 z1;obtain⟨W1,hW1⟩:=ex (wr.alloc (.cells #[.string d,I rf] 86));have hb1:Below wr.heap.size wr W1:=by rw[hW1];exact(Below.refl _ _).alloc (Nat.le_refl _) _
              have Kl:W1.heap[wr.heap.size]?=some (.cells #[.string d,I rf] 86 (0,0)):=by rw[hW1];exact B.new _ _ _
              have Aj:=qU.trans (hb1.mono qU.size);have cQ:=ai Aj;have Kb:=ai Kl;have uA:=ai hW1;obtain⟨nn,np,Oj,q1,q2,q3,q4,nZ,hn0,_,hcl⟩:=UE.o W1 2 (i:Int) Aj;rw[nZ] at Gp A3;have I7:=ai hcl;rw[hfo] at k2;go_upto_region 23 with fail;rw[<- uA.o];obtain⟨xb,DG⟩:=ex wr.heap.size;rw[<- DG] at Kb ⊢;clear hW1 hb1 Kl Aj Pv qU hf nZ hcl DG k0 k1 k2 k3 k4 z0 z1 hfo;obtain⟨k0,k1,k2,k3,k4⟩:=B.c5 (KB.o W1 cQ.o);go_upto_region 24 with(go_at_call 48;refine I7.o.mono ?_;rintro e w2 ⟨rfl,hb2⟩;have cM:=ai hb2;clear hb2)
              have hb3:Below W1.heap.size W1 (w2.alloc (.cells #[I q1,I q2,I q3,.bool q4] 47)):=cM.o.alloc cM.o.size _;obtain⟨W3,hW3⟩:=ex (w2.alloc (.cells #[I q1,I q2,I q3,.bool q4] 47));rw[<- hW3] at hb3 ⊢;have ed:=ai (cQ.o.trans (hb3.mono cQ.o.size));obtain⟨x0,x1⟩:=B.c2 (B.below Kb.o hb3 (B.isLt Kb.o));have m6:Hid (KM.Ge ⟨d,rf⟩ ⟨nn,np,Oj,⟨q1,q2,q3,q4⟩⟩=KM.Ge ⟨d,rf⟩ ⟨nn,np,Oj,⟨q1,q2,q3,q4⟩⟩):=rfl;clear hW3 hb3 k0 k1 k2 k3 k4 UE Cu abo DA I7 Kb cM;by_cases h1:rf=nn
              · subst h1;by_cases h2:rf=0
                · subst h2;by_cases h3:d.size=0
                  · have h3':d=⟨#[]⟩:=by
                     obtain⟨⟨l⟩⟩:=d;have:l.length=0:=h3;have e:=List.length_eq_zero_iff.1 this;subst e;rfl
                    subst h3';have Jd:Hid (KM.xd k (i+1)=true):=(show KM.xd k (i+1)=true by rw[Gp.o,QM.o,m6.o];simp[KM.Ge,KM.oI] <;> rfl);go_wp2;go_roundw
                    case rel=>exact⟨i+1,by omega,by go_num,Jd.o,ed.o⟩
                    case measure=>simp[intOf];omega
                  · have hd:d.toList.isEmpty=false:=by
                     rw[Go.ByteArray.toList_eq];obtain⟨⟨l⟩⟩:=d;cases l with
                     | nil=>exact absurd rfl h3
                     | cons x r=>rfl
                    have hd2:(d.toList==[])=false:=by
                     cases hq:d.toList with
                     | nil=>rw[hq] at hd;cases hd
                     | cons x r=>rfl
                    have e0:=A3.o (by rw[m6.o];simp[KM.Ge,KM.oI,h3]);subst e0;go_wp2;go_ret;exact⟨rfl,bR.o.trans (ed.o.mono bR.o.size)⟩
                · have b2:(rf==0)=false:=by simpa using h2
                  have wh:0<rf:=by omega
                  cases Oj with
                  | false =>
                   have e0:=A3.o (by rw[m6.o];simp[KM.Ge,KM.oI,wh]);subst e0;go_wp2;go_ret;exact⟨rfl,bR.o.trans (ed.o.mono bR.o.size)⟩
                  | true =>
                   by_cases h4:d.size=16
                   · have h4i:((d.size:Int) != 16)=false:=by rw[h4];rfl
                     have Jd:Hid (KM.xd k (i+1)=true):=(show KM.xd k (i+1)=true by rw[Gp.o,QM.o,m6.o];simp[KM.Ge,KM.oI,wh,h2,h4]);go_wp2;go_roundw
                     case rel=>exact⟨i+1,by omega,by go_num,Jd.o,ed.o⟩
                     case measure=>simp[intOf];omega
                   · have h4i:((d.size:Int) != 16)=true:=by rw[bne_iff_ne];omega
                     have e0:=A3.o (by rw[m6.o];simp[KM.Ge,KM.oI,wh,h2,h4]);subst e0;go_wp2;go_ret;exact⟨rfl,bR.o.trans (ed.o.mono bR.o.size)⟩
              · have b1:(rf != nn)=true:=by simpa using h1
                have e0:=A3.o (by rw[m6.o];simp[KM.Ge,KM.oI,h1]);subst e0;go_wp2;go_ret;exact⟨rfl,bR.o.trans (ed.o.mono bR.o.size)⟩
            · obtain rfl:nL=i:=by omega
              have e0:A=0:=Nj.o.yes FU.o Ng.o aaV.o HRY.o af4.o (by rw[<- UG.o];exact Pv);subst e0;go_wp2;go_ret;exact⟨rfl,bR.o.trans (agj.o.mono bR.o.size)⟩
      · have hr2:(nL:Int)<RM:=by omega
        have e0:A=1:=HRO.o hr;subst e0;go_wp2;go_ret;exact⟨rfl,bR.o.trans (lB.o.mono bR.o.size)⟩
 · have DN:KM.ki k=2:=by
    unfold KM.ki;rw[if_pos (by simpa using hcn)]
   rw[DN];have H9:¬((3<=nF/\nF<=64)/\nL<=512/\(1<=nP/\nP<=4)/\nS<=255):=by rw[RI,hnF,Ph,AJ];exact fun g=>hcn (decide_eq_true g)
   obtain⟨k0,k1,k2,k3,k4⟩:=B.c5 (KB.o WA (Below.refl _ _));have uA:=ai (fun V=>AY.o (nF:Int) 3 64 V);have Gn:=ai (fun V=>AY.o (nP:Int) 1 4 V);rcases(show ¬(3<=(nF:Int)/\(nF:Int)<=64)∨((3<=(nF:Int)/\(nF:Int)<=64)/\512<(nL:Int))∨((3<=(nF:Int)/\(nF:Int)<=64)/\¬512<(nL:Int)/\¬(1<=(nP:Int)/\(nP:Int)<=4))∨((3<=(nF:Int)/\(nF:Int)<=64)/\¬512<(nL:Int)/\(1<=(nP:Int)/\(nP:Int)<=4)/\255<(nS:Int)) by omega) with g | ⟨g,g1⟩ | ⟨g,g1,g2⟩ | ⟨g,g1,g2,g3⟩
   · rw[decide_eq_false g] at uA;clear hK hF hb0 kb di qT ek hcn DN H9 AY RI hnF Ph AJ M8;go_enter Tryz.func14,Tryz.ntmps14;go_upto_region 1 with fail;rw[<- eZ.o];go_wp2_with (first
      | (have _:=FIRST;go_at_call 44;refine(Gn.o _).mono ?_;rintro e w2 ⟨rfl,rfl⟩)
      | (go_at_call 44;refine(uA.o _).mono ?_;rintro e w1 ⟨rfl,rfl⟩;have FIRST:=trivial))
     go_ret;exact⟨rfl,bR.o⟩
   · rw[decide_eq_true g] at uA;clear hK hF hb0 kb di qT ek hcn DN H9 AY RI hnF Ph AJ M8;go_enter Tryz.func14,Tryz.ntmps14;go_upto_region 1 with fail;rw[<- eZ.o];go_wp2_with (first
      | (have _:=FIRST;go_at_call 44;refine(Gn.o _).mono ?_;rintro e w2 ⟨rfl,rfl⟩)
      | (go_at_call 44;refine(uA.o _).mono ?_;rintro e w1 ⟨rfl,rfl⟩;have FIRST:=trivial))
     go_ret;exact⟨rfl,bR.o⟩
   · rw[decide_eq_true g] at uA;rw[decide_eq_false g2] at Gn;clear hK hF hb0 kb di qT ek hcn DN H9 AY RI hnF Ph AJ M8;go_enter Tryz.func14,Tryz.ntmps14;go_upto_region 1 with fail;rw[<- eZ.o];go_wp2_with (first
      | (have _:=FIRST;go_at_call 44;refine(Gn.o _).mono ?_;rintro e w2 ⟨rfl,rfl⟩)
      | (go_at_call 44;refine(uA.o _).mono ?_;rintro e w1 ⟨rfl,rfl⟩;have FIRST:=trivial))
     go_ret;exact⟨rfl,bR.o⟩
   · rw[decide_eq_true g] at uA;rw[decide_eq_true g2] at Gn;clear hK hF hb0 kb di qT ek hcn DN H9 AY RI hnF Ph AJ M8;go_enter Tryz.func14,Tryz.ntmps14;go_upto_region 1 with fail;rw[<- eZ.o];go_wp2_with (first
      | (have _:=FIRST;go_at_call 44;refine(Gn.o _).mono ?_;rintro e w2 ⟨rfl,rfl⟩)
      | (go_at_call 44;refine(uA.o _).mono ?_;rintro e w1 ⟨rfl,rfl⟩;have FIRST:=trivial))
     go_ret;exact⟨rfl,bR.o⟩
end KR
namespace KR
open Go.RowKit GK
open FW (ai aD)
open KW (aZ fh cK aI eB l8 kj aK eY bJ bI cu)
open KY (dQ)
theorem ES (k:KM.Kn) (a:fh) (sp:Int) (w:World) (hK:cK w a k) (hF:eB k) (hsp:M.gu sp) :
  Calls Tryz.prog 56 #[.agg (aI a k),I sp] w fun e w'=>e=.returned (I (cu k sp))/\Below w.heap.size w w':=by
 obtain⟨WA,di⟩:=ex (w.alloc (.cells (aI a k) 27));have hb0:Below w.heap.size w WA:=by rw[di];exact(Below.refl _ _).alloc (Nat.le_refl _) _
 have kb:WA.heap[w.heap.size]?=some (.cells (aI a k) 27 (0,0)):=by rw[di];exact B.new w _ _
 have KB:Hid (∀V,Below WA.heap.size WA V->V.heap[w.heap.size]?=some (.cells #[.slice a.aS k.ak.length a.cS,.slice a.aF k.frames.length a.cF,.slice a.aL k.slots.length a.cL,.slice a.aP k.aj.length a.cP,I k.hand] 27 (0,0))):=fun V hb=>B.below kb hb (B.isLt kb)
 obtain⟨k0,k1,k2,k3,k4⟩:=B.c5 (KB.o WA (Below.refl _ _));have eZ:=ai di;have bR:=ai hb0;have uB:Hid (Calls Tryz.prog 14 #[.agg (aI a k)] WA fun e w'=>e=.returned (I (KM.dR k))/\Below WA.heap.size WA w'):=by
  have:=gV k a WA (hK.below hb0) hF;rw[KM.kQ] at this;exact this
 have rH:k.aj.length<=140737488351232:=hF.np;have AY:=ai (fun V=>AW.eI sp 0 ((k.aj.length:Int)-1) V);have wW:Hid (∀V i,Below WA.heap.size WA V->i<k.aj.length->∃pb po,a.aP=some (Ad pb po)/\V.cell? (Ad pb (po+i*3))=some (.bool (KM.au k.aj i).live)):=fun V i hV hi=>by
  obtain⟨pb,po,e1,e2,e3⟩:=(hK.aj.below (hb0.trans (hV.mono hb0.size))) (by omega);obtain⟨va,ap,cp,c0,_⟩:=e3 i hi;exact⟨pb,po,e1,c0⟩
 unfold KW.cu;obtain⟨C,hC⟩:=ex (KM.dR k);rw[<- hC] at uB ⊢;unfold aI at uB eZ ⊢;clear hK hF hb0 kb di hC;by_cases c:C=0
 · rw[if_pos c];subst c;by_cases d:0<=sp/\sp<=(k.aj.length:Int)-1
   · rw[decide_eq_true d] at AY;obtain⟨j,rfl⟩:∃j:Nat,sp=(j:Int):=⟨sp.toNat,by omega⟩;rw[Int.toNat_natCast];have hj:j<k.aj.length:=by omega
     have DJ:(j:Int)<(k.aj.length:Int):=by omega
     obtain⟨lv,hlv⟩:=ex ((KM.au k.aj j).live);have HSJ:Hid (∀V,Below WA.heap.size WA V->∃pb po,a.aP=some (Ad pb po)/\V.cell? (Ad pb (po+j*3))=some (.bool lv)):=fun V hV=>by rw[hlv];exact wW.o V j hV hj
     rw[<- hlv];have HJJ:=ai hj;have HLI:=ai DJ;clear hlv wW d hj hsp;have hif:(if 0<=(j:Int)/\(j:Int)<(k.aj.length:Int)/\lv=true then (0:Int) else 6)=if lv then 0 else 6:=by
      cases lv <;> simp;omega
     rw[hif];clear hif DJ;go_enter Tryz.func56,Tryz.ntmps56;go_upto_region 1 with fail;rw[<- eZ.o];go_upto_region 2 with(go_at_call 14;refine uB.o.mono ?_;rintro e w1 ⟨rfl,hb1⟩;have bE:=ai hb1;obtain⟨pb,po,hao,c0⟩:=HSJ.o _ hb1;have hq:=KB.o _ hb1;rw[hao] at hq;obtain⟨k0,k1,k2,k3,k4⟩:=B.c5 hq;clear hb1 hq)
     have DJ:=HLI.o;have hjj:=HJJ.o;clear hao;cases lv with
     | true =>
      go_wp2_with (go_at_call 44;refine(AY.o _).mono ?_;rintro e w2 ⟨rfl,rfl⟩)
      go_ret;exact⟨rfl,bR.o.trans (bE.o.mono bR.o.size)⟩
     | false =>
      go_wp2_with (go_at_call 44;refine(AY.o _).mono ?_;rintro e w2 ⟨rfl,rfl⟩)
      go_ret;exact⟨rfl,bR.o.trans (bE.o.mono bR.o.size)⟩
   · rw[decide_eq_false d] at AY;rw[if_neg (fun g=>d ⟨g.1,by omega⟩)];clear wW d;go_enter Tryz.func56,Tryz.ntmps56;go_upto_region 1 with fail;rw[<- eZ.o];go_wp2_with (first | (go_at_call 14;refine uB.o.mono ?_;rintro e w1 ⟨rfl,hb1⟩;have bE:=ai hb1;obtain⟨k0,k1,k2,k3,k4⟩:=B.c5 (KB.o _ hb1);clear hb1) | (go_at_call 44;refine(AY.o _).mono ?_;rintro e w2 ⟨rfl,rfl⟩))
     go_ret;exact⟨rfl,bR.o.trans (bE.o.mono bR.o.size)⟩
 · rw[if_neg c];have cb:(C==0)=false:=by simpa using c
   clear wW AY;go_enter Tryz.func56,Tryz.ntmps56;go_upto_region 1 with fail;rw[<- eZ.o];go_wp2_with (go_at_call 14;refine uB.o.mono ?_;rintro e w1 ⟨rfl,hb1⟩;have bE:=ai hb1;clear hb1)
   go_ret;exact⟨rfl,bR.o.trans (bE.o.mono bR.o.size)⟩
end KR
namespace KR
open Go.RowKit GK
open FW (ai aD)
open KW (aZ fh cK aI eB l8 kj aK eY bJ bI cu)
end KR
namespace LW
open Go.RowKit
open W (ai)
end LW
namespace KR
open Go.RowKit GK KO
open FW (ai aD)
open KW (fh cK aI eB)
open KY (vh)
open KZ (He Hd zf zl mkF mkL Dd uO n1 n2 lI gK)
end KR
end Go.Proofs.YtpgifpeohlllfaaGreat
