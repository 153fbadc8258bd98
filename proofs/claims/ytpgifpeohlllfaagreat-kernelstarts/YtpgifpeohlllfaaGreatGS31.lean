import Derived.Test.YtpgifpeohlllfaaGreatGS00
import Derived.Test.YtpgifpeohlllfaaGreatGS29
import Derived.Test.YtpgifpeohlllfaaGreatGS30
import Derived.Test.YtpgifpeohlllfaaGreatGS13
import Derived.Test.YtpgifpeohlllfaaGreatGS11
import Derived.Test.YtpgifpeohlllfaaGreatGS27
set_option maxHeartbeats 20000000
set_option linter.unusedVariables false
set_option maxRecDepth 100000
set_option linter.unusedSimpArgs false
namespace Go.Proofs.YtpgifpeohlllfaaGreat
namespace KR
open Go.RowKit GK
open FW (ai aB)
open KW (aZ fu cI aJ eW lI jY aK fW bE bD)
structure Ans (k:KM.Kn) (A:Int):Prop where
 eN:LM.cV k.ak=false->A=1
 hand:¬(0<=k.hand/\k.hand<=(k.frames.length:Int)-1)->A=1
 sp:∀i,i<k.aj.length->KM.iJ k.ak k.frames.length k.slots.length (KM.au k.aj i)=false->A=1
 room:¬KM.room k.aj<=(k.slots.length:Int)->A=1
 fr:∀i,i<k.frames.length->KM.Bg k.ak (KM.aI k.frames i) (KM.dG k.aj 1 i)=false->A=1
 sl:∀i,i<k.slots.length->KM.Fy (KM.bG k.slots i) (KM.dG k.aj 2 i)=false->A=1
 yes:LM.cV k.ak=true->(0<=k.hand/\k.hand<=(k.frames.length:Int)-1)->KM.rH k k.aj.length=true->KM.room k.aj<=(k.slots.length:Int)->KM.wN k k.frames.length=true->KM.wu k k.slots.length=true->A=0
theorem VB {k:KM.Kn} (hc:KM.counts k=true):Ans k (KM.iU k):=by
 have e:KM.iU k=if KM.m7 k then 0 else 1:=by
  unfold KM.iU
  rw[if_neg (by rw[hc];decide)]
 have no:KM.m7 k=false->KM.iU k=1:=fun h=>by rw[e,h];rfl
 refine⟨fun h=>no ?_,fun h=>no ?_,fun i hi h=>no ?_,fun h=>no ?_,fun i hi h=>no ?_,fun i hi h=>no ?_,fun h1 h2 h3 h4 h5 h6=>?_⟩
 · unfold KM.m7;rw[h,Bool.false_and]
 · unfold KM.m7;rw[decide_eq_false h,Bool.false_and,Bool.and_false]
 · unfold KM.m7
   rw[nM (f:=fun n=>KM.iJ k.ak k.frames.length k.slots.length (KM.au k.aj n)) (g:=KM.rH k) (fun _=>rfl) _ i hi h]
   simp
 · unfold KM.m7;rw[decide_eq_false h];simp
 · unfold KM.m7
   rw[nM (f:=fun n:Nat=>KM.Bg k.ak (KM.aI k.frames n) (KM.dG k.aj 1 n)) (g:=KM.wN k) (fun _=>rfl) _ i hi h]
   simp
 · unfold KM.m7
   rw[nM (f:=fun n:Nat=>KM.Fy (KM.bG k.slots n) (KM.dG k.aj 2 n)) (g:=KM.wu k) (fun _=>rfl) _ i hi h]
   simp
 · rw[e]
   unfold KM.m7
   rw[h1,decide_eq_true h2,h3,decide_eq_true h4,h5,h6]
   rfl
structure Fnd (k:KM.Kn):Prop where
 check:∀i,i<k.aj.length->AM.aR (KM.au k.aj i).aD=0
 few:∀i,i<k.aj.length->(KM.au k.aj i).aA.length<=65025
 Xx:∀kd i,(KM.dG k.aj kd i).n≠0->(KM.dG k.aj kd i).qa.zero=false->(KM.bU k.ak (KM.dG k.aj kd i).page).isSome=true
 pos:∀kd i,0<=(KM.dG k.aj kd i).n
theorem OV {k:KM.Kn} (h:KM.rH k k.aj.length=true):Fnd k:=by
 have all:∀i,i<k.aj.length->KM.Mc k.ak k.frames.length k.slots.length (KM.au k.aj i):=fun i hi=>KM.Cb.1 ((KM.rG (f:=fun n=>KM.iJ k.ak k.frames.length k.slots.length (KM.au k.aj n)) (g:=KM.rH k) rfl (fun _=>rfl) _).1 h i hi)
 refine⟨fun i hi=>(all i hi).aD,fun i hi=>?_,fun kd i hn hz=>?_,fun kd i=>?_⟩
 · have h1:=KM.mC (all i hi)
   have h2:=KW.iY (KM.au k.aj i).aD
   omega
 · have N:=KM.uv k.aj kd i
   have hne:KM.names k.aj kd i≠[]:=fun e=>hn (by rw[N.n,e];rfl)
   obtain⟨s,hs,e,he,_,_,hx⟩:=KM.iL.1 (N.last hne)
   obtain⟨j,hj,ej⟩:=KM.eZ KM.Fw hs
   have ej:KM.au k.aj j=s:=ej
   have hS:=all j hj
   rw[ej] at hS
   injection hx with p1 p2
   rw[p1]
   exact hS.ak e.page (hS.vW e he).1 (by rw[<- p2];exact hz)
 · rw[(KM.uv k.aj kd i).n]
   omega
theorem fK (k:KM.Kn) (a:fu) (w:World) (hK:cI w a k) (hF:eW k) :
  Calls Tryz.prog 14 #[.agg (aJ a k)] w fun e w'=>e=.returned (I (KM.iU k))/\Below w.heap.size w w':=by
 obtain⟨nS,PZ⟩:=ex k.ak.length
 obtain⟨nF,hnF⟩:=ex k.frames.length
 obtain⟨nL,Od⟩:=ex k.slots.length
 obtain⟨nP,K6⟩:=ex k.aj.length
 obtain⟨WA,dK⟩:=ex (w.alloc (.cells #[.slice a.aS nS a.cS,.slice a.aF nF a.cF,.slice a.aL nL a.cL,.slice a.aP nP a.cP,I k.hand] 27))
 have hb0:Below w.heap.size w WA:=by rw[dK];exact(Below.refl _ _).alloc (Nat.le_refl _) _
 have kb:WA.heap[w.heap.size]?=some (.cells #[.slice a.aS nS a.cS,.slice a.aF nF a.cF,.slice a.aL nL a.cL,.slice a.aP nP a.cP,I k.hand] 27 (0,0)):=by rw[dK];exact B.new w _ _
 have KB:Hid (∀V,Below WA.heap.size WA V->V.heap[w.heap.size]?=some (.cells #[.slice a.aS nS a.cS,.slice a.aF nF a.cF,.slice a.aL nL a.cL,.slice a.aP nP a.cP,I k.hand] 27 (0,0))):=fun V hb=>B.below kb hb (B.isLt kb)
 have qz:aJ a k=#[.slice a.aS nS a.cS,.slice a.aF nF a.cF,.slice a.aL nL a.cL,.slice a.aP nP a.cP,I k.hand]:=by unfold aJ;rw[<- PZ,<- hnF,<- Od,<- K6]
 have zB:=ai AW.eG
 have eK:∀{V:World},Below WA.heap.size WA V->Below w.heap.size w V:=fun hV=>hb0.trans (hV.mono hb0.size)
 have Ig:Hid (∀V,Below WA.heap.size WA V->Calls Tryz.prog 45 #[.slice a.aS nS a.cS] V fun e w'=>e=.returned (.bool (LM.cV k.ak))/\Below V.heap.size V w'):=fun V hV=>by rw[PZ];exact LW.pM k.ak a.aS a.cS V (hK.ak.below (eK hV)) hF.ak
 have gp:=ai dK
 have bW:=ai hb0
 rw[qz]
 have hsS:nS<=140737488351232:=by rw[PZ];exact hF.ak.1
 have hsF:nF<=140737488351232:=by rw[hnF];exact hF.nf
 have hsL:nL<=140737488351232:=by rw[Od];exact hF.ns
 have hsP:nP<=140737488351232:=by rw[K6];exact hF.np
 by_cases hcn:KM.counts k=true
 · have Mp:=ai (VB hcn)
   have Hc:(3<=nF/\nF<=64)/\nL<=512/\(1<=nP/\nP<=4)/\nS<=255:=by rw[PZ,hnF,Od,K6];exact of_decide_eq_true hcn
   obtain⟨⟨hF3,ai2⟩,hL5,⟨hP1,hP4⟩,hS2⟩:=Hc
   obtain⟨A,hA⟩:=ex (KM.iU k)
   rw[<- hA] at Mp ⊢
   have SN:Hid (∀V i,Below WA.heap.size WA V->i<nP->∃pb po lv aa la ca ap le cp,a.aP=some (Ad pb po)/\(∀U,Below V.heap.size V U->U.cell? (Ad pb (po+i*3))=some (.bool lv)/\U.cell? (Ad pb (po+i*3+1))=some (.slice aa la ca)/\U.cell? (Ad pb (po+i*3+2))=some (.slice ap le cp))/\∀U,Below V.heap.size V U->Calls Tryz.prog 46 #[.agg #[.slice a.aS nS a.cS,.slice a.aF nF a.cF,.slice a.aL nL a.cL,.slice a.aP nP a.cP,I k.hand],.agg #[.bool lv,.slice aa la ca,.slice ap le cp]] U fun e w'=>e=.returned (.bool (KM.iJ k.ak k.frames.length k.slots.length (KM.au k.aj i)))/\Below U.heap.size U w'):=fun V i hV hi=>by
    obtain⟨pb,po,e1,e2,e3⟩:=(hK.aj.below (eK hV)) (by omega)
    obtain⟨va,ap,cp,c0,c1,c2,c3,c4,_⟩:=e3 i (by omega)
    have Zi:=c3
    obtain⟨aa,ca,rfl,_⟩:=c3
    refine⟨pb,po,_,aa,_,ca,ap,_,cp,e1,fun U hU=>⟨(hU.cell (p:=(Ad pb (po+i*3))) e2).trans c0,(hU.cell (p:=(Ad pb (po+i*3+1))) e2).trans c1,(hU.cell (p:=(Ad pb (po+i*3+2))) e2).trans c2⟩,fun U hU=>?_⟩
    have hf:=hF.sp i (by omega)
    have:=zP k a (KM.au k.aj i) aa ap ca cp U (Zi.below hU) hf.aD (c4.below hU) hf.aA (hK.ak.below ((eK hV).trans (hU.mono (eK hV).size))) hF.ak (by omega) (by omega)
    rw[qz] at this
    exact this
   have HRM:KM.rH k k.aj.length=true->Hid (∀V,Below WA.heap.size WA V->Calls Tryz.prog 47 #[.agg #[.slice a.aS nS a.cS,.slice a.aF nF a.cF,.slice a.aL nL a.cL,.slice a.aP nP a.cP,I k.hand]] V fun e w'=>e=.returned (I (KM.room k.aj))/\Below V.heap.size V w'):=fun hs V hV=>by
    have:=MV k a V (hK.aj.below (eK hV)) (OV hs).check (by omega)
    rw[qz] at this
    exact this
   have Qf:KM.rH k k.aj.length=true->Hid (∀V kd i,Below WA.heap.size WA V->∃nn np Nr q1 q2 q3 q4,KM.dG k.aj kd i=⟨nn,np,Nr,⟨q1,q2,q3,q4⟩⟩/\0<=nn/\(nn≠0->q4=false->(KM.bU k.ak np).isSome=true)/\Calls Tryz.prog 48 #[.agg #[.slice a.aS nS a.cS,.slice a.aF nF a.cF,.slice a.aL nL a.cL,.slice a.aP nP a.cP,I k.hand],I kd,I i] V fun e w'=>e=.returned (.tuple #[I nn,I np,.bool Nr,.agg #[I q1,I q2,I q3,.bool q4]])/\Below V.heap.size V w'):=fun hs V kd i hV=>by
    have f:=OV hs
    have h1:=GA k a kd i V (hK.aj.below (eK hV)) f.check (by omega) f.few
    have h2:=f.Xx kd i
    have h3:=f.pos kd i
    rw[qz] at h1
    exact⟨_,_,_,_,_,_,_,rfl,h3,h2,h1⟩
   have Ml:LM.cV k.ak=true->Hid (∀V q1 q2 q3 q4 p,Below WA.heap.size WA V->(q4=false->(KM.bU k.ak p).isSome=true)->Calls Tryz.prog 49 #[.agg #[.slice a.aS nS a.cS,.slice a.aF nF a.cF,.slice a.aL nL a.cL,.slice a.aP nP a.cP,I k.hand],.agg #[I q1,I q2,I q3,.bool q4],I p] V fun e w'=>e=.returned (.string (KM.dY k.ak p q4))/\Below V.heap.size V w'):=fun hr V q1 q2 q3 q4 p hV hz=>by
    have:=ES k a q1 q2 q3 q4 p V (hK.ak.below (eK hV)) hF.ak hr hz
    rw[qz] at this
    exact this
   have LY:Hid (∀V i,Below WA.heap.size WA V->i<nF->∃fb fo,a.aF=some (Ad fb fo)/\V.cell? (Ad fb (fo+i*4))=some (.string (KM.aI k.frames i).data)/\V.cell? (Ad fb (fo+i*4+1))=some (I (KM.aI k.frames i).refs)/\V.cell? (Ad fb (fo+i*4+2))=some (.bool (KM.aI k.frames i).b9)/\V.cell? (Ad fb (fo+i*4+3))=some (.bool (KM.aI k.frames i).seen)):=fun V i hV hi=>by
    obtain⟨fb,fo,e1,e2,e3⟩:=(hK.frames.below (eK hV)) (by omega)
    have z:=e3 i (by omega) 0 (by omega)
    rw[Nat.add_zero] at z
    exact⟨fb,fo,e1,z,e3 i (by omega) 1 (by omega),e3 i (by omega) 2 (by omega),e3 i (by omega) 3 (by omega)⟩
   have BB:Hid (∀V i,Below WA.heap.size WA V->i<nL->∃fb fo,a.aL=some (Ad fb fo)/\V.cell? (Ad fb (fo+i*2))=some (.string (KM.bG k.slots i).data)/\V.cell? (Ad fb (fo+i*2+1))=some (I (KM.bG k.slots i).refs)):=fun V i hV hi=>by
    obtain⟨fb,fo,e1,e2,e3⟩:=(hK.slots.below (eK hV)) (by omega)
    have z:=e3 i (by omega) 0 (by omega)
    rw[Nat.add_zero] at z
    exact⟨fb,fo,e1,z,e3 i (by omega) 1 (by omega)⟩
   have S4:=ai hnF
   have SZ:=ai Od
   have Dq:=ai K6
   rw[<- hnF,<- Od] at SN
   obtain⟨k0,k1,k2,k3,k4⟩:=B.c5 (KB.o WA (Below.refl _ _))
   have tY:Hid (∀V,Calls Tryz.prog 44 #[I (nF:Int),I 3,I 64] V fun e w'=>e=.returned (.bool true)/\V=w'):=fun V=>by
    have:=zB.o (nF:Int) 3 64 V
    rw[decide_eq_true (by omega)] at this
    exact this
   have FH:Hid (∀V,Calls Tryz.prog 44 #[I (nP:Int),I 1,I 4] V fun e w'=>e=.returned (.bool true)/\V=w'):=fun V=>by
    have:=zB.o (nP:Int) 1 4 V
    rw[decide_eq_true (by omega)] at this
    exact this
   have T5:=ai (fun V=>zB.o k.hand 0 ((nF:Int)-1) V)
   obtain⟨hb,hhb⟩:=ex (decide (0<=k.hand/\k.hand<=(nF:Int)-1))
   rw[<- hhb] at T5
   have Qm:=ai hhb
   obtain⟨rs,hrs⟩:=ex (LM.cV k.ak)
   rw[<- hrs] at Ig
   have wU:=ai hrs
   clear hK hF hb0 kb dK qz eK hcn hA hhb hrs zB PZ hnF Od K6
   go_enter Tryz.func14,Tryz.ntmps14
   go_upto_region 1 with fail
   rw[<- gp.o]
   go_upto_region 3 with(first
    | (have _:=FIRST;go_at_call 44;refine(FH.o _).mono ?_;rintro e w2 ⟨rfl,rfl⟩)
    | (go_at_call 44;refine(tY.o _).mono ?_;rintro e w1 ⟨rfl,rfl⟩;have FIRST:=trivial))
   cases rs with
   | false =>
    have e0:A=1:=Mp.o.eN wU.o.symm
    subst e0
    go_wp2_with (go_at_call 45;refine(Ig.o _ (Below.refl _ _)).mono ?_;rintro e w1 ⟨rfl,hb1⟩;have bI:=ai hb1;clear hb1)
    go_ret
    exact⟨rfl,bW.o.trans (bI.o.mono bW.o.size)⟩
   | true =>
   have hrs:LM.cV k.ak=true:=wU.o.symm
   have Ip:=Ml hrs
   have Fj:=ai hrs
   clear hrs Ml
   cases hb with
   | false =>
    have e0:A=1:=Mp.o.hand (by rw[<- S4.o];exact of_decide_eq_false Qm.o.symm)
    subst e0
    go_wp2_with (first | (go_at_call 45;refine(Ig.o _ (Below.refl _ _)).mono ?_;rintro e w1 ⟨rfl,hb1⟩;have bI:=ai hb1;obtain⟨k0,k1,k2,k3,k4⟩:=B.c5 (KB.o _ hb1);clear hb1) | (go_at_call 44;refine(T5.o _).mono ?_;rintro e w2 ⟨rfl,rfl⟩))
    go_ret
    exact⟨rfl,bW.o.trans (bI.o.mono bW.o.size)⟩
   | true =>
   have Ql:Hid (0<=k.hand/\k.hand<=(k.frames.length:Int)-1):=(show 0<=k.hand/\k.hand<=(k.frames.length:Int)-1 by rw[<- S4.o];exact of_decide_eq_true Qm.o.symm)
   go_upto_region 5 with(first | (go_at_call 45;refine(Ig.o _ (Below.refl _ _)).mono ?_;rintro e w1 ⟨rfl,hb1⟩;have bI:=ai hb1;obtain⟨k0,k1,k2,k3,k4⟩:=B.c5 (KB.o _ hb1);clear hb1) | (go_at_call 44;refine(T5.o _).mono ?_;rintro e w2 ⟨rfl,rfl⟩))
   have LQ:Hid (∀i,KM.rH k (i+1)=(KM.rH k i&&KM.iJ k.ak nF nL (KM.au k.aj i))):=fun _=>by rw[S4.o,SZ.o];exact(rfl:_=_)
   have uP:Hid (∀i,i<nP->KM.iJ k.ak nF nL (KM.au k.aj i)=false->A=1):=fun i hi h=>Mp.o.sp i (by have:=Dq.o;omega) (by rw[<- S4.o,<- SZ.o];exact h)
   clear k0 k1 k2 k3 k4 tY FH T5 Ig Qm wU
   go_wp2
   go_loopw [3] (fun iv wq=>∃i:Nat,i<=nP/\iv=I (i:Int)/\KM.rH k i=true/\Below WA.heap.size WA wq) (fun iv _=>nP-(intOf iv).toNat)
   case atStart=>exact⟨0,by omega,rfl,rfl,bI.o⟩
   case round =>
    obtain⟨i,hi,rfl,Ye,tW⟩:=hrel
    have FI:=ai Ye
    have tZ:=ai tW
    obtain⟨k0,k1,k2,k3,k4⟩:=B.c5 (KB.o wr tW)
    by_cases hlt:i<nP
    · have G9:(i:Int)<(nP:Int):=by omega
      obtain⟨pb,po,lv,aa,la,ca,ap,le,cp,hao,hcl,hsf⟩:=SN.o wr i tW hlt
      have HST:=ai (LQ.o i)
      have Ak:=ai (uP.o i hlt)
      obtain⟨bv,TN⟩:=ex (KM.iJ k.ak nF nL (KM.au k.aj i))
      rw[<- TN] at hsf HST Ak
      have mv:=Q.dW wr
      rw[hao] at hsf k3 KB
      have I5:∀x:Q.fF wr.heap.size wr,x.world.cell? (Ad w.heap.size 0)=some (.slice a.aS nS a.cS):=fun x=>B.cell (KB.o _ (tZ.o.trans (x.keeps.mono tZ.o.size))) 0 rfl
      have I4:∀x:Q.fF wr.heap.size wr,x.world.cell? (Ad w.heap.size 1)=some (.slice a.aF nF a.cF):=fun x=>B.cell (KB.o _ (tZ.o.trans (x.keeps.mono tZ.o.size))) 1 rfl
      have L6:∀x:Q.fF wr.heap.size wr,x.world.cell? (Ad w.heap.size 2)=some (.slice a.aL nL a.cL):=fun x=>B.cell (KB.o _ (tZ.o.trans (x.keeps.mono tZ.o.size))) 2 rfl
      have I3:∀x:Q.fF wr.heap.size wr,x.world.cell? (Ad w.heap.size 3)=some (.slice (some (Ad pb po)) nP a.cP):=fun x=>B.cell (KB.o _ (tZ.o.trans (x.keeps.mono tZ.o.size))) 3 rfl
      have kk4:∀x:Q.fF wr.heap.size wr,x.world.cell? (Ad w.heap.size 4)=some (I k.hand):=fun x=>B.cell (KB.o _ (tZ.o.trans (x.keeps.mono tZ.o.size))) 4 rfl
      have s0:∀x:Q.fF wr.heap.size wr,x.world.cell? (Ad pb (po+i*3))=some (.bool lv):=fun x=>(hcl _ x.keeps).1
      have s1:∀x:Q.fF wr.heap.size wr,x.world.cell? (Ad pb (po+i*3+1))=some (.slice aa la ca):=fun x=>(hcl _ x.keeps).2.1
      have s2:∀x:Q.fF wr.heap.size wr,x.world.cell? (Ad pb (po+i*3+2))=some (.slice ap le cp):=fun x=>(hcl _ x.keeps).2.2
      have eD:=ai hsf
      clear hcl hsf TN Ye tW SN LQ uP HRM Qf Ip LY BB
      go_upto_region 8 with fail
      refine Q.br (by kernel_rfl) (by kernel_rfl) ?_
      repeat (first | go_big_quiet_step ((go_at_call 46;exact fW _ eD.o)) | quiet_step ((go_at_call 46;exact fW _ eD.o)))
      refine wpQuiet_nil ?_
      rintro _ ⟨X,rfl⟩
      have nK:=ai (tZ.o.trans (X.keeps.mono tZ.o.size))
      clear s0 s1 s2 I5 I4 L6 I3 kk4 mv
      cases bv with
      | false =>
       have e0:A=1:=Ak.o rfl
       subst e0
       go_wp2
       go_ret
       exact⟨rfl,bW.o.trans (nK.o.mono bW.o.size)⟩
      | true =>
       have Ir:Hid (KM.rH k (i+1)=true):=(show KM.rH k (i+1)=true by rw[HST.o,FI.o];rfl)
       go_wp2
       go_roundw
       case rel=>exact⟨i+1,by omega,by go_num,Ir.o,nK.o⟩
       case measure=>simp[intOf];omega
    · obtain rfl:nP=i:=by omega
      have hsp:KM.rH k k.aj.length=true:=by rw[<- Dq.o];exact Ye
      have VQ:=HRM hsp
      have SV:=Qf hsp
      have Zu:=ai hsp
      have zK:=KW.sV k.aj k.aj.length
      have UT:0<=KM.room k.aj/\KM.room k.aj<=65025*1000000:=by
       have:=Dq.o
       unfold KM.room
       omega
      have HRO:Hid (¬KM.room k.aj<=(nL:Int)->A=1):=fun h=>Mp.o.room (by rw[<- SZ.o];exact h)
      have Zz:Hid (KM.room k.aj<=(nL:Int)->KM.room k.aj<=(k.slots.length:Int)):=fun h=>by rw[<- SZ.o];exact h
      obtain⟨RM,Je⟩:=ex (KM.room k.aj)
      rw[<- Je] at VQ UT HRO
      have ZA:=ai Je
      have mv:=Q.dW wr
      have I5:∀x:Q.fF wr.heap.size wr,x.world.cell? (Ad w.heap.size 0)=some (.slice a.aS nS a.cS):=fun x=>B.cell (KB.o _ (tZ.o.trans (x.keeps.mono tZ.o.size))) 0 rfl
      have I4:∀x:Q.fF wr.heap.size wr,x.world.cell? (Ad w.heap.size 1)=some (.slice a.aF nF a.cF):=fun x=>B.cell (KB.o _ (tZ.o.trans (x.keeps.mono tZ.o.size))) 1 rfl
      have L6:∀x:Q.fF wr.heap.size wr,x.world.cell? (Ad w.heap.size 2)=some (.slice a.aL nL a.cL):=fun x=>B.cell (KB.o _ (tZ.o.trans (x.keeps.mono tZ.o.size))) 2 rfl
      have I3:∀x:Q.fF wr.heap.size wr,x.world.cell? (Ad w.heap.size 3)=some (.slice a.aP nP a.cP):=fun x=>B.cell (KB.o _ (tZ.o.trans (x.keeps.mono tZ.o.size))) 3 rfl
      have kk4:∀x:Q.fF wr.heap.size wr,x.world.cell? (Ad w.heap.size 4)=some (I k.hand):=fun x=>B.cell (KB.o _ (tZ.o.trans (x.keeps.mono tZ.o.size))) 4 rfl
      have HRK:=ai (fun V (hV:Below wr.heap.size wr V)=>VQ.o V (tZ.o.trans (hV.mono tZ.o.size)))
      clear hsp HRM Qf zK Je Ye tW SN LQ uP VQ hlt
      go_upto_region 10 with fail
      refine Q.br (by kernel_rfl) (by kernel_rfl) ?_
      repeat (first | go_big_quiet_step ((go_at_call 47;exact fW _ HRK.o)) | quiet_step ((go_at_call 47;exact fW _ HRK.o)))
      refine wpQuiet_nil ?_
      rintro _ ⟨X,rfl⟩
      have nK:=ai (tZ.o.trans (X.keeps.mono tZ.o.size))
      clear I5 I4 L6 I3 kk4 mv HRK k0 k1 k2 k3 k4
      by_cases hr:RM<=(nL:Int)
      · have hr2:¬(nL:Int)<RM:=by omega
        have HRY:Hid (KM.room k.aj<=(k.slots.length:Int)):=Zz.o (by rw[<- ZA.o];exact hr)
        have LX:Hid (∀i:Nat,KM.wN k (i+1)=(KM.wN k i&&KM.Bg k.ak (KM.aI k.frames i) (KM.dG k.aj 1 i))):=fun _=>rfl
        have Al:Hid (∀i:Nat,i<nF->KM.Bg k.ak (KM.aI k.frames i) (KM.dG k.aj 1 i)=false->A=1):=fun i hi h=>Mp.o.fr i (by have:=S4.o;omega) h
        clear HRO Zz hr ZA
        go_wp2
        go_loopw [4] (fun iv wq=>∃i:Nat,i<=nF/\iv=I (i:Int)/\KM.wN k i=true/\Below WA.heap.size WA wq) (fun iv _=>nF-(intOf iv).toNat)
        case atStart=>exact⟨0,by omega,rfl,rfl,nK.o⟩
        case round =>
         obtain⟨i,hi,rfl,Ot,tW⟩:=hrel
         have PQ:=ai Ot
         have tZ:=ai tW
         obtain⟨k0,k1,k2,k3,k4⟩:=B.c5 (KB.o wr tW)
         by_cases hlt:i<nF
         · have G9:(i:Int)<(nF:Int):=by omega
           obtain⟨fb,fo,hfo,z0,z1,z2,z3⟩:=LY.o wr i tW hlt
           have FI:=ai (LX.o i)
           have Ak:=ai (Al.o i hlt)
           obtain⟨f,hf⟩:=ex (KM.aI k.frames i)
           rw[<- hf] at z0 z1 z2 z3 FI Ak
           obtain⟨d,rf,dy,sn⟩:=f
           simp only at z0 z1 z2 z3
           obtain⟨W1,hW1⟩:=ex (wr.alloc (.cells #[.string d,I rf,.bool dy,.bool sn] 40))
           have hb1:Below wr.heap.size wr W1:=by rw[hW1];exact(Below.refl _ _).alloc (Nat.le_refl _) _
           have JE:W1.heap[wr.heap.size]?=some (.cells #[.string d,I rf,.bool dy,.bool sn] 40 (0,0)):=by rw[hW1];exact B.new _ _ _
           have zL:=tW.trans (hb1.mono tW.size)
           have cJ:=ai zL
           have Jv:=ai JE
           have tY:=ai hW1
           obtain⟨nn,np,Nr,q1,q2,q3,q4,oH,hn0,hsh,hcl⟩:=SV.o W1 1 (i:Int) zL
           rw[oH] at FI Ak
           have wZ:=ai hcl
           have Dn:=ai hsh
           rw[hfo] at k1
           go_upto_region 16 with fail
           rw[<- tY.o]
           obtain⟨xb,Df⟩:=ex wr.heap.size
           rw[<- Df] at Jv ⊢
           clear hW1 hb1 JE zL Ot tW hf oH hsh hcl Df k0 k1 k2 k3 k4 z0 z1 z2 z3 hfo
           obtain⟨k0,k1,k2,k3,k4⟩:=B.c5 (KB.o W1 cJ.o)
           go_upto_region 17 with(go_at_call 48;refine wZ.o.mono ?_;rintro e w2 ⟨rfl,hb2⟩;have ck:=ai hb2;clear hb2)
           have hb3:Below W1.heap.size W1 (w2.alloc (.cells #[I q1,I q2,I q3,.bool q4] 47)):=ck.o.alloc ck.o.size _
           have Qc:=ai (B.new w2 #[I q1,I q2,I q3,.bool q4] 47)
           obtain⟨W3,hW3⟩:=ex (w2.alloc (.cells #[I q1,I q2,I q3,.bool q4] 47))
           obtain⟨yb,hyb⟩:=ex w2.heap.size
           rw[<- hW3] at hb3 Qc ⊢
           rw[<- hyb] at Qc ⊢
           have cZ:=ai (cJ.o.trans (hb3.mono cJ.o.size))
           have Fi:=ai (B.below Jv.o hb3 (B.isLt Jv.o))
           clear hW3 hyb hb3 k0 k1 k2 k3 k4
           obtain⟨BD,hBD⟩:=ex (!(KM.Bg k.ak ⟨d,rf,dy,sn⟩ ⟨nn,np,Nr,⟨q1,q2,q3,q4⟩⟩))
           have xw:=ai hBD
           have HBN:Hid (KM.Bg k.ak ⟨d,rf,dy,sn⟩ ⟨nn,np,Nr,⟨q1,q2,q3,q4⟩⟩=!BD):=(show KM.Bg k.ak ⟨d,rf,dy,sn⟩ ⟨nn,np,Nr,⟨q1,q2,q3,q4⟩⟩=!BD by rw[hBD,Bool.not_not])
           rw[HBN.o] at FI Ak
           clear hBD HBN
           go_cut [135] (fun c wx=>c=.bool BD/\Below W3.heap.size W3 wx)
           case first =>
            have mv:=Q.dW W3
            have I5:∀x:Q.fF W3.heap.size W3,x.world.cell? (Ad w.heap.size 0)=some (.slice a.aS nS a.cS):=fun x=>B.cell (KB.o _ (cZ.o.trans (x.keeps.mono cZ.o.size))) 0 rfl
            have I4:∀x:Q.fF W3.heap.size W3,x.world.cell? (Ad w.heap.size 1)=some (.slice a.aF nF a.cF):=fun x=>B.cell (KB.o _ (cZ.o.trans (x.keeps.mono cZ.o.size))) 1 rfl
            have L6:∀x:Q.fF W3.heap.size W3,x.world.cell? (Ad w.heap.size 2)=some (.slice a.aL nL a.cL):=fun x=>B.cell (KB.o _ (cZ.o.trans (x.keeps.mono cZ.o.size))) 2 rfl
            have I3:∀x:Q.fF W3.heap.size W3,x.world.cell? (Ad w.heap.size 3)=some (.slice a.aP nP a.cP):=fun x=>B.cell (KB.o _ (cZ.o.trans (x.keeps.mono cZ.o.size))) 3 rfl
            have kk4:∀x:Q.fF W3.heap.size W3,x.world.cell? (Ad w.heap.size 4)=some (I k.hand):=fun x=>B.cell (KB.o _ (cZ.o.trans (x.keeps.mono cZ.o.size))) 4 rfl
            have x0:∀x:Q.fF W3.heap.size W3,x.world.cell? (Ad xb 0)=some (.string d):=fun x=>B.cell (B.below Fi.o x.keeps (B.isLt Fi.o)) 0 rfl
            have x1:∀x:Q.fF W3.heap.size W3,x.world.cell? (Ad xb 1)=some (I rf):=fun x=>B.cell (B.below Fi.o x.keeps (B.isLt Fi.o)) 1 rfl
            have x2:∀x:Q.fF W3.heap.size W3,x.world.cell? (Ad xb 2)=some (.bool dy):=fun x=>B.cell (B.below Fi.o x.keeps (B.isLt Fi.o)) 2 rfl
            have x3:∀x:Q.fF W3.heap.size W3,x.world.cell? (Ad xb 3)=some (.bool sn):=fun x=>B.cell (B.below Fi.o x.keeps (B.isLt Fi.o)) 3 rfl
            have y0:∀x:Q.fF W3.heap.size W3,x.world.cell? (Ad yb 0)=some (I q1):=fun x=>B.cell (B.below Qc.o x.keeps (B.isLt Qc.o)) 0 rfl
            have y1:∀x:Q.fF W3.heap.size W3,x.world.cell? (Ad yb 1)=some (I q2):=fun x=>B.cell (B.below Qc.o x.keeps (B.isLt Qc.o)) 1 rfl
            have y2:∀x:Q.fF W3.heap.size W3,x.world.cell? (Ad yb 2)=some (I q3):=fun x=>B.cell (B.below Qc.o x.keeps (B.isLt Qc.o)) 2 rfl
            have y3:∀x:Q.fF W3.heap.size W3,x.world.cell? (Ad yb 3)=some (.bool q4):=fun x=>B.cell (B.below Qc.o x.keeps (B.isLt Qc.o)) 3 rfl
            have aef:Hid (∀V,Below W3.heap.size W3 V->nn≠0->Calls Tryz.prog 49 #[.agg #[.slice a.aS nS a.cS,.slice a.aF nF a.cF,.slice a.aL nL a.cL,.slice a.aP nP a.cP,I k.hand],.agg #[I q1,I q2,I q3,.bool q4],I np] V fun e w'=>e=.returned (.string (KM.dY k.ak np q4))/\Below V.heap.size V w'):=fun V hV hne=>Ip.o V q1 q2 q3 q4 np (cZ.o.trans (hV.mono cZ.o.size)) (Dn.o hne)
            clear FI Ak PQ SV Ip LY BB LX Al Mp Zu HRY Ql Fj S4 SZ Dq
            by_cases h1:rf=nn
            · have H1:=ai h1
              subst h1
              by_cases h2:rf=0
              · subst h2
                by_cases h3:d.size=0
                · have h3':d=⟨#[]⟩:=by
                   obtain⟨⟨l⟩⟩:=d
                   have:l.length=0:=h3
                   have e:=List.length_eq_zero_iff.1 this
                   subst e
                   rfl
                  subst h3'
                  cases dy with
                  | true =>
                   as_aux_lemma =>
                    refine Q.br (by kernel_rfl) (by kernel_rfl) ?_
                    repeat (first | go_big_quiet_step (fail) | quiet_step (fail))
                    refine wpQuiet_nil ?_
                    intro _ hw'
                    obtain⟨x,hw''⟩:=hw'
                    subst hw''
                    go_wp2
                    go_meet
                    exact⟨by rw[xw.o];simp[KM.Bg,KM.tV] <;> rfl,x.keeps⟩
                  | false =>
                   cases sn with
                   | true =>
                    as_aux_lemma =>
                     refine Q.br (by kernel_rfl) (by kernel_rfl) ?_
                     repeat (first | go_big_quiet_step (fail) | quiet_step (fail))
                     refine wpQuiet_nil ?_
                     intro _ hw'
                     obtain⟨x,hw''⟩:=hw'
                     subst hw''
                     go_wp2
                     go_meet
                     exact⟨by rw[xw.o];simp[KM.Bg,KM.tV] <;> rfl,x.keeps⟩
                   | false =>
                    as_aux_lemma =>
                     refine Q.br (by kernel_rfl) (by kernel_rfl) ?_
                     repeat (first | go_big_quiet_step (fail) | quiet_step (fail))
                     refine wpQuiet_nil ?_
                     intro _ hw'
                     obtain⟨x,hw''⟩:=hw'
                     subst hw''
                     go_wp2
                     go_meet
                     exact⟨by rw[xw.o];simp[KM.Bg,KM.tV] <;> rfl,x.keeps⟩
                · have hd:d.toList.isEmpty=false:=by
                   rw[Go.ByteArray.toList_eq]
                   obtain⟨⟨l⟩⟩:=d
                   cases l with
                   | nil=>exact absurd rfl h3
                   | cons x r=>rfl
                  have hd2:(d.toList==[])=false:=by
                   cases hq:d.toList with
                   | nil=>rw[hq] at hd;cases hd
                   | cons x r=>rfl
                  as_aux_lemma =>
                   refine Q.br (by kernel_rfl) (by kernel_rfl) ?_
                   repeat (first | go_big_quiet_step (fail) | quiet_step (fail))
                   refine wpQuiet_nil ?_
                   intro _ hw'
                   obtain⟨x,hw''⟩:=hw'
                   subst hw''
                   go_wp2
                   go_meet
                   exact⟨by rw[xw.o];simp[KM.Bg,KM.tV,h3],x.keeps⟩
              · have b2:(rf==0)=false:=by simpa using h2
                have vr:0<rf:=by omega
                cases Nr with
                | false =>
                 as_aux_lemma =>
                  refine Q.br (by kernel_rfl) (by kernel_rfl) ?_
                  repeat (first | go_big_quiet_step (fail) | quiet_step (fail))
                  refine wpQuiet_nil ?_
                  intro _ hw'
                  obtain⟨x,hw''⟩:=hw'
                  subst hw''
                  go_wp2
                  go_meet
                  exact⟨by rw[xw.o];simp[KM.Bg,KM.tV,vr],x.keeps⟩
                | true =>
                 by_cases h4:d.size=16
                 · have h4i:((d.size:Int) != 16)=false:=by rw[h4];rfl
                   cases dy with
                   | true =>
                    as_aux_lemma =>
                     refine Q.br (by kernel_rfl) (by kernel_rfl) ?_
                     repeat (first | go_big_quiet_step (fail) | quiet_step (fail))
                     refine wpQuiet_nil ?_
                     intro _ hw'
                     obtain⟨x,hw''⟩:=hw'
                     subst hw''
                     go_wp2
                     go_meet
                     exact⟨by rw[xw.o];simp[KM.Bg,KM.tV,vr,h2,h4],x.keeps⟩
                   | false =>
                    have Iq:=ai (fun V hV=>aef.o V hV h2)
                    as_aux_lemma =>
                     refine Q.br (by kernel_rfl) (by kernel_rfl) ?_
                     repeat (first | go_big_quiet_step ((go_at_call 49;exact fW _ Iq.o)) | quiet_step ((go_at_call 49;exact fW _ Iq.o)))
                     refine wpQuiet_nil ?_
                     intro _ hw'
                     obtain⟨x,hw''⟩:=hw'
                     subst hw''
                     go_wp2
                     go_meet
                     exact⟨by rw[xw.o];simp[KM.Bg,KM.tV,vr,h2,h4,KW.TV,bne],x.keeps⟩
                 · have h4i:((d.size:Int) != 16)=true:=by rw[bne_iff_ne];omega
                   as_aux_lemma =>
                    refine Q.br (by kernel_rfl) (by kernel_rfl) ?_
                    repeat (first | go_big_quiet_step (fail) | quiet_step (fail))
                    refine wpQuiet_nil ?_
                    intro _ hw'
                    obtain⟨x,hw''⟩:=hw'
                    subst hw''
                    go_wp2
                    go_meet
                    exact⟨by rw[xw.o];simp[KM.Bg,KM.tV,vr,h2,h4],x.keeps⟩
            · have b1:(rf != nn)=true:=by simpa using h1
              as_aux_lemma =>
               refine Q.br (by kernel_rfl) (by kernel_rfl) ?_
               repeat (first | go_big_quiet_step (fail) | quiet_step (fail))
               refine wpQuiet_nil ?_
               intro _ hw'
               obtain⟨x,hw''⟩:=hw'
               subst hw''
               go_wp2
               go_meet
               exact⟨by rw[xw.o];simp[KM.Bg,KM.tV,h1],x.keeps⟩
           case rest =>
            obtain⟨rfl,hbc⟩:=hcut
            have Ds:=ai (cZ.o.trans (hbc.mono cZ.o.size))
            cases BD with
            | true =>
             have e0:A=1:=Ak.o rfl
             subst e0
             go_wp2
             go_ret
             exact⟨rfl,bW.o.trans (Ds.o.mono bW.o.size)⟩
            | false =>
             have Ir:Hid (KM.wN k (i+1)=true):=(show KM.wN k (i+1)=true by rw[FI.o,PQ.o];rfl)
             go_wp2
             go_roundw
             case rel=>exact⟨i+1,by omega,by go_num,Ir.o,Ds.o⟩
             case measure=>simp[intOf];omega
         · obtain rfl:nF=i:=by omega
           have aeb:Hid (KM.wN k k.frames.length=true):=(show KM.wN k k.frames.length=true by rw[<- S4.o];exact Ot)
           have ZW:Hid (∀i:Nat,KM.wu k (i+1)=(KM.wu k i&&KM.Fy (KM.bG k.slots i) (KM.dG k.aj 2 i))):=fun _=>rfl
           have C9:Hid (∀i:Nat,i<nL->KM.Fy (KM.bG k.slots i) (KM.dG k.aj 2 i)=false->A=1):=fun i hi h=>Mp.o.sl i (by have:=SZ.o;omega) h
           clear LX Al LY Ip Ot tW hlt
           go_wp2
           go_loopw [10] (fun iv wq=>∃i:Nat,i<=nL/\iv=I (i:Int)/\KM.wu k i=true/\Below WA.heap.size WA wq) (fun iv _=>nL-(intOf iv).toNat)
           case atStart=>exact⟨0,by omega,rfl,rfl,tZ.o⟩
           case round =>
            obtain⟨i,hi,rfl,Ot,tW⟩:=hrel
            have PQ:=ai Ot
            have aeq:=ai tW
            obtain⟨k0,k1,k2,k3,k4⟩:=B.c5 (KB.o wr tW)
            by_cases hlt:i<nL
            · have G9:(i:Int)<(nL:Int):=by omega
              obtain⟨fb,fo,hfo,z0,z1⟩:=BB.o wr i tW hlt
              have FI:=ai (ZW.o i)
              have Ak:=ai (C9.o i hlt)
              obtain⟨f,hf⟩:=ex (KM.bG k.slots i)
              rw[<- hf] at z0 z1 FI Ak
              obtain⟨d,rf⟩:=f
              simp only at z0 z1
              obtain⟨W1,hW1⟩:=ex (wr.alloc (.cells #[.string d,I rf] 86))
              have hb1:Below wr.heap.size wr W1:=by rw[hW1];exact(Below.refl _ _).alloc (Nat.le_refl _) _
              have JE:W1.heap[wr.heap.size]?=some (.cells #[.string d,I rf] 86 (0,0)):=by rw[hW1];exact B.new _ _ _
              have zL:=tW.trans (hb1.mono tW.size)
              have cJ:=ai zL
              have Jv:=ai JE
              have tY:=ai hW1
              obtain⟨nn,np,Nr,q1,q2,q3,q4,oH,hn0,_,hcl⟩:=SV.o W1 2 (i:Int) zL
              rw[oH] at FI Ak
              have wZ:=ai hcl
              rw[hfo] at k2
              go_upto_region 23 with fail
              rw[<- tY.o]
              obtain⟨xb,Df⟩:=ex wr.heap.size
              rw[<- Df] at Jv ⊢
              clear hW1 hb1 JE zL Ot tW hf oH hcl Df k0 k1 k2 k3 k4 z0 z1 hfo
              obtain⟨k0,k1,k2,k3,k4⟩:=B.c5 (KB.o W1 cJ.o)
              go_upto_region 24 with(go_at_call 48;refine wZ.o.mono ?_;rintro e w2 ⟨rfl,hb2⟩;have ck:=ai hb2;clear hb2)
              have hb3:Below W1.heap.size W1 (w2.alloc (.cells #[I q1,I q2,I q3,.bool q4] 47)):=ck.o.alloc ck.o.size _
              obtain⟨W3,hW3⟩:=ex (w2.alloc (.cells #[I q1,I q2,I q3,.bool q4] 47))
              rw[<- hW3] at hb3 ⊢
              have cZ:=ai (cJ.o.trans (hb3.mono cJ.o.size))
              obtain⟨x0,x1⟩:=B.c2 (B.below Jv.o hb3 (B.isLt Jv.o))
              have mJ:Hid (KM.Fy ⟨d,rf⟩ ⟨nn,np,Nr,⟨q1,q2,q3,q4⟩⟩=KM.Fy ⟨d,rf⟩ ⟨nn,np,Nr,⟨q1,q2,q3,q4⟩⟩):=rfl
              clear hW3 hb3 k0 k1 k2 k3 k4 SV BB ZW C9 wZ Jv ck
              by_cases h1:rf=nn
              · subst h1
                by_cases h2:rf=0
                · subst h2
                  by_cases h3:d.size=0
                  · have h3':d=⟨#[]⟩:=by
                     obtain⟨⟨l⟩⟩:=d
                     have:l.length=0:=h3
                     have e:=List.length_eq_zero_iff.1 this
                     subst e
                     rfl
                    subst h3'
                    have Ir:Hid (KM.wu k (i+1)=true):=(show KM.wu k (i+1)=true by rw[FI.o,PQ.o,mJ.o];simp[KM.Fy,KM.n9] <;> rfl)
                    go_wp2
                    go_roundw
                    case rel=>exact⟨i+1,by omega,by go_num,Ir.o,cZ.o⟩
                    case measure=>simp[intOf];omega
                  · have hd:d.toList.isEmpty=false:=by
                     rw[Go.ByteArray.toList_eq]
                     obtain⟨⟨l⟩⟩:=d
                     cases l with
                     | nil=>exact absurd rfl h3
                     | cons x r=>rfl
                    have hd2:(d.toList==[])=false:=by
                     cases hq:d.toList with
                     | nil=>rw[hq] at hd;cases hd
                     | cons x r=>rfl
                    have e0:=Ak.o (by rw[mJ.o];simp[KM.Fy,KM.n9,h3])
                    subst e0
                    go_wp2
                    go_ret
                    exact⟨rfl,bW.o.trans (cZ.o.mono bW.o.size)⟩
                · have b2:(rf==0)=false:=by simpa using h2
                  have vr:0<rf:=by omega
                  cases Nr with
                  | false =>
                   have e0:=Ak.o (by rw[mJ.o];simp[KM.Fy,KM.n9,vr])
                   subst e0
                   go_wp2
                   go_ret
                   exact⟨rfl,bW.o.trans (cZ.o.mono bW.o.size)⟩
                  | true =>
                   by_cases h4:d.size=16
                   · have h4i:((d.size:Int) != 16)=false:=by rw[h4];rfl
                     have Ir:Hid (KM.wu k (i+1)=true):=(show KM.wu k (i+1)=true by rw[FI.o,PQ.o,mJ.o];simp[KM.Fy,KM.n9,vr,h2,h4])
                     go_wp2
                     go_roundw
                     case rel=>exact⟨i+1,by omega,by go_num,Ir.o,cZ.o⟩
                     case measure=>simp[intOf];omega
                   · have h4i:((d.size:Int) != 16)=true:=by rw[bne_iff_ne];omega
                     have e0:=Ak.o (by rw[mJ.o];simp[KM.Fy,KM.n9,vr,h2,h4])
                     subst e0
                     go_wp2
                     go_ret
                     exact⟨rfl,bW.o.trans (cZ.o.mono bW.o.size)⟩
              · have b1:(rf != nn)=true:=by simpa using h1
                have e0:=Ak.o (by rw[mJ.o];simp[KM.Fy,KM.n9,h1])
                subst e0
                go_wp2
                go_ret
                exact⟨rfl,bW.o.trans (cZ.o.mono bW.o.size)⟩
            · obtain rfl:nL=i:=by omega
              have e0:A=0:=Mp.o.yes Fj.o Ql.o Zu.o HRY.o aeb.o (by rw[<- SZ.o];exact Ot)
              subst e0
              go_wp2
              go_ret
              exact⟨rfl,bW.o.trans (aeq.o.mono bW.o.size)⟩
      · have hr2:(nL:Int)<RM:=by omega
        have e0:A=1:=HRO.o hr
        subst e0
        go_wp2
        go_ret
        exact⟨rfl,bW.o.trans (nK.o.mono bW.o.size)⟩
 · have Dl:KM.iU k=2:=by
    unfold KM.iU
    rw[if_pos (by simpa using hcn)]
   rw[Dl]
   have Hc:¬((3<=nF/\nF<=64)/\nL<=512/\(1<=nP/\nP<=4)/\nS<=255):=by rw[PZ,hnF,Od,K6];exact fun g=>hcn (decide_eq_true g)
   obtain⟨k0,k1,k2,k3,k4⟩:=B.c5 (KB.o WA (Below.refl _ _))
   have tY:=ai (fun V=>zB.o (nF:Int) 3 64 V)
   have FH:=ai (fun V=>zB.o (nP:Int) 1 4 V)
   rcases(show ¬(3<=(nF:Int)/\(nF:Int)<=64)∨((3<=(nF:Int)/\(nF:Int)<=64)/\512<(nL:Int))∨((3<=(nF:Int)/\(nF:Int)<=64)/\¬512<(nL:Int)/\¬(1<=(nP:Int)/\(nP:Int)<=4))∨((3<=(nF:Int)/\(nF:Int)<=64)/\¬512<(nL:Int)/\(1<=(nP:Int)/\(nP:Int)<=4)/\255<(nS:Int)) by omega) with g | ⟨g,g1⟩ | ⟨g,g1,g2⟩ | ⟨g,g1,g2,g3⟩
   · rw[decide_eq_false g] at tY
     clear hK hF hb0 kb dK qz eK hcn Dl Hc zB PZ hnF Od K6 Ig
     go_enter Tryz.func14,Tryz.ntmps14
     go_upto_region 1 with fail
     rw[<- gp.o]
     go_wp2_with (first
      | (have _:=FIRST;go_at_call 44;refine(FH.o _).mono ?_;rintro e w2 ⟨rfl,rfl⟩)
      | (go_at_call 44;refine(tY.o _).mono ?_;rintro e w1 ⟨rfl,rfl⟩;have FIRST:=trivial))
     go_ret
     exact⟨rfl,bW.o⟩
   · rw[decide_eq_true g] at tY
     clear hK hF hb0 kb dK qz eK hcn Dl Hc zB PZ hnF Od K6 Ig
     go_enter Tryz.func14,Tryz.ntmps14
     go_upto_region 1 with fail
     rw[<- gp.o]
     go_wp2_with (first
      | (have _:=FIRST;go_at_call 44;refine(FH.o _).mono ?_;rintro e w2 ⟨rfl,rfl⟩)
      | (go_at_call 44;refine(tY.o _).mono ?_;rintro e w1 ⟨rfl,rfl⟩;have FIRST:=trivial))
     go_ret
     exact⟨rfl,bW.o⟩
   · rw[decide_eq_true g] at tY
     rw[decide_eq_false g2] at FH
     clear hK hF hb0 kb dK qz eK hcn Dl Hc zB PZ hnF Od K6 Ig
     go_enter Tryz.func14,Tryz.ntmps14
     go_upto_region 1 with fail
     rw[<- gp.o]
     go_wp2_with (first
      | (have _:=FIRST;go_at_call 44;refine(FH.o _).mono ?_;rintro e w2 ⟨rfl,rfl⟩)
      | (go_at_call 44;refine(tY.o _).mono ?_;rintro e w1 ⟨rfl,rfl⟩;have FIRST:=trivial))
     go_ret
     exact⟨rfl,bW.o⟩
   · rw[decide_eq_true g] at tY
     rw[decide_eq_true g2] at FH
     clear hK hF hb0 kb dK qz eK hcn Dl Hc zB PZ hnF Od K6 Ig
     go_enter Tryz.func14,Tryz.ntmps14
     go_upto_region 1 with fail
     rw[<- gp.o]
     go_wp2_with (first
      | (have _:=FIRST;go_at_call 44;refine(FH.o _).mono ?_;rintro e w2 ⟨rfl,rfl⟩)
      | (go_at_call 44;refine(tY.o _).mono ?_;rintro e w1 ⟨rfl,rfl⟩;have FIRST:=trivial))
     go_ret
     exact⟨rfl,bW.o⟩
end KR
namespace KR
open Go.RowKit GK
open FW (ai aB)
open KW (aZ fu cI aJ eW lI jY aK fW bE bD dw)
open KY (dR)
end KR
namespace KR
open Go.RowKit GK
open FW (ai aB)
open KW (aZ fu cI aJ eW lI jY aK fW bE bD dw)
end KR
end Go.Proofs.YtpgifpeohlllfaaGreat
