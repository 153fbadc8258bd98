import Derived.Test.YtpgifpeohlllfaaGreatGP00
import Derived.Test.YtpgifpeohlllfaaGreatGP14
import Derived.Test.YtpgifpeohlllfaaGreatGP15
import Derived.Test.YtpgifpeohlllfaaGreatGP13
import Derived.Test.YtpgifpeohlllfaaGreatGP11
set_option maxHeartbeats 20000000
set_option linter.unusedVariables false
set_option maxRecDepth 100000
set_option linter.unusedSimpArgs false
namespace Go.Proofs.YtpgifpeohlllfaaGreat
namespace KR
open Go.RowKit GK
open FW (ai aC)
open KW (aU fe cO aH eY lZ ku aI fF bE bD)
structure Ans (k:KM.Kn) (A:Int):Prop where
 dU:LM.cZ k.ak=false->A=1
 hand:¬(0<=k.hand/\k.hand<=(k.frames.length:Int)-1)->A=1
 sp:∀i,i<k.aj.length->KM.ic k.ak k.frames.length k.slots.length (KM.aq k.aj i)=false->A=1
 room:¬KM.room k.aj<=(k.slots.length:Int)->A=1
 fr:∀i,i<k.frames.length->KM.zy k.ak (KM.aD k.frames i) (KM.dg k.aj 1 i)=false->A=1
 sl:∀i,i<k.slots.length->KM.DR (KM.bk k.slots i) (KM.dg k.aj 2 i)=false->A=1
 yes:LM.cZ k.ak=true->(0<=k.hand/\k.hand<=(k.frames.length:Int)-1)->KM.qu k k.aj.length=true->KM.room k.aj<=(k.slots.length:Int)->KM.u9 k k.frames.length=true->KM.uS k k.slots.length=true->A=0
theorem Tu {k:KM.Kn} (hc:KM.counts k=true):Ans k (KM.jw k):=by
 have e:KM.jw k=if KM.mC k then 0 else 1:=by
  unfold KM.jw
  rw[if_neg (by rw[hc];decide)]
 have no:KM.mC k=false->KM.jw k=1:=fun h=>by rw[e,h];rfl
 refine⟨fun h=>no ?_,fun h=>no ?_,fun i hi h=>no ?_,fun h=>no ?_,fun i hi h=>no ?_,fun i hi h=>no ?_,fun h1 h2 h3 h4 h5 h6=>?_⟩
 · unfold KM.mC;rw[h,Bool.false_and]
 · unfold KM.mC;rw[decide_eq_false h,Bool.false_and,Bool.and_false]
 · unfold KM.mC
   rw[mX (f:=fun n=>KM.ic k.ak k.frames.length k.slots.length (KM.aq k.aj n)) (g:=KM.qu k) (fun _=>rfl) _ i hi h]
   simp
 · unfold KM.mC;rw[decide_eq_false h];simp
 · unfold KM.mC
   rw[mX (f:=fun n:Nat=>KM.zy k.ak (KM.aD k.frames n) (KM.dg k.aj 1 n)) (g:=KM.u9 k) (fun _=>rfl) _ i hi h]
   simp
 · unfold KM.mC
   rw[mX (f:=fun n:Nat=>KM.DR (KM.bk k.slots n) (KM.dg k.aj 2 n)) (g:=KM.uS k) (fun _=>rfl) _ i hi h]
   simp
 · rw[e]
   unfold KM.mC
   rw[h1,decide_eq_true h2,h3,decide_eq_true h4,h5,h6]
   rfl
structure Fnd (k:KM.Kn):Prop where
 check:∀i,i<k.aj.length->AM.aO (KM.aq k.aj i).aA=0
 few:∀i,i<k.aj.length->(KM.aq k.aj i).au.length<=65025
 UF:∀kd i,(KM.dg k.aj kd i).n≠0->(KM.dg k.aj kd i).o9.zero=false->(KM.bK k.ak (KM.dg k.aj kd i).page).isSome=true
 pos:∀kd i,0<=(KM.dg k.aj kd i).n
theorem MG {k:KM.Kn} (h:KM.qu k k.aj.length=true):Fnd k:=by
 have all:∀i,i<k.aj.length->KM.J5 k.ak k.frames.length k.slots.length (KM.aq k.aj i):=fun i hi=>KM.Ab.1 ((KM.qq (f:=fun n=>KM.ic k.ak k.frames.length k.slots.length (KM.aq k.aj n)) (g:=KM.qu k) rfl (fun _=>rfl) _).1 h i hi)
 refine⟨fun i hi=>(all i hi).aA,fun i hi=>?_,fun kd i hn hz=>?_,fun kd i=>?_⟩
 · have h1:=KM.lO (all i hi)
   have h2:=KW.kg (KM.aq k.aj i).aA
   omega
 · have N:=KM.sZ k.aj kd i
   have hne:KM.names k.aj kd i≠[]:=fun e=>hn (by rw[N.n,e];rfl)
   obtain⟨s,hs,e,he,_,_,hx⟩:=KM.ig.1 (N.last hne)
   obtain⟨j,hj,ej⟩:=KM.eu KM.DN hs
   have ej:KM.aq k.aj j=s:=ej
   have hS:=all j hj
   rw[ej] at hS
   injection hx with p1 p2
   rw[p1]
   exact hS.ak e.page (hS.tH e he).1 (by rw[<- p2];exact hz)
 · rw[(KM.sZ k.aj kd i).n]
   omega
theorem gv (k:KM.Kn) (a:fe) (w:World) (hK:cO w a k) (hF:eY k) :
  Calls Tryz.prog 14 #[.agg (aH a k)] w fun e w'=>e=.returned (I (KM.jw k))/\Below w.heap.size w w':=by
 obtain⟨nS,NL⟩:=ex k.ak.length
 obtain⟨nF,hnF⟩:=ex k.frames.length
 obtain⟨nL,Me⟩:=ex k.slots.length
 obtain⟨nP,Je⟩:=ex k.aj.length
 obtain⟨WA,dx⟩:=ex (w.alloc (.cells #[.slice a.aS nS a.cS,.slice a.aF nF a.cF,.slice a.aL nL a.cL,.slice a.aP nP a.cP,I k.hand] 27))
 have hb0:Below w.heap.size w WA:=by rw[dx];exact(Below.refl _ _).alloc (Nat.le_refl _) _
 have kb:WA.heap[w.heap.size]?=some (.cells #[.slice a.aS nS a.cS,.slice a.aF nF a.cF,.slice a.aL nL a.cL,.slice a.aP nP a.cP,I k.hand] 27 (0,0)):=by rw[dx];exact B.new w _ _
 have KB:Hid (∀V,Below WA.heap.size WA V->V.heap[w.heap.size]?=some (.cells #[.slice a.aS nS a.cS,.slice a.aF nF a.cF,.slice a.aL nL a.cL,.slice a.aP nP a.cP,I k.hand] 27 (0,0))):=fun V hb=>B.below kb hb (B.isLt kb)
 have pI:aH a k=#[.slice a.aS nS a.cS,.slice a.aF nF a.cF,.slice a.aL nL a.cL,.slice a.aP nP a.cP,I k.hand]:=by unfold aH;rw[<- NL,<- hnF,<- Me,<- Je]
 have yD:=ai AW.dz
 have eW:∀{V:World},Below WA.heap.size WA V->Below w.heap.size w V:=fun hV=>hb0.trans (hV.mono hb0.size)
 have J9:Hid (∀V,Below WA.heap.size WA V->Calls Tryz.prog 45 #[.slice a.aS nS a.cS] V fun e w'=>e=.returned (.bool (LM.cZ k.ak))/\Below V.heap.size V w'):=fun V hV=>by rw[NL];exact LW.vR k.ak a.aS a.cS V (hK.ak.below (eW hV)) hF.ak
 have eV:=ai dx
 have bI:=ai hb0
 rw[pI]
 have hsS:nS<=140737488351232:=by rw[NL];exact hF.ak.1
 have hsF:nF<=140737488351232:=by rw[hnF];exact hF.nf
 have hsL:nL<=140737488351232:=by rw[Me];exact hF.ns
 have hsP:nP<=140737488351232:=by rw[Je];exact hF.np
 by_cases hcn:KM.counts k=true
 · have Kj:=ai (Tu hcn)
   have E8:(3<=nF/\nF<=64)/\nL<=512/\(1<=nP/\nP<=4)/\nS<=255:=by rw[NL,hnF,Me,Je];exact of_decide_eq_true hcn
   obtain⟨⟨hF3,afe⟩,hL5,⟨hP1,hP4⟩,hS2⟩:=E8
   obtain⟨A,hA⟩:=ex (KM.jw k)
   rw[<- hA] at Kj ⊢
   have Qr:Hid (∀V i,Below WA.heap.size WA V->i<nP->∃pb po lv aa la ca ap le cp,a.aP=some (Ad pb po)/\(∀U,Below V.heap.size V U->U.cell? (Ad pb (po+i*3))=some (.bool lv)/\U.cell? (Ad pb (po+i*3+1))=some (.slice aa la ca)/\U.cell? (Ad pb (po+i*3+2))=some (.slice ap le cp))/\∀U,Below V.heap.size V U->Calls Tryz.prog 46 #[.agg #[.slice a.aS nS a.cS,.slice a.aF nF a.cF,.slice a.aL nL a.cL,.slice a.aP nP a.cP,I k.hand],.agg #[.bool lv,.slice aa la ca,.slice ap le cp]] U fun e w'=>e=.returned (.bool (KM.ic k.ak k.frames.length k.slots.length (KM.aq k.aj i)))/\Below U.heap.size U w'):=fun V i hV hi=>by
    obtain⟨pb,po,e1,e2,e3⟩:=(hK.aj.below (eW hV)) (by omega)
    obtain⟨va,ap,cp,c0,c1,c2,c3,c4,_⟩:=e3 i (by omega)
    have Tp:=c3
    obtain⟨aa,ca,rfl,_⟩:=c3
    refine⟨pb,po,_,aa,_,ca,ap,_,cp,e1,fun U hU=>⟨(hU.cell (p:=(Ad pb (po+i*3))) e2).trans c0,(hU.cell (p:=(Ad pb (po+i*3+1))) e2).trans c1,(hU.cell (p:=(Ad pb (po+i*3+2))) e2).trans c2⟩,fun U hU=>?_⟩
    have hf:=hF.sp i (by omega)
    have:=yc k a (KM.aq k.aj i) aa ap ca cp U (Tp.below hU) hf.aA (c4.below hU) hf.au (hK.ak.below ((eW hV).trans (hU.mono (eW hV).size))) hF.ak (by omega) (by omega)
    rw[pI] at this
    exact this
   have HRM:KM.qu k k.aj.length=true->Hid (∀V,Below WA.heap.size WA V->Calls Tryz.prog 47 #[.agg #[.slice a.aS nS a.cS,.slice a.aF nF a.cF,.slice a.aL nL a.cL,.slice a.aP nP a.cP,I k.hand]] V fun e w'=>e=.returned (I (KM.room k.aj))/\Below V.heap.size V w'):=fun hs V hV=>by
    have:=K6 k a V (hK.aj.below (eW hV)) (MG hs).check (by omega)
    rw[pI] at this
    exact this
   have N2:KM.qu k k.aj.length=true->Hid (∀V kd i,Below WA.heap.size WA V->∃nn np Lv q1 q2 q3 q4,KM.dg k.aj kd i=⟨nn,np,Lv,⟨q1,q2,q3,q4⟩⟩/\0<=nn/\(nn≠0->q4=false->(KM.bK k.ak np).isSome=true)/\Calls Tryz.prog 48 #[.agg #[.slice a.aS nS a.cS,.slice a.aF nF a.cF,.slice a.aL nL a.cL,.slice a.aP nP a.cP,I k.hand],I kd,I i] V fun e w'=>e=.returned (.tuple #[I nn,I np,.bool Lv,.agg #[I q1,I q2,I q3,.bool q4]])/\Below V.heap.size V w'):=fun hs V kd i hV=>by
    have f:=MG hs
    have h1:=EF k a kd i V (hK.aj.below (eW hV)) f.check (by omega) f.few
    have h2:=f.UF kd i
    have h3:=f.pos kd i
    rw[pI] at h1
    exact⟨_,_,_,_,_,_,_,rfl,h3,h2,h1⟩
   have QD:LM.cZ k.ak=true->Hid (∀V q1 q2 q3 q4 p,Below WA.heap.size WA V->(q4=false->(KM.bK k.ak p).isSome=true)->Calls Tryz.prog 49 #[.agg #[.slice a.aS nS a.cS,.slice a.aF nF a.cF,.slice a.aL nL a.cL,.slice a.aP nP a.cP,I k.hand],.agg #[I q1,I q2,I q3,.bool q4],I p] V fun e w'=>e=.returned (.string (KM.dh k.ak p q4))/\Below V.heap.size V w'):=fun hr V q1 q2 q3 q4 p hV hz=>by
    have:=uD k a q1 q2 q3 q4 p V (hK.ak.below (eW hV)) hF.ak hr hz
    rw[pI] at this
    exact this
   have FZ:Hid (∀V i,Below WA.heap.size WA V->i<nF->∃fb fo,a.aF=some (Ad fb fo)/\V.cell? (Ad fb (fo+i*4))=some (.string (KM.aD k.frames i).data)/\V.cell? (Ad fb (fo+i*4+1))=some (I (KM.aD k.frames i).refs)/\V.cell? (Ad fb (fo+i*4+2))=some (.bool (KM.aD k.frames i).bW)/\V.cell? (Ad fb (fo+i*4+3))=some (.bool (KM.aD k.frames i).seen)):=fun V i hV hi=>by
    obtain⟨fb,fo,e1,e2,e3⟩:=(hK.frames.below (eW hV)) (by omega)
    have z:=e3 i (by omega) 0 (by omega)
    rw[Nat.add_zero] at z
    exact⟨fb,fo,e1,z,e3 i (by omega) 1 (by omega),e3 i (by omega) 2 (by omega),e3 i (by omega) 3 (by omega)⟩
   have FV:Hid (∀V i,Below WA.heap.size WA V->i<nL->∃fb fo,a.aL=some (Ad fb fo)/\V.cell? (Ad fb (fo+i*2))=some (.string (KM.bk k.slots i).data)/\V.cell? (Ad fb (fo+i*2+1))=some (I (KM.bk k.slots i).refs)):=fun V i hV hi=>by
    obtain⟨fb,fo,e1,e2,e3⟩:=(hK.slots.below (eW hV)) (by omega)
    have z:=e3 i (by omega) 0 (by omega)
    rw[Nat.add_zero] at z
    exact⟨fb,fo,e1,z,e3 i (by omega) 1 (by omega)⟩
   have TX:=ai hnF
   have TW:=ai Me
   have Ho:=ai Je
   rw[<- hnF,<- Me] at Qr
   obtain⟨k0,k1,k2,k3,k4⟩:=B.c5 (KB.o WA (Below.refl _ _))
   have pj:Hid (∀V,Calls Tryz.prog 44 #[I (nF:Int),I 3,I 64] V fun e w'=>e=.returned (.bool true)/\V=w'):=fun V=>by
    have:=yD.o (nF:Int) 3 64 V
    rw[decide_eq_true (by omega)] at this
    exact this
   have xR:Hid (∀V,Calls Tryz.prog 44 #[I (nP:Int),I 1,I 4] V fun e w'=>e=.returned (.bool true)/\V=w'):=fun V=>by
    have:=yD.o (nP:Int) 1 4 V
    rw[decide_eq_true (by omega)] at this
    exact this
   have Ro:=ai (fun V=>yD.o k.hand 0 ((nF:Int)-1) V)
   obtain⟨hb,ZG⟩:=ex (decide (0<=k.hand/\k.hand<=(nF:Int)-1))
   rw[<- ZG] at Ro
   have N7:=ai ZG
   obtain⟨rs,hrs⟩:=ex (LM.cZ k.ak)
   rw[<- hrs] at J9
   have vo:=ai hrs
   clear hK hF hb0 kb dx pI eW hcn hA ZG hrs yD NL hnF Me Je
   go_enter Tryz.func14,Tryz.ntmps14
   go_upto_region 1 with fail
   rw[<- eV.o]
   go_upto_region 3 with(first
    | (have _:=FIRST;go_at_call 44;refine(xR.o _).mono ?_;rintro e w2 ⟨rfl,rfl⟩)
    | (go_at_call 44;refine(pj.o _).mono ?_;rintro e w1 ⟨rfl,rfl⟩;have FIRST:=trivial))
   cases rs with
   | false =>
    have e0:A=1:=Kj.o.dU vo.o.symm
    subst e0
    go_wp2_with (go_at_call 45;refine(J9.o _ (Below.refl _ _)).mono ?_;rintro e w1 ⟨rfl,hb1⟩;have aZ:=ai hb1;clear hb1)
    go_ret
    exact⟨rfl,bI.o.trans (aZ.o.mono bI.o.size)⟩
   | true =>
   have hrs:LM.cZ k.ak=true:=vo.o.symm
   have Gc:=QD hrs
   have DF:=ai hrs
   clear hrs QD
   cases hb with
   | false =>
    have e0:A=1:=Kj.o.hand (by rw[<- TX.o];exact of_decide_eq_false N7.o.symm)
    subst e0
    go_wp2_with (first | (go_at_call 45;refine(J9.o _ (Below.refl _ _)).mono ?_;rintro e w1 ⟨rfl,hb1⟩;have aZ:=ai hb1;obtain⟨k0,k1,k2,k3,k4⟩:=B.c5 (KB.o _ hb1);clear hb1) | (go_at_call 44;refine(Ro.o _).mono ?_;rintro e w2 ⟨rfl,rfl⟩))
    go_ret
    exact⟨rfl,bI.o.trans (aZ.o.mono bI.o.size)⟩
   | true =>
   have Rw:Hid (0<=k.hand/\k.hand<=(k.frames.length:Int)-1):=(show 0<=k.hand/\k.hand<=(k.frames.length:Int)-1 by rw[<- TX.o];exact of_decide_eq_true N7.o.symm)
   go_upto_region 5 with(first | (go_at_call 45;refine(J9.o _ (Below.refl _ _)).mono ?_;rintro e w1 ⟨rfl,hb1⟩;have aZ:=ai hb1;obtain⟨k0,k1,k2,k3,k4⟩:=B.c5 (KB.o _ hb1);clear hb1) | (go_at_call 44;refine(Ro.o _).mono ?_;rintro e w2 ⟨rfl,rfl⟩))
   have N1:Hid (∀i,KM.qu k (i+1)=(KM.qu k i&&KM.ic k.ak nF nL (KM.aq k.aj i))):=fun _=>by rw[TX.o,TW.o];exact(rfl:_=_)
   have xS:Hid (∀i,i<nP->KM.ic k.ak nF nL (KM.aq k.aj i)=false->A=1):=fun i hi h=>Kj.o.sp i (by have:=Ho.o;omega) (by rw[<- TX.o,<- TW.o];exact h)
   clear k0 k1 k2 k3 k4 pj xR Ro J9 N7 vo
   go_wp2
   go_loopw [3] (fun iv wq=>∃i:Nat,i<=nP/\iv=I (i:Int)/\KM.qu k i=true/\Below WA.heap.size WA wq) (fun iv _=>nP-(intOf iv).toNat)
   case atStart=>exact⟨0,by omega,rfl,rfl,aZ.o⟩
   case round =>
    obtain⟨i,hi,rfl,Vc,sG⟩:=hrel
    have DX:=ai Vc
    have sJ:=ai sG
    obtain⟨k0,k1,k2,k3,k4⟩:=B.c5 (KB.o wr sG)
    by_cases hlt:i<nP
    · have J0:(i:Int)<(nP:Int):=by omega
      obtain⟨pb,po,lv,aa,la,ca,ap,le,cp,hao,hcl,XJ⟩:=Qr.o wr i sG hlt
      have HST:=ai (N1.o i)
      have yH:=ai (xS.o i hlt)
      obtain⟨bv,Q9⟩:=ex (KM.ic k.ak nF nL (KM.aq k.aj i))
      rw[<- Q9] at XJ HST yH
      have mN:=Q.dO wr
      rw[hao] at XJ k3 KB
      have GJ:∀x:Q.eU wr.heap.size wr,x.world.cell? (Ad w.heap.size 0)=some (.slice a.aS nS a.cS):=fun x=>B.cell (KB.o _ (sJ.o.trans (x.keeps.mono sJ.o.size))) 0 rfl
      have GI:∀x:Q.eU wr.heap.size wr,x.world.cell? (Ad w.heap.size 1)=some (.slice a.aF nF a.cF):=fun x=>B.cell (KB.o _ (sJ.o.trans (x.keeps.mono sJ.o.size))) 1 rfl
      have JW:∀x:Q.eU wr.heap.size wr,x.world.cell? (Ad w.heap.size 2)=some (.slice a.aL nL a.cL):=fun x=>B.cell (KB.o _ (sJ.o.trans (x.keeps.mono sJ.o.size))) 2 rfl
      have GH:∀x:Q.eU wr.heap.size wr,x.world.cell? (Ad w.heap.size 3)=some (.slice (some (Ad pb po)) nP a.cP):=fun x=>B.cell (KB.o _ (sJ.o.trans (x.keeps.mono sJ.o.size))) 3 rfl
      have XD:∀x:Q.eU wr.heap.size wr,x.world.cell? (Ad w.heap.size 4)=some (I k.hand):=fun x=>B.cell (KB.o _ (sJ.o.trans (x.keeps.mono sJ.o.size))) 4 rfl
      have s0:∀x:Q.eU wr.heap.size wr,x.world.cell? (Ad pb (po+i*3))=some (.bool lv):=fun x=>(hcl _ x.keeps).1
      have s1:∀x:Q.eU wr.heap.size wr,x.world.cell? (Ad pb (po+i*3+1))=some (.slice aa la ca):=fun x=>(hcl _ x.keeps).2.1
      have s2:∀x:Q.eU wr.heap.size wr,x.world.cell? (Ad pb (po+i*3+2))=some (.slice ap le cp):=fun x=>(hcl _ x.keeps).2.2
      have iy:=ai XJ
      clear hcl XJ Q9 Vc sG Qr N1 xS HRM N2 Gc FZ FV
      go_upto_region 8 with fail
      refine Q.bc (by kernel_rfl) (by kernel_rfl) ?_
      repeat (first | go_big_quiet_step ((go_at_call 46;exact fF _ iy.o)) | quiet_step ((go_at_call 46;exact fF _ iy.o)))
      refine wpQuiet_nil ?_
      rintro _ ⟨X,rfl⟩
      have n7:=ai (sJ.o.trans (X.keeps.mono sJ.o.size))
      clear s0 s1 s2 GJ GI JW GH XD mN
      cases bv with
      | false =>
       have e0:A=1:=yH.o rfl
       subst e0
       go_wp2
       go_ret
       exact⟨rfl,bI.o.trans (n7.o.mono bI.o.size)⟩
      | true =>
       have Ge:Hid (KM.qu k (i+1)=true):=(show KM.qu k (i+1)=true by rw[HST.o,DX.o];rfl)
       go_wp2
       go_roundw
       case rel=>exact⟨i+1,by omega,by go_num,Ge.o,n7.o⟩
       case measure=>simp[intOf];omega
    · obtain rfl:nP=i:=by omega
      have hsp:KM.qu k k.aj.length=true:=by rw[<- Ho.o];exact Vc
      have TI:=HRM hsp
      have Qw:=N2 hsp
      have Wz:=ai hsp
      have DT:=KW.rz k.aj k.aj.length
      have SF:0<=KM.room k.aj/\KM.room k.aj<=65025*1000000:=by
       have:=Ho.o
       unfold KM.room
       omega
      have HRO:Hid (¬KM.room k.aj<=(nL:Int)->A=1):=fun h=>Kj.o.room (by rw[<- TW.o];exact h)
      have WI:Hid (KM.room k.aj<=(nL:Int)->KM.room k.aj<=(k.slots.length:Int)):=fun h=>by rw[<- TW.o];exact h
      obtain⟨RM,G0⟩:=ex (KM.room k.aj)
      rw[<- G0] at TI SF HRO
      have WJ:=ai G0
      have mN:=Q.dO wr
      have GJ:∀x:Q.eU wr.heap.size wr,x.world.cell? (Ad w.heap.size 0)=some (.slice a.aS nS a.cS):=fun x=>B.cell (KB.o _ (sJ.o.trans (x.keeps.mono sJ.o.size))) 0 rfl
      have GI:∀x:Q.eU wr.heap.size wr,x.world.cell? (Ad w.heap.size 1)=some (.slice a.aF nF a.cF):=fun x=>B.cell (KB.o _ (sJ.o.trans (x.keeps.mono sJ.o.size))) 1 rfl
      have JW:∀x:Q.eU wr.heap.size wr,x.world.cell? (Ad w.heap.size 2)=some (.slice a.aL nL a.cL):=fun x=>B.cell (KB.o _ (sJ.o.trans (x.keeps.mono sJ.o.size))) 2 rfl
      have GH:∀x:Q.eU wr.heap.size wr,x.world.cell? (Ad w.heap.size 3)=some (.slice a.aP nP a.cP):=fun x=>B.cell (KB.o _ (sJ.o.trans (x.keeps.mono sJ.o.size))) 3 rfl
      have XD:∀x:Q.eU wr.heap.size wr,x.world.cell? (Ad w.heap.size 4)=some (I k.hand):=fun x=>B.cell (KB.o _ (sJ.o.trans (x.keeps.mono sJ.o.size))) 4 rfl
      have HRK:=ai (fun V (hV:Below wr.heap.size wr V)=>TI.o V (sJ.o.trans (hV.mono sJ.o.size)))
      clear hsp HRM N2 DT G0 Vc sG Qr N1 xS TI hlt
      go_upto_region 10 with fail
      refine Q.bc (by kernel_rfl) (by kernel_rfl) ?_
      repeat (first | go_big_quiet_step ((go_at_call 47;exact fF _ HRK.o)) | quiet_step ((go_at_call 47;exact fF _ HRK.o)))
      refine wpQuiet_nil ?_
      rintro _ ⟨X,rfl⟩
      have n7:=ai (sJ.o.trans (X.keeps.mono sJ.o.size))
      clear GJ GI JW GH XD mN HRK k0 k1 k2 k3 k4
      by_cases hr:RM<=(nL:Int)
      · have hr2:¬(nL:Int)<RM:=by omega
        have HRY:Hid (KM.room k.aj<=(k.slots.length:Int)):=WI.o (by rw[<- WJ.o];exact hr)
        have Rx:Hid (∀i:Nat,KM.u9 k (i+1)=(KM.u9 k i&&KM.zy k.ak (KM.aD k.frames i) (KM.dg k.aj 1 i))):=fun _=>rfl
        have Gb:Hid (∀i:Nat,i<nF->KM.zy k.ak (KM.aD k.frames i) (KM.dg k.aj 1 i)=false->A=1):=fun i hi h=>Kj.o.fr i (by have:=TX.o;omega) h
        clear HRO WI hr WJ
        go_wp2
        go_loopw [4] (fun iv wq=>∃i:Nat,i<=nF/\iv=I (i:Int)/\KM.u9 k i=true/\Below WA.heap.size WA wq) (fun iv _=>nF-(intOf iv).toNat)
        case atStart=>exact⟨0,by omega,rfl,rfl,n7.o⟩
        case round =>
         obtain⟨i,hi,rfl,Ml,sG⟩:=hrel
         have NC:=ai Ml
         have sJ:=ai sG
         obtain⟨k0,k1,k2,k3,k4⟩:=B.c5 (KB.o wr sG)
         by_cases hlt:i<nF
         · have J0:(i:Int)<(nF:Int):=by omega
           obtain⟨fb,fo,hfo,z0,z1,z2,z3⟩:=FZ.o wr i sG hlt
           have DX:=ai (Rx.o i)
           have yH:=ai (Gb.o i hlt)
           obtain⟨f,hf⟩:=ex (KM.aD k.frames i)
           rw[<- hf] at z0 z1 z2 z3 DX yH
           obtain⟨d,rf,dy,sn⟩:=f
           simp only at z0 z1 z2 z3
           obtain⟨W1,hW1⟩:=ex (wr.alloc (.cells #[.string d,I rf,.bool dy,.bool sn] 40))
           have hb1:Below wr.heap.size wr W1:=by rw[hW1];exact(Below.refl _ _).alloc (Nat.le_refl _) _
           have Hr:W1.heap[wr.heap.size]?=some (.cells #[.string d,I rf,.bool dy,.bool sn] 40 (0,0)):=by rw[hW1];exact B.new _ _ _
           have tA:=sG.trans (hb1.mono sG.size)
           have cj:=ai tA
           have Hi:=ai Hr
           have pj:=ai hW1
           obtain⟨nn,np,Lv,q1,q2,q3,q4,p9,hn0,hsh,hcl⟩:=Qw.o W1 1 (i:Int) tA
           rw[p9] at DX yH
           have FY:=ai hcl
           have Hj:=ai hsh
           rw[hfo] at k1
           go_upto_region 16 with fail
           rw[<- pj.o]
           obtain⟨xb,Br⟩:=ex wr.heap.size
           rw[<- Br] at Hi ⊢
           clear hW1 hb1 Hr tA Ml sG hf p9 hsh hcl Br k0 k1 k2 k3 k4 z0 z1 z2 z3 hfo
           obtain⟨k0,k1,k2,k3,k4⟩:=B.c5 (KB.o W1 cj.o)
           go_upto_region 17 with(go_at_call 48;refine FY.o.mono ?_;rintro e w2 ⟨rfl,hb2⟩;have bY:=ai hb2;clear hb2)
           have hb3:Below W1.heap.size W1 (w2.alloc (.cells #[I q1,I q2,I q3,.bool q4] 47)):=bY.o.alloc bY.o.size _
           have NZ:=ai (B.new w2 #[I q1,I q2,I q3,.bool q4] 47)
           obtain⟨W3,hW3⟩:=ex (w2.alloc (.cells #[I q1,I q2,I q3,.bool q4] 47))
           obtain⟨yb,U6⟩:=ex w2.heap.size
           rw[<- hW3] at hb3 NZ ⊢
           rw[<- U6] at NZ ⊢
           have dC:=ai (cj.o.trans (hb3.mono cj.o.size))
           have DD:=ai (B.below Hi.o hb3 (B.isLt Hi.o))
           clear hW3 U6 hb3 k0 k1 k2 k3 k4
           obtain⟨BD,hBD⟩:=ex (!(KM.zy k.ak ⟨d,rf,dy,sn⟩ ⟨nn,np,Lv,⟨q1,q2,q3,q4⟩⟩))
           have x7:=ai hBD
           have HBN:Hid (KM.zy k.ak ⟨d,rf,dy,sn⟩ ⟨nn,np,Lv,⟨q1,q2,q3,q4⟩⟩=!BD):=(show KM.zy k.ak ⟨d,rf,dy,sn⟩ ⟨nn,np,Lv,⟨q1,q2,q3,q4⟩⟩=!BD by rw[hBD,Bool.not_not])
           rw[HBN.o] at DX yH
           clear hBD HBN
           go_cut [135] (fun c wx=>c=.bool BD/\Below W3.heap.size W3 wx)
           case first =>
            have mN:=Q.dO W3
            have GJ:∀x:Q.eU W3.heap.size W3,x.world.cell? (Ad w.heap.size 0)=some (.slice a.aS nS a.cS):=fun x=>B.cell (KB.o _ (dC.o.trans (x.keeps.mono dC.o.size))) 0 rfl
            have GI:∀x:Q.eU W3.heap.size W3,x.world.cell? (Ad w.heap.size 1)=some (.slice a.aF nF a.cF):=fun x=>B.cell (KB.o _ (dC.o.trans (x.keeps.mono dC.o.size))) 1 rfl
            have JW:∀x:Q.eU W3.heap.size W3,x.world.cell? (Ad w.heap.size 2)=some (.slice a.aL nL a.cL):=fun x=>B.cell (KB.o _ (dC.o.trans (x.keeps.mono dC.o.size))) 2 rfl
            have GH:∀x:Q.eU W3.heap.size W3,x.world.cell? (Ad w.heap.size 3)=some (.slice a.aP nP a.cP):=fun x=>B.cell (KB.o _ (dC.o.trans (x.keeps.mono dC.o.size))) 3 rfl
            have XD:∀x:Q.eU W3.heap.size W3,x.world.cell? (Ad w.heap.size 4)=some (I k.hand):=fun x=>B.cell (KB.o _ (dC.o.trans (x.keeps.mono dC.o.size))) 4 rfl
            have x0:∀x:Q.eU W3.heap.size W3,x.world.cell? (Ad xb 0)=some (.string d):=fun x=>B.cell (B.below DD.o x.keeps (B.isLt DD.o)) 0 rfl
            have x1:∀x:Q.eU W3.heap.size W3,x.world.cell? (Ad xb 1)=some (I rf):=fun x=>B.cell (B.below DD.o x.keeps (B.isLt DD.o)) 1 rfl
            have x2:∀x:Q.eU W3.heap.size W3,x.world.cell? (Ad xb 2)=some (.bool dy):=fun x=>B.cell (B.below DD.o x.keeps (B.isLt DD.o)) 2 rfl
            have x3:∀x:Q.eU W3.heap.size W3,x.world.cell? (Ad xb 3)=some (.bool sn):=fun x=>B.cell (B.below DD.o x.keeps (B.isLt DD.o)) 3 rfl
            have y0:∀x:Q.eU W3.heap.size W3,x.world.cell? (Ad yb 0)=some (I q1):=fun x=>B.cell (B.below NZ.o x.keeps (B.isLt NZ.o)) 0 rfl
            have y1:∀x:Q.eU W3.heap.size W3,x.world.cell? (Ad yb 1)=some (I q2):=fun x=>B.cell (B.below NZ.o x.keeps (B.isLt NZ.o)) 1 rfl
            have y2:∀x:Q.eU W3.heap.size W3,x.world.cell? (Ad yb 2)=some (I q3):=fun x=>B.cell (B.below NZ.o x.keeps (B.isLt NZ.o)) 2 rfl
            have y3:∀x:Q.eU W3.heap.size W3,x.world.cell? (Ad yb 3)=some (.bool q4):=fun x=>B.cell (B.below NZ.o x.keeps (B.isLt NZ.o)) 3 rfl
            have aa9:Hid (∀V,Below W3.heap.size W3 V->nn≠0->Calls Tryz.prog 49 #[.agg #[.slice a.aS nS a.cS,.slice a.aF nF a.cF,.slice a.aL nL a.cL,.slice a.aP nP a.cP,I k.hand],.agg #[I q1,I q2,I q3,.bool q4],I np] V fun e w'=>e=.returned (.string (KM.dh k.ak np q4))/\Below V.heap.size V w'):=fun V hV hne=>Gc.o V q1 q2 q3 q4 np (dC.o.trans (hV.mono dC.o.size)) (Hj.o hne)
            clear DX yH NC Qw Gc FZ FV Rx Gb Kj Wz HRY Rw DF TX TW Ho
            by_cases h1:rf=nn
            · have H1:=ai h1
              subst h1
              by_cases h2:rf=0
              · subst h2
                by_cases h3:d.size=0
                · have h3':d=⟨#[]⟩:=by
                   obtain⟨⟨l⟩⟩:=d
                   have:l.length=0:=h3
                   have e:=List.length_eq_zero_iff.1 this
                   subst e
                   rfl
                  subst h3'
                  cases dy with
                  | true =>
                   as_aux_lemma =>
                    refine Q.bc (by kernel_rfl) (by kernel_rfl) ?_
                    repeat (first | go_big_quiet_step (fail) | quiet_step (fail))
                    refine wpQuiet_nil ?_
                    intro _ hw'
                    obtain⟨x,hw''⟩:=hw'
                    subst hw''
                    go_wp2
                    go_meet
                    exact⟨by rw[x7.o];simp[KM.zy,KM.sD] <;> rfl,x.keeps⟩
                  | false =>
                   cases sn with
                   | true =>
                    as_aux_lemma =>
                     refine Q.bc (by kernel_rfl) (by kernel_rfl) ?_
                     repeat (first | go_big_quiet_step (fail) | quiet_step (fail))
                     refine wpQuiet_nil ?_
                     intro _ hw'
                     obtain⟨x,hw''⟩:=hw'
                     subst hw''
                     go_wp2
                     go_meet
                     exact⟨by rw[x7.o];simp[KM.zy,KM.sD] <;> rfl,x.keeps⟩
                   | false =>
                    as_aux_lemma =>
                     refine Q.bc (by kernel_rfl) (by kernel_rfl) ?_
                     repeat (first | go_big_quiet_step (fail) | quiet_step (fail))
                     refine wpQuiet_nil ?_
                     intro _ hw'
                     obtain⟨x,hw''⟩:=hw'
                     subst hw''
                     go_wp2
                     go_meet
                     exact⟨by rw[x7.o];simp[KM.zy,KM.sD] <;> rfl,x.keeps⟩
                · have hd:d.toList.isEmpty=false:=by
                   rw[Go.ByteArray.toList_eq]
                   obtain⟨⟨l⟩⟩:=d
                   cases l with
                   | nil=>exact absurd rfl h3
                   | cons x r=>rfl
                  have hd2:(d.toList==[])=false:=by
                   cases hq:d.toList with
                   | nil=>rw[hq] at hd;cases hd
                   | cons x r=>rfl
                  as_aux_lemma =>
                   refine Q.bc (by kernel_rfl) (by kernel_rfl) ?_
                   repeat (first | go_big_quiet_step (fail) | quiet_step (fail))
                   refine wpQuiet_nil ?_
                   intro _ hw'
                   obtain⟨x,hw''⟩:=hw'
                   subst hw''
                   go_wp2
                   go_meet
                   exact⟨by rw[x7.o];simp[KM.zy,KM.sD,h3],x.keeps⟩
              · have b2:(rf==0)=false:=by simpa using h2
                have uj:0<rf:=by omega
                cases Lv with
                | false =>
                 as_aux_lemma =>
                  refine Q.bc (by kernel_rfl) (by kernel_rfl) ?_
                  repeat (first | go_big_quiet_step (fail) | quiet_step (fail))
                  refine wpQuiet_nil ?_
                  intro _ hw'
                  obtain⟨x,hw''⟩:=hw'
                  subst hw''
                  go_wp2
                  go_meet
                  exact⟨by rw[x7.o];simp[KM.zy,KM.sD,uj],x.keeps⟩
                | true =>
                 by_cases h4:d.size=16
                 · have h4i:((d.size:Int) != 16)=false:=by rw[h4];rfl
                   cases dy with
                   | true =>
                    as_aux_lemma =>
                     refine Q.bc (by kernel_rfl) (by kernel_rfl) ?_
                     repeat (first | go_big_quiet_step (fail) | quiet_step (fail))
                     refine wpQuiet_nil ?_
                     intro _ hw'
                     obtain⟨x,hw''⟩:=hw'
                     subst hw''
                     go_wp2
                     go_meet
                     exact⟨by rw[x7.o];simp[KM.zy,KM.sD,uj,h2,h4],x.keeps⟩
                   | false =>
                    have Gd:=ai (fun V hV=>aa9.o V hV h2)
                    as_aux_lemma =>
                     refine Q.bc (by kernel_rfl) (by kernel_rfl) ?_
                     repeat (first | go_big_quiet_step ((go_at_call 49;exact fF _ Gd.o)) | quiet_step ((go_at_call 49;exact fF _ Gd.o)))
                     refine wpQuiet_nil ?_
                     intro _ hw'
                     obtain⟨x,hw''⟩:=hw'
                     subst hw''
                     go_wp2
                     go_meet
                     exact⟨by rw[x7.o];simp[KM.zy,KM.sD,uj,h2,h4,KW.Rh,bne],x.keeps⟩
                 · have h4i:((d.size:Int) != 16)=true:=by rw[bne_iff_ne];omega
                   as_aux_lemma =>
                    refine Q.bc (by kernel_rfl) (by kernel_rfl) ?_
                    repeat (first | go_big_quiet_step (fail) | quiet_step (fail))
                    refine wpQuiet_nil ?_
                    intro _ hw'
                    obtain⟨x,hw''⟩:=hw'
                    subst hw''
                    go_wp2
                    go_meet
                    exact⟨by rw[x7.o];simp[KM.zy,KM.sD,uj,h2,h4],x.keeps⟩
            · have b1:(rf != nn)=true:=by simpa using h1
              as_aux_lemma =>
               refine Q.bc (by kernel_rfl) (by kernel_rfl) ?_
               repeat (first | go_big_quiet_step (fail) | quiet_step (fail))
               refine wpQuiet_nil ?_
               intro _ hw'
               obtain⟨x,hw''⟩:=hw'
               subst hw''
               go_wp2
               go_meet
               exact⟨by rw[x7.o];simp[KM.zy,KM.sD,h1],x.keeps⟩
           case rest =>
            obtain⟨rfl,hbc⟩:=hcut
            have HBC:=ai (dC.o.trans (hbc.mono dC.o.size))
            cases BD with
            | true =>
             have e0:A=1:=yH.o rfl
             subst e0
             go_wp2
             go_ret
             exact⟨rfl,bI.o.trans (HBC.o.mono bI.o.size)⟩
            | false =>
             have Ge:Hid (KM.u9 k (i+1)=true):=(show KM.u9 k (i+1)=true by rw[DX.o,NC.o];rfl)
             go_wp2
             go_roundw
             case rel=>exact⟨i+1,by omega,by go_num,Ge.o,HBC.o⟩
             case measure=>simp[intOf];omega
         · obtain rfl:nF=i:=by omega
           have aa5:Hid (KM.u9 k k.frames.length=true):=(show KM.u9 k k.frames.length=true by rw[<- TX.o];exact Ml)
           have Xc:Hid (∀i:Nat,KM.uS k (i+1)=(KM.uS k i&&KM.DR (KM.bk k.slots i) (KM.dg k.aj 2 i))):=fun _=>rfl
           have Bn:Hid (∀i:Nat,i<nL->KM.DR (KM.bk k.slots i) (KM.dg k.aj 2 i)=false->A=1):=fun i hi h=>Kj.o.sl i (by have:=TW.o;omega) h
           clear Rx Gb FZ Gc Ml sG hlt
           go_wp2
           go_loopw [10] (fun iv wq=>∃i:Nat,i<=nL/\iv=I (i:Int)/\KM.uS k i=true/\Below WA.heap.size WA wq) (fun iv _=>nL-(intOf iv).toNat)
           case atStart=>exact⟨0,by omega,rfl,rfl,sJ.o⟩
           case round =>
            obtain⟨i,hi,rfl,Ml,sG⟩:=hrel
            have NC:=ai Ml
            have abj:=ai sG
            obtain⟨k0,k1,k2,k3,k4⟩:=B.c5 (KB.o wr sG)
            by_cases hlt:i<nL
            · have J0:(i:Int)<(nL:Int):=by omega
              obtain⟨fb,fo,hfo,z0,z1⟩:=FV.o wr i sG hlt
              have DX:=ai (Xc.o i)
              have yH:=ai (Bn.o i hlt)
              obtain⟨f,hf⟩:=ex (KM.bk k.slots i)
              rw[<- hf] at z0 z1 DX yH
              obtain⟨d,rf⟩:=f
              simp only at z0 z1
              obtain⟨W1,hW1⟩:=ex (wr.alloc (.cells #[.string d,I rf] 86))
              have hb1:Below wr.heap.size wr W1:=by rw[hW1];exact(Below.refl _ _).alloc (Nat.le_refl _) _
              have Hr:W1.heap[wr.heap.size]?=some (.cells #[.string d,I rf] 86 (0,0)):=by rw[hW1];exact B.new _ _ _
              have tA:=sG.trans (hb1.mono sG.size)
              have cj:=ai tA
              have Hi:=ai Hr
              have pj:=ai hW1
              obtain⟨nn,np,Lv,q1,q2,q3,q4,p9,hn0,_,hcl⟩:=Qw.o W1 2 (i:Int) tA
              rw[p9] at DX yH
              have FY:=ai hcl
              rw[hfo] at k2
              go_upto_region 23 with fail
              rw[<- pj.o]
              obtain⟨xb,Br⟩:=ex wr.heap.size
              rw[<- Br] at Hi ⊢
              clear hW1 hb1 Hr tA Ml sG hf p9 hcl Br k0 k1 k2 k3 k4 z0 z1 hfo
              obtain⟨k0,k1,k2,k3,k4⟩:=B.c5 (KB.o W1 cj.o)
              go_upto_region 24 with(go_at_call 48;refine FY.o.mono ?_;rintro e w2 ⟨rfl,hb2⟩;have bY:=ai hb2;clear hb2)
              have hb3:Below W1.heap.size W1 (w2.alloc (.cells #[I q1,I q2,I q3,.bool q4] 47)):=bY.o.alloc bY.o.size _
              obtain⟨W3,hW3⟩:=ex (w2.alloc (.cells #[I q1,I q2,I q3,.bool q4] 47))
              rw[<- hW3] at hb3 ⊢
              have dC:=ai (cj.o.trans (hb3.mono cj.o.size))
              obtain⟨x0,x1⟩:=B.c2 (B.below Hi.o hb3 (B.isLt Hi.o))
              have l5:Hid (KM.DR ⟨d,rf⟩ ⟨nn,np,Lv,⟨q1,q2,q3,q4⟩⟩=KM.DR ⟨d,rf⟩ ⟨nn,np,Lv,⟨q1,q2,q3,q4⟩⟩):=rfl
              clear hW3 hb3 k0 k1 k2 k3 k4 Qw FV Xc Bn FY Hi bY
              by_cases h1:rf=nn
              · subst h1
                by_cases h2:rf=0
                · subst h2
                  by_cases h3:d.size=0
                  · have h3':d=⟨#[]⟩:=by
                     obtain⟨⟨l⟩⟩:=d
                     have:l.length=0:=h3
                     have e:=List.length_eq_zero_iff.1 this
                     subst e
                     rfl
                    subst h3'
                    have Ge:Hid (KM.uS k (i+1)=true):=(show KM.uS k (i+1)=true by rw[DX.o,NC.o,l5.o];simp[KM.DR,KM.nt] <;> rfl)
                    go_wp2
                    go_roundw
                    case rel=>exact⟨i+1,by omega,by go_num,Ge.o,dC.o⟩
                    case measure=>simp[intOf];omega
                  · have hd:d.toList.isEmpty=false:=by
                     rw[Go.ByteArray.toList_eq]
                     obtain⟨⟨l⟩⟩:=d
                     cases l with
                     | nil=>exact absurd rfl h3
                     | cons x r=>rfl
                    have hd2:(d.toList==[])=false:=by
                     cases hq:d.toList with
                     | nil=>rw[hq] at hd;cases hd
                     | cons x r=>rfl
                    have e0:=yH.o (by rw[l5.o];simp[KM.DR,KM.nt,h3])
                    subst e0
                    go_wp2
                    go_ret
                    exact⟨rfl,bI.o.trans (dC.o.mono bI.o.size)⟩
                · have b2:(rf==0)=false:=by simpa using h2
                  have uj:0<rf:=by omega
                  cases Lv with
                  | false =>
                   have e0:=yH.o (by rw[l5.o];simp[KM.DR,KM.nt,uj])
                   subst e0
                   go_wp2
                   go_ret
                   exact⟨rfl,bI.o.trans (dC.o.mono bI.o.size)⟩
                  | true =>
                   by_cases h4:d.size=16
                   · have h4i:((d.size:Int) != 16)=false:=by rw[h4];rfl
                     have Ge:Hid (KM.uS k (i+1)=true):=(show KM.uS k (i+1)=true by rw[DX.o,NC.o,l5.o];simp[KM.DR,KM.nt,uj,h2,h4])
                     go_wp2
                     go_roundw
                     case rel=>exact⟨i+1,by omega,by go_num,Ge.o,dC.o⟩
                     case measure=>simp[intOf];omega
                   · have h4i:((d.size:Int) != 16)=true:=by rw[bne_iff_ne];omega
                     have e0:=yH.o (by rw[l5.o];simp[KM.DR,KM.nt,uj,h2,h4])
                     subst e0
                     go_wp2
                     go_ret
                     exact⟨rfl,bI.o.trans (dC.o.mono bI.o.size)⟩
              · have b1:(rf != nn)=true:=by simpa using h1
                have e0:=yH.o (by rw[l5.o];simp[KM.DR,KM.nt,h1])
                subst e0
                go_wp2
                go_ret
                exact⟨rfl,bI.o.trans (dC.o.mono bI.o.size)⟩
            · obtain rfl:nL=i:=by omega
              have e0:A=0:=Kj.o.yes DF.o Rw.o Wz.o HRY.o aa5.o (by rw[<- TW.o];exact Ml)
              subst e0
              go_wp2
              go_ret
              exact⟨rfl,bI.o.trans (abj.o.mono bI.o.size)⟩
      · have hr2:(nL:Int)<RM:=by omega
        have e0:A=1:=HRO.o hr
        subst e0
        go_wp2
        go_ret
        exact⟨rfl,bI.o.trans (n7.o.mono bI.o.size)⟩
 · have Bx:KM.jw k=2:=by
    unfold KM.jw
    rw[if_pos (by simpa using hcn)]
   rw[Bx]
   have E8:¬((3<=nF/\nF<=64)/\nL<=512/\(1<=nP/\nP<=4)/\nS<=255):=by rw[NL,hnF,Me,Je];exact fun g=>hcn (decide_eq_true g)
   obtain⟨k0,k1,k2,k3,k4⟩:=B.c5 (KB.o WA (Below.refl _ _))
   have pj:=ai (fun V=>yD.o (nF:Int) 3 64 V)
   have xR:=ai (fun V=>yD.o (nP:Int) 1 4 V)
   rcases(show ¬(3<=(nF:Int)/\(nF:Int)<=64)∨((3<=(nF:Int)/\(nF:Int)<=64)/\512<(nL:Int))∨((3<=(nF:Int)/\(nF:Int)<=64)/\¬512<(nL:Int)/\¬(1<=(nP:Int)/\(nP:Int)<=4))∨((3<=(nF:Int)/\(nF:Int)<=64)/\¬512<(nL:Int)/\(1<=(nP:Int)/\(nP:Int)<=4)/\255<(nS:Int)) by omega) with g | ⟨g,g1⟩ | ⟨g,g1,g2⟩ | ⟨g,g1,g2,g3⟩
   · rw[decide_eq_false g] at pj
     clear hK hF hb0 kb dx pI eW hcn Bx E8 yD NL hnF Me Je J9
     go_enter Tryz.func14,Tryz.ntmps14
     go_upto_region 1 with fail
     rw[<- eV.o]
     go_wp2_with (first
      | (have _:=FIRST;go_at_call 44;refine(xR.o _).mono ?_;rintro e w2 ⟨rfl,rfl⟩)
      | (go_at_call 44;refine(pj.o _).mono ?_;rintro e w1 ⟨rfl,rfl⟩;have FIRST:=trivial))
     go_ret
     exact⟨rfl,bI.o⟩
   · rw[decide_eq_true g] at pj
     clear hK hF hb0 kb dx pI eW hcn Bx E8 yD NL hnF Me Je J9
     go_enter Tryz.func14,Tryz.ntmps14
     go_upto_region 1 with fail
     rw[<- eV.o]
     go_wp2_with (first
      | (have _:=FIRST;go_at_call 44;refine(xR.o _).mono ?_;rintro e w2 ⟨rfl,rfl⟩)
      | (go_at_call 44;refine(pj.o _).mono ?_;rintro e w1 ⟨rfl,rfl⟩;have FIRST:=trivial))
     go_ret
     exact⟨rfl,bI.o⟩
   · rw[decide_eq_true g] at pj
     rw[decide_eq_false g2] at xR
     clear hK hF hb0 kb dx pI eW hcn Bx E8 yD NL hnF Me Je J9
     go_enter Tryz.func14,Tryz.ntmps14
     go_upto_region 1 with fail
     rw[<- eV.o]
     go_wp2_with (first
      | (have _:=FIRST;go_at_call 44;refine(xR.o _).mono ?_;rintro e w2 ⟨rfl,rfl⟩)
      | (go_at_call 44;refine(pj.o _).mono ?_;rintro e w1 ⟨rfl,rfl⟩;have FIRST:=trivial))
     go_ret
     exact⟨rfl,bI.o⟩
   · rw[decide_eq_true g] at pj
     rw[decide_eq_true g2] at xR
     clear hK hF hb0 kb dx pI eW hcn Bx E8 yD NL hnF Me Je J9
     go_enter Tryz.func14,Tryz.ntmps14
     go_upto_region 1 with fail
     rw[<- eV.o]
     go_wp2_with (first
      | (have _:=FIRST;go_at_call 44;refine(xR.o _).mono ?_;rintro e w2 ⟨rfl,rfl⟩)
      | (go_at_call 44;refine(pj.o _).mono ?_;rintro e w1 ⟨rfl,rfl⟩;have FIRST:=trivial))
     go_ret
     exact⟨rfl,bI.o⟩
end KR
end Go.Proofs.YtpgifpeohlllfaaGreat
